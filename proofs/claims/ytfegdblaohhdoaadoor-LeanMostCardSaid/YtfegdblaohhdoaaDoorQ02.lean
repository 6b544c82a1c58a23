/-
  addr's Link, Short and Long, and the document's: each by one function of the bytes. No condition.
  A message with the fields of its kind alone: what the program makes of it.
  Bits of bytes, as numbers: which are 1, which are kept, how many two texts have alike from the first one on.
  Contracts of the calls that only reckon: Bit, its bounds, a byte's mask and its noughts ahead, Alike; and the document's own.
  The calls that make bytes: Keep, and Clean, which asks it; and the document's own.
  The calls of layer 4, and the document's own: Least, Right, Cut, Fill, Lead.
  TLVs that have prefixes: prefixes in an encoding, which requests may be, their bytes, which request or Update a TLV says: definitions on values alone, and facts on them. No conditions.
  What is known at a place, which Updates may be, what a TLV makes of what is known and tells: definitions on values alone, and facts on them. No conditions.
  Whether a message has few parts, of few bytes (the document's guard). No condition.
  A region that draws its order: the store of a whole struct at its end, a struct built, a string's byte, a conversion. No conditions.
  A block of one's own that holds a struct's cells, whatever struct it is; an entry's fields; what fields' bytes are. No conditions.
  A list of Subs of a call's own, one appended behind the other: its cells, and that its Subs stand in the world; one operation of a region that draws its order. No conditions.
-/
import Derived.Test.YtfegdblaohhdoaaDoorQ01
import Derived.Test.YtfegdblaohhdoaaDoorRows
import Derived.WalkKit
import Derived.ProofKit
import Derived.OpenShut
import Derived.ShutString
import Derived.Below
import Derived.Lib.Hide
import Derived.WalkLawsBesides
import Derived.Outline
import Derived.RegionTactic
import Derived.Deep.RegionWith
import Derived.StillTailTactics
import Derived.Deep.RegionHeld3
import Derived.Deep.QuietTactic
import Derived.BigQuiet
import Derived.IntWalk
import Derived.LoopTactic
import Derived.Laws.IdiomStrings
import Derived.OwnWalk
import Derived.Laws.CopyOwn
import Derived.Lib.BufferWrite
import Derived.Lib.MinMax
import Derived.Laws.Rows
import Derived.Laws.Tables
import Derived.Deep.WholeRow
import Derived.Deep.DeepCutAuto
import Derived.Deep.Cut
import Derived.Laws.AppendOwn
namespace Go.Proofs.YtfegdblaohhdoaaDoor.Lk
open Go.ChangeShapes Go.WideShapes Go.ChangeAt Go.RowKit
open Go.Proofs.YtfegdblaohhdoaaDoor.Nu (text_eq)
set_option linter.unusedVariables false
set_option maxRecDepth 100000
set_option maxRecDepth 100000

theorem below_drewN {B : Nat} {a w : World} (h : Below B a w) (n : Nat) : Below B a (w.drewN n) := ⟨h.os, h.tape, h.output, h.size, h.block⟩
theorem bool_eq {a b : Bool} (h : a = b) : Ending.returned (.bool a) = .returned (.bool b) := by rw [h]
def lkH : ByteArray := ⟨#[254, 128, 0, 0, 0, 0, 0, 0]⟩
def lkB (s : ByteArray) : Bool := (s.extract 0 8).toList == [254, 128, 0, 0, 0, 0, 0, 0]
def link (s : ByteArray) : Bool := decide (s.size = 16) && lkB s
theorem link_yes {s : ByteArray} (h : s.size = 16) : link s = lkB s := by unfold link; rw [decide_eq_true h]; rfl
theorem link_no {s : ByteArray} (h : s.size ≠ 16) : link s = false := by unfold link; rw [decide_eq_false h]; rfl
/-- The short form, the long one. -/
def shA (a : ByteArray) : ByteArray := if link a then a.extract 8 a.size else ⟨#[]⟩
def lgA (a : ByteArray) : ByteArray := if a.size = 8 then lkH ++ a else ⟨#[]⟩
theorem link_size {a : ByteArray} (h : link a = true) : a.size = 16 := by unfold link at h; simp at h; exact h.1
theorem link_head {a : ByteArray} (h : link a = true) : a.extract 0 8 = lkH := by
  unfold link lkB at h
  simp only [Bool.and_eq_true, beq_iff_eq] at h
  refine text_eq ?_
  rw [← ByteArray.toList_eq, h.2]
  rfl
theorem sh_yes {a : ByteArray} (h : link a = true) : shA a = a.extract 8 a.size := by unfold shA; rw [if_pos h]
theorem sh_size {a : ByteArray} (h : link a = true) : (shA a).size = 8 := by
  have := link_size h
  rw [sh_yes h]; simp; omega
theorem lg_sh {a : ByteArray} (h : link a = true) : lgA (shA a) = a := by
  unfold lgA
  rw [if_pos (sh_size h), sh_yes h, ← link_head h]
  have := link_size h
  rw [ByteArray.extract_append_extract]
  refine text_eq ?_
  simp
/- What the library's HasPrefix answers of sixteen bytes. -/
theorem lite_any (s : ByteArray) (h : s.size = 16) (w : World) :
    Calls Tryd.prog 88 #[.string s, .string ⟨#[254, 128, 0, 0, 0, 0, 0, 0]⟩] w fun e w' => e = .returned (.bool (lkB s)) ∧ w' = w := by
  unfold lkB
  go_enter Tryd.func88, Tryd.ntmps88
  go_wp2
  go_ret
  exact ⟨rfl, rfl⟩
theorem pre_any (s : ByteArray) (h : s.size = 16) (w : World) :
    Calls Tryd.prog 82 #[.string s, .string ⟨#[254, 128, 0, 0, 0, 0, 0, 0]⟩] w fun e w' => e = .returned (.bool (lkB s)) ∧ w' = w := by
  have P1 := Lib.hid (fun w => lite_any s h w)
  go_enter Tryd.func82, Tryd.ntmps82
  go_wp2_with fail
  refine (P1.out _).mono ?_
  rintro e w' ⟨rfl, rfl⟩
  go_wp2
  go_ret
  exact ⟨rfl, rfl⟩
theorem family_yes (s : ByteArray) (h : s.size = 16) (w : World) :
    Calls Tryd.prog 46 #[.string s] w fun e w' => e = .returned (.int .i64 1) ∧ w' = w := by
  have e0 : ((s.size : Int) == 4) = false := by rw [beq_eq_false_iff_ne]; omega
  have e1 : ((s.size : Int) == 16) = true := by rw [beq_iff_eq]; omega
  clear h
  go_enter Tryd.func46, Tryd.ntmps46
  go_wp2
  go_ret
  exact ⟨rfl, rfl⟩
theorem family_no (s : ByteArray) (h : s.size ≠ 16) (w : World) :
    Calls Tryd.prog 46 #[.string s] w fun e w' => (e = .returned (.int .i64 0) ∨ e = .returned (.int .i64 (-1))) ∧ w' = w := by
  have e1 : ((s.size : Int) == 16) = false := by rw [beq_eq_false_iff_ne]; omega
  by_cases h4 : s.size = 4
  · have e0 : ((s.size : Int) == 4) = true := by rw [beq_iff_eq]; omega
    clear h h4
    go_enter Tryd.func46, Tryd.ntmps46
    go_wp2
    go_ret
    exact ⟨.inl rfl, rfl⟩
  · have e0 : ((s.size : Int) == 4) = false := by rw [beq_eq_false_iff_ne]; omega
    clear h h4
    go_enter Tryd.func46, Tryd.ntmps46
    go_wp2
    go_ret
    exact ⟨.inr rfl, rfl⟩
theorem link_any (s : ByteArray) (w : World) :
    Calls Tryd.prog 67 #[.string s] w fun e w' => e = .returned (.bool (link s)) ∧ w' = w := by
  by_cases h : s.size = 16
  · rw [link_yes h]
    have P1 := Lib.hid (fun w => family_yes s h w)
    have P2 := Lib.hid (fun w => pre_any s h w)
    clear h
    generalize lkB s = x at *
    go_enter Tryd.func67, Tryd.ntmps67
    go_wp2_with fail
    refine (P1.out _).mono ?_
    rintro e w' ⟨rfl, rfl⟩
    go_wp2_with fail
    refine (P2.out _).mono ?_
    rintro e w' ⟨rfl, rfl⟩
    go_wp2
    go_ret
    exact ⟨rfl, rfl⟩
  · rw [link_no h]
    have P1 := Lib.hid (fun w => family_no s h w)
    clear h
    go_enter Tryd.func67, Tryd.ntmps67
    go_wp2_with fail
    refine (P1.out _).mono ?_
    rintro e w' ⟨rfl | rfl, rfl⟩
    all_goals
      go_wp2
      go_ret
      exact ⟨rfl, rfl⟩
theorem rl_any (w : World) : Calls Tryd.prog 13 #[] w fun e w' => e = .returned (.string lkH) ∧ w' = w := by
  go_enter Tryd.func13, Tryd.ntmps13
  go_wp2
  go_ret
  exact ⟨rfl, rfl⟩
theorem lkB_eq (s : ByteArray) : ((s.extract 0 8).toList == lkH.toList) = lkB s := by
  unfold lkB
  rw [show lkH.toList = [254, 128, 0, 0, 0, 0, 0, 0] by rw [ByteArray.toList_eq]; rfl]
theorem rlink_any (s : ByteArray) (w : World) :
    Calls Tryd.prog 9 #[.string s] w fun e w' => e = .returned (.bool (link s)) ∧ ∃ n, w' = w.drewN n := by
  by_cases h6 : s.size = 16
  · have hs : (8 : Int) ≤ (s.size : Int) := by omega
    have e1 : ((s.size : Int) == 16) = true := by rw [beq_iff_eq]; omega
    have HH := Lib.hid (link_yes h6)
    have HP := Lib.hid (lkB_eq s)
    clear h6
    go_enter Tryd.func9, Tryd.ntmps9
    go_wp2
    go_quiet ((go_at_call 13; exact Calls.quiet_of_same (rl_any _)))
    go_wp2
    go_ret
    refine ⟨bool_eq ?_, _, rfl⟩
    rw [HP.out]
    exact HH.out.symm
  · have e : link s = false := link_no h6
    have e1 : ((s.size : Int) == 16) = false := by rw [beq_eq_false_iff_ne]; omega
    rw [e]
    clear h6 e
    go_enter Tryd.func9, Tryd.ntmps9
    go_wp2
    go_quiet ((go_at_call 13; exact Calls.quiet_of_same (rl_any _)))
    go_wp2
    go_ret
    exact ⟨rfl, _, rfl⟩
theorem rlink_bel (s : ByteArray) (w : World) :
    Calls Tryd.prog 9 #[.string s] w fun e w' => e = .returned (.bool (link s)) ∧ Below w.heap.size w w' := by
  refine (rlink_any s w).mono ?_
  rintro e w' ⟨rfl, n, rfl⟩
  exact ⟨rfl, below_drewN (Below.refl _ _) n⟩
theorem short_any (a : ByteArray) (w : World) :
    Calls Tryd.prog 65 #[.string a] w fun e w' => e = .returned (.tuple #[.string (shA a), .bool (link a)]) ∧ w = w' := by
  have P1 := Lib.hid (fun w => link_any a w)
  cases hl : link a with
  | false =>
    have e : shA a = ⟨#[]⟩ := by unfold shA; rw [hl]; rfl
    rw [e]
    rw [hl] at P1
    clear hl e
    go_enter Tryd.func65, Tryd.ntmps65
    go_wp2_with fail
    refine (P1.out _).mono ?_
    rintro e w' ⟨rfl, rfl⟩
    go_wp2
    go_ret2
    exact ⟨rfl, rfl⟩
  | true =>
    have e : shA a = a.extract 8 a.size := sh_yes hl
    have hs : (8 : Int) ≤ (a.size : Int) := by have := link_size hl; omega
    rw [e]
    rw [hl] at P1
    clear hl e
    go_enter Tryd.func65, Tryd.ntmps65
    go_wp2_with fail
    refine (P1.out _).mono ?_
    rintro e w' ⟨rfl, rfl⟩
    go_wp2
    go_ret2
    exact ⟨rfl, rfl⟩
end Go.Proofs.YtfegdblaohhdoaaDoor.Lk
namespace Go.Proofs.YtfegdblaohhdoaaDoor.Own
open Go.ChangeShapes Go.WideShapes Go.ChangeAt Go.RowKit
open Go.Proofs.YtfegdblaohhdoaaDoor.Ms
open Go.Proofs.YtfegdblaohhdoaaDoor.Box
open Go.Proofs.YtfegdblaohhdoaaDoor.Same
open Go.Proofs.YtfegdblaohhdoaaDoor.Or
set_option linter.unusedVariables false
set_option maxRecDepth 100000

def k1 (m : M) : M := { M.zero with cmd := m.cmd, ver := m.ver, auth := m.auth, family := m.family, tag := m.tag, pfx := m.pfx, plen := m.plen, next := m.next, metric := m.metric }
def k2 (m : M) : M := { M.zero with cmd := m.cmd, tag := m.tag, pfx := m.pfx, plen := m.plen, next := m.next, metric := m.metric }
def k3 (m : M) : M := { M.zero with flags := m.flags, hops := m.hops, nonce := m.nonce, addr := m.addr, seq := m.seq, orig := m.orig, seq2 := m.seq2, sa := m.sa, sl := m.sl, sc := m.sc }
def k4 (m : M) : M := { M.zero with flags := m.flags, plen := m.plen, hops := m.hops, addr := m.addr, seq := m.seq, orig := m.orig, interval := m.interval, sa := m.sa, sl := m.sl, sc := m.sc }
def k5 (m : M) : M := { M.zero with flags := m.flags, la := m.la, ll := m.ll, lc := m.lc, sa := m.sa, sl := m.sl, sc := m.sc }
def k6 (m : M) : M := { M.zero with sa := m.sa, sl := m.sl, sc := m.sc }
def k7 (m : M) : M := { M.zero with nonce := m.nonce, interval := m.interval, sa := m.sa, sl := m.sl, sc := m.sc }
def k8 (m : M) : M := { M.zero with nonce := m.nonce, sa := m.sa, sl := m.sl, sc := m.sc }
def k9 (m : M) : M := { M.zero with flags := m.flags, seq := m.seq, interval := m.interval, sa := m.sa, sl := m.sl, sc := m.sc }
def k10 (m : M) : M := { M.zero with ae := m.ae, cost := m.cost, interval := m.interval, addr := m.addr, sa := m.sa, sl := m.sl, sc := m.sc }
def k11 (m : M) : M := { M.zero with ae := m.ae, pfx := m.pfx, plen := m.plen, interval := m.interval, seq := m.seq, metric := m.metric, id := m.id, next := m.next, sa := m.sa, sl := m.sl, sc := m.sc }
def k12 (m : M) : M := { M.zero with ae := m.ae, pfx := m.pfx, plen := m.plen, sa := m.sa, sl := m.sl, sc := m.sc }
def k13 (m : M) : M := { M.zero with ae := m.ae, pfx := m.pfx, plen := m.plen, seq := m.seq, hops := m.hops, id := m.id, sa := m.sa, sl := m.sl, sc := m.sc }
def k14 (m : M) : M := { M.zero with typ := m.typ, data := m.data }
/-- The fields that it has by its kind, without the kind. -/
def fieldsOf (m : M) : M := if m.kind = 1 then k1 m else if m.kind = 2 then k2 m else if m.kind = 3 then k3 m else if m.kind = 4 then k4 m else if m.kind = 5 then k5 m else if m.kind = 6 then k6 m else if m.kind = 7 then k7 m else if m.kind = 8 then k8 m else if m.kind = 9 then k9 m else if m.kind = 10 then k10 m else if m.kind = 11 then k11 m else if m.kind = 12 then k12 m else if m.kind = 13 then k13 m else if m.kind = 14 then k14 m else M.zero
def isKind (m : M) : Bool := decide (1 ≤ m.kind ∧ m.kind ≤ 14)
def ownM (m : M) : M := if isKind m then { fieldsOf m with kind := m.kind } else M.zero

theorem results_pair {fn : Func} {p q : Nat} {ty : TypeId} (h : fn.results = #[.cell p ty, .tmp q]) {P : Program} (tmps : Array Value) (w : World) (g : Nat) (u : Value)
    (hp : tmps.getD p undef = .pointer (some ⟨g, 0, none⟩)) (hl : (loadVar ty ⟨g, 0, none⟩).run P w = .ok u w) (v : Value) (hv : tmps.getD q undef = v) :
    (results fn tmps).run P w = .ok (.tuple #[u, v]) w := by
  have hp' : tmps[p]?.getD undef = .pointer (some ⟨g, 0, none⟩) := by simpa using hp
  have hv' : tmps[q]?.getD undef = v := by simpa using hv
  simp [results, h, hp', hv', asAddr, hl]
theorem loadVarM {w : World} {b : Nat} {m : M} (h : Bx w b m) : (loadVar 29 ⟨b, 0, none⟩).run Tryd.prog w = .ok (.agg m.cells) w :=
  run_loadVar_row w b 29 29 m.cells (0, 0) _ h Tryd.underlying29 rfl infoM

/-- Three variables: the message, and two without anything. -/
theorem start3 (w : World) (m : M) : Bx (((w.alloc (.cells m.cells 29)).alloc (.cells M.zero.cells 29)).alloc (.cells M.zero.cells 29)) w.heap.size m ∧
    Bx (((w.alloc (.cells m.cells 29)).alloc (.cells M.zero.cells 29)).alloc (.cells M.zero.cells 29)) (w.heap.size + 1) M.zero ∧
    Bx (((w.alloc (.cells m.cells 29)).alloc (.cells M.zero.cells 29)).alloc (.cells M.zero.cells 29)) (w.heap.size + 1 + 1) M.zero ∧
    Below w.heap.size w (((w.alloc (.cells m.cells 29)).alloc (.cells M.zero.cells 29)).alloc (.cells M.zero.cells 29)) := by
  refine ⟨((Bx.new w m).old _).old _, ?_, ?_, balloc (balloc (balloc (Below.refl _ _) _) _) _⟩
  · have := (Bx.new (w.alloc (.cells m.cells 29)) M.zero).old (.cells M.zero.cells 29)
    rwa [alloc_size] at this
  · have := Bx.new ((w.alloc (.cells m.cells 29)).alloc (.cells M.zero.cells 29)) M.zero
    rwa [alloc_size, alloc_size] at this

end Go.Proofs.YtfegdblaohhdoaaDoor.Own
namespace Go.Proofs.YtfegdblaohhdoaaDoor.Bits
set_option linter.unusedVariables false
set_option maxRecDepth 100000

/-- the i-th bit of a byte's number, the highest first -/
def bitN (b p : Nat) : Bool := b.testBit (7 - p)

theorem bitN_eq (b p : Nat) : bitN b p = (b / 2 ^ (7 - p) % 2 == 1) := by
  unfold bitN
  rw [Nat.testBit_eq_decide_div_mod_eq]
  by_cases h : b / 2 ^ (7 - p) % 2 = 1 <;> simp [h]

theorem getD_in (l : List UInt8) (k : Nat) (h : k < l.length) : l.getD k 0 = l[k] := by simp [List.getD, h]
theorem getD_out (l : List UInt8) (k : Nat) (h : l.length ≤ k) : l.getD k 0 = 0 := by simp [List.getD, h]

def bitL (l : List UInt8) (i : Nat) : Bool := bitN (l.getD (i / 8) 0).toNat (i % 8)

theorem bitL_out (l : List UInt8) (i : Nat) (h : 8 * l.length ≤ i) : bitL l i = false := by
  unfold bitL
  rw [getD_out _ _ (by omega)]
  simp [bitN]

/-- the first m bits of a byte's number -/
def mask (b m : Nat) : Nat := (b >>> (8 - m)) <<< (8 - m)

theorem mask_eq (b m : Nat) : mask b m = b / 2 ^ (8 - m) * 2 ^ (8 - m) := by
  unfold mask; rw [Nat.shiftLeft_eq, Nat.shiftRight_eq_div_pow]

theorem mask_le (b m : Nat) : mask b m ≤ b := by rw [mask_eq]; exact Nat.div_mul_le_self _ _

theorem mask_all (b m : Nat) (h : 8 ≤ m) : mask b m = b := by
  rw [mask_eq, show 8 - m = 0 by omega]; simp

theorem mask_none (b : Nat) (h : b < 256) : mask b 0 = 0 := by
  rw [mask_eq]; omega

theorem bitN_mask (b m p : Nat) (hp : p < 8) : bitN (mask b m) p = (decide (p < m) && bitN b p) := by
  unfold bitN mask
  rw [Nat.testBit_shiftLeft, Nat.testBit_shiftRight]
  by_cases h : p < m
  · have e : 7 - p ≥ 8 - m := by omega
    simp [h, e]
  · have e : ¬ 7 - p ≥ 8 - m := by omega
    simp [h, e]

theorem bitN_xor (a b p : Nat) : bitN (a ^^^ b) p = (bitN a p ^^ bitN b p) := by
  unfold bitN; rw [Nat.testBit_xor]

/-- a number below 256 is its eight bits -/
theorem byte_ext {a b : Nat} (ha : a < 256) (hb : b < 256) (h : ∀ p, p < 8 → bitN a p = bitN b p) : a = b := by
  apply Nat.eq_of_testBit_eq
  intro j
  by_cases hj : j < 8
  · have := h (7 - j) (by omega)
    unfold bitN at this
    rw [show 7 - (7 - j) = j by omega] at this
    exact this
  · rw [Nat.testBit_lt_two_pow (Nat.lt_of_lt_of_le ha (show 256 ≤ 2 ^ j from Nat.pow_le_pow_right (n := 2) (by decide) (show 8 ≤ j by omega))),
      Nat.testBit_lt_two_pow (Nat.lt_of_lt_of_le hb (show 256 ≤ 2 ^ j from Nat.pow_le_pow_right (n := 2) (by decide) (show 8 ≤ j by omega)))]

theorem list_ext {a b : List UInt8} (hl : a.length = b.length) (h : ∀ i, i < 8 * a.length → bitL a i = bitL b i) : a = b := by
  apply List.ext_getElem hl
  intro k h1 h2
  apply UInt8.toNat_inj.1
  apply byte_ext (UInt8.toNat_lt _) (UInt8.toNat_lt _)
  intro p hp
  have := h (8 * k + p) (by omega)
  unfold bitL at this
  rw [show (8 * k + p) / 8 = k by omega, show (8 * k + p) % 8 = p by omega] at this
  rw [getD_in _ _ h1, getD_in _ _ h2] at this
  exact this

/-- the first n bits as they are, all others 0 -/
def keepL (l : List UInt8) (n : Nat) : List UInt8 := l.mapIdx fun j b => UInt8.ofNat (mask b.toNat (n - 8 * j))

theorem keepL_length (l : List UInt8) (n : Nat) : (keepL l n).length = l.length := by simp [keepL]

theorem ofNat_mask (b : UInt8) (m : Nat) : (UInt8.ofNat (mask b.toNat m)).toNat = mask b.toNat m := by
  have h := mask_le b.toNat m
  have := UInt8.toNat_lt b
  rw [UInt8.toNat_ofNat']
  omega

theorem keepL_get (l : List UInt8) (n j : Nat) (h : j < (keepL l n).length) : ((keepL l n)[j]).toNat = mask (l[j]'(by simpa [keepL_length] using h)).toNat (n - 8 * j) := by
  simp only [keepL, List.getElem_mapIdx]
  exact ofNat_mask _ _

theorem bitL_keep (l : List UInt8) (n i : Nat) : bitL (keepL l n) i = (decide (i < n) && bitL l i) := by
  by_cases h : i < 8 * l.length
  · unfold bitL
    rw [getD_in _ _ (show i / 8 < (keepL l n).length by rw [keepL_length]; omega), getD_in _ _ (show i / 8 < l.length by omega), keepL_get, bitN_mask _ _ _ (by omega)]
    congr 1
    by_cases hn : i < n
    · simp [hn]; omega
    · simp [hn]; omega
  · rw [bitL_out _ _ (by rw [keepL_length]; omega), bitL_out l i (by omega)]; simp

theorem keepL_all (l : List UInt8) (n : Nat) (h : 8 * l.length ≤ n) : keepL l n = l := by
  apply list_ext (by simp [keepL_length])
  intro i hi
  rw [keepL_length] at hi
  rw [bitL_keep]
  simp; omega

theorem keepL_min (l : List UInt8) (n : Nat) : keepL l (min n (8 * l.length)) = keepL l n := by
  apply list_ext (by simp [keepL_length])
  intro i hi
  rw [keepL_length] at hi
  rw [bitL_keep, bitL_keep]
  congr 1
  by_cases h : i < n <;> simp [h] <;> omega

/-- how many hold, from 0 on, below m -/
def lead (p : Nat → Bool) : Nat → Nat
  | 0 => 0
  | m + 1 => if lead p m = m ∧ p m = true then m + 1 else lead p m

theorem lead_le (p : Nat → Bool) (m : Nat) : lead p m ≤ m := by
  induction m with
  | zero => exact Nat.le_refl _
  | succ m ih => unfold lead; split <;> omega

theorem lead_below (p : Nat → Bool) (m i : Nat) (h : i < lead p m) : p i = true := by
  induction m with
  | zero => simp [lead] at h
  | succ m ih =>
    unfold lead at h
    split at h
    · rename_i hc
      by_cases e : i = m
      · rw [e]; exact hc.2
      · exact ih (by omega)
    · exact ih h

theorem lead_at (p : Nat → Bool) (m : Nat) (h : lead p m < m) : p (lead p m) = false := by
  induction m with
  | zero => omega
  | succ m ih =>
    have hle := lead_le p m
    unfold lead at h ⊢
    split at h
    · omega
    · rename_i hc
      rw [if_neg hc]
      by_cases e : lead p m = m
      · rw [e]
        by_cases hp : p m = true
        · exact absurd ⟨e, hp⟩ hc
        · simpa using hp
      · exact ih (by omega)

theorem lead_eq (p : Nat → Bool) (m k : Nat) (hk : k ≤ m) (h1 : ∀ i, i < k → p i = true) (h2 : k < m → p k = false) : lead p m = k := by
  have hle := lead_le p m
  by_cases h : lead p m < k
  · have := lead_at p m (by omega)
    rw [h1 _ h] at this
    cases this
  · by_cases h' : k < lead p m
    · have := lead_below p m k h'
      rw [h2 (by omega)] at this
      cases this
    · omega

/-- how many bits both have alike -/
def alikeN (a b : List UInt8) : Nat := lead (fun i => bitL a i == bitL b i) (8 * min a.length b.length)

/-- how many bits of a byte's number are 0 ahead of the first 1 -/
def noughts (b : Nat) : Nat := lead (fun p => !bitN b p) 8

theorem noughts_eq (b k : Nat) (hk : k ≤ 8) (h1 : b < 2 ^ (8 - k)) (h2 : k < 8 → 2 ^ (7 - k) ≤ b) : noughts b = k := by
  apply lead_eq _ _ _ hk
  · intro p hp
    have : b.testBit (7 - p) = false := Nat.testBit_lt_two_pow (Nat.lt_of_lt_of_le h1 (Nat.pow_le_pow_right (by decide) (by omega)))
    simp [bitN, this]
  · intro h
    have h2 := h2 h
    have e : b / 2 ^ (7 - k) = 1 := by
      have hp : 0 < 2 ^ (7 - k) := Nat.two_pow_pos _
      have hh : b < 2 * 2 ^ (7 - k) := by
        have : 2 ^ (8 - k) = 2 * 2 ^ (7 - k) := by rw [show 8 - k = (7 - k) + 1 by omega, Nat.pow_succ]; omega
        omega
      have := (Nat.div_lt_iff_lt_mul hp).2 hh
      have := (Nat.le_div_iff_mul_le hp).2 (show 1 * 2 ^ (7 - k) ≤ b by omega)
      omega
    show (!bitN b k) = false
    rw [bitN_eq, e]; rfl

theorem noughts_below (b p : Nat) (h : p < noughts b) : bitN b p = false := by
  have := lead_below (fun p => !bitN b p) 8 p h
  simpa using this
theorem noughts_at (b : Nat) (h : noughts b < 8) : bitN b (noughts b) = true := by
  have : (!bitN b (noughts b)) = false := lead_at (fun p => !bitN b p) 8 h
  simpa using this
theorem noughts_le (b : Nat) : noughts b ≤ 8 := lead_le _ _

theorem xor_noughts (a b : Nat) (ha : a < 256) (hb : b < 256) (hne : a ≠ b) :
    ∃ z, noughts (a ^^^ b) = z ∧ z < 8 ∧ (∀ p, p < z → bitN a p = bitN b p) ∧ bitN a z ≠ bitN b z := by
  have hsame : ∀ p, p < noughts (a ^^^ b) → bitN a p = bitN b p := by
    intro p hp
    have := noughts_below _ p hp
    rw [bitN_xor] at this
    revert this
    cases bitN a p <;> cases bitN b p <;> simp
  have hz : noughts (a ^^^ b) < 8 := by
    have hle := noughts_le (a ^^^ b)
    by_cases h : noughts (a ^^^ b) < 8
    · exact h
    · exact absurd (byte_ext ha hb fun p hp => hsame p (by omega)) hne
  refine ⟨_, rfl, hz, hsame, ?_⟩
  have := noughts_at _ hz
  rw [bitN_xor] at this
  revert this
  cases bitN a (noughts (a ^^^ b)) <;> cases bitN b (noughts (a ^^^ b)) <;> simp

theorem take_get (a b : List UInt8) (i k : Nat) (h : a.take i = b.take i) (hk : k < i) : a.getD k 0 = b.getD k 0 := by
  have h1 : (a.take i)[k]? = (b.take i)[k]? := by rw [h]
  rw [List.getElem?_take_of_lt hk, List.getElem?_take_of_lt hk] at h1
  simp [List.getD, h1]

/-- bytes that are the same up to the i-th, which isn't -/
theorem alike_differ (a b : List UInt8) (i : Nat) (ha : i < a.length) (hb : i < b.length) (hsame : a.take i = b.take i) (hne : a[i].toNat ≠ b[i].toNat) :
    alikeN a b = 8 * i + noughts (a[i].toNat ^^^ b[i].toNat) := by
  obtain ⟨z, hz, hz8, hzs, hzd⟩ := xor_noughts a[i].toNat b[i].toNat (UInt8.toNat_lt _) (UInt8.toNat_lt _) hne
  rw [hz]
  unfold alikeN
  apply lead_eq
  · have : i + 1 ≤ min a.length b.length := by omega
    omega
  · intro j hj
    simp only [bitL]
    by_cases hji : j / 8 < i
    · rw [take_get a b i (j / 8) hsame hji]
      simp
    · have e : j / 8 = i := by omega
      rw [e, getD_in _ _ ha, getD_in _ _ hb, hzs (j % 8) (by omega)]
      simp
  · intro _
    simp only [bitL]
    rw [show (8 * i + z) / 8 = i by omega, show (8 * i + z) % 8 = z by omega, getD_in _ _ ha, getD_in _ _ hb]
    simpa using hzd

/-- no byte differs up to the shorter one's end -/
theorem alike_full (a b : List UInt8) (h : a.take (min a.length b.length) = b.take (min a.length b.length)) : alikeN a b = 8 * min a.length b.length := by
  unfold alikeN
  apply lead_eq _ _ _ (Nat.le_refl _)
  · intro j hj
    simp only [bitL]
    rw [take_get a b _ (j / 8) h (by omega)]
    simp
  · intro h; omega

theorem alike_le (a b : List UInt8) : alikeN a b ≤ 8 * min a.length b.length := lead_le _ _
theorem alike_below (a b : List UInt8) (i : Nat) (h : i < alikeN a b) : bitL a i = bitL b i := by
  have := lead_below (fun i => bitL a i == bitL b i) _ i h
  simpa using this
theorem alike_at (a b : List UInt8) (h : alikeN a b < 8 * min a.length b.length) : bitL a (alikeN a b) ≠ bitL b (alikeN a b) := by
  have : (bitL a (alikeN a b) == bitL b (alikeN a b)) = false := lead_at (fun i => bitL a i == bitL b i) _ h
  simpa using this
/-- the row that a copy and one masked byte make -/
theorem keepL_parts (l : List UInt8) (n : Nat) (h : n ≤ 8 * l.length) :
    keepL l n = if n % 8 = 0 then l.take (n / 8) ++ List.replicate (l.length - n / 8) 0
      else (l.take (n / 8) ++ List.replicate (l.length - n / 8) 0).set (n / 8) (UInt8.ofNat (mask (l.getD (n / 8) 0).toNat (n % 8))) := by
  have hbase : ∀ k (h1 : k < l.length), k ≠ n / 8 ∨ n % 8 = 0 → (keepL l n)[k]'(by simpa [keepL_length] using h1) = (l.take (n / 8) ++ List.replicate (l.length - n / 8) 0)[k]'(by simp; omega) := by
    intro k hk hc
    apply UInt8.toNat_inj.1
    rw [keepL_get, List.getElem_append]
    split
    · rename_i hlt
      simp at hlt
      rw [mask_all _ _ (by omega), List.getElem_take]
    · rename_i hlt
      simp at hlt
      rw [show n - 8 * k = 0 by omega, mask_none _ (UInt8.toNat_lt _), List.getElem_replicate]
      rfl
  have hlen : (l.take (n / 8) ++ List.replicate (l.length - n / 8) (0 : UInt8)).length = l.length := by simp; omega
  split
  · rename_i h0
    apply List.ext_getElem (by rw [hlen, keepL_length])
    intro k h1 h2
    rw [keepL_length] at h1
    exact hbase k h1 (.inr h0)
  · rename_i h0
    apply List.ext_getElem (by rw [List.length_set, hlen, keepL_length])
    intro k h1 h2
    rw [keepL_length] at h1
    rw [List.getElem_set]
    split
    · rename_i e
      subst e
      apply UInt8.toNat_inj.1
      rw [keepL_get, ofNat_mask, getD_in _ _ h1]
      congr 1
      omega
    · rename_i e
      exact hbase k h1 (.inl fun he => e he.symm)
end Go.Proofs.YtfegdblaohhdoaaDoor.Bits
namespace Go.Proofs.YtfegdblaohhdoaaDoor.Bits
open Go.ChangeShapes Go.WideShapes Go.ChangeAt Go.RowKit
set_option linter.unusedVariables false
set_option maxRecDepth 100000

theorem bool_eq {a b : Bool} (h : a = b) : Ending.returned (.bool a) = .returned (.bool b) := by rw [h]
theorem int_eq {k : IntKind} {a b : Int} (h : a = b) : Ending.returned (.int k a) = .returned (.int k b) := by rw [h]

theorem len_list (s : ByteArray) : s.data.toList.length = s.size := by simp
theorem getD_byte (s : ByteArray) (k : Nat) (h : k < s.size) : s.data.toList.getD k 0 = s[k] := by
  rw [getD_in _ _ (by simpa using h)]; rfl

set_option maxHeartbeats 400000 in
theorem count_any (s : ByteArray) (w : World) (hs : s.size ≤ 1048576) :
    Calls Tryd.prog 86 #[.string s] w fun e w' => e = .returned (.int .i64 (8 * (s.size : Nat) : Int)) ∧ w = w' := by
  go_enter Tryd.func86, Tryd.ntmps86
  go_wp2
  go_ret
  exact ⟨rfl, rfl⟩

/-- a number as one of a text's bits -/
def inZ (s : ByteArray) (n : Int) : Nat := min n.toNat (8 * s.size)

set_option maxHeartbeats 400000 in
theorem within_any (s : ByteArray) (n : Int) (w : World) (hs : s.size ≤ 1048576) :
    Calls Tryd.prog 83 #[.string s, .int .i64 n] w fun e w' => e = .returned (.int .i64 (inZ s n : Nat)) ∧ w = w' := by
  by_cases h0 : n < 0
  · go_enter Tryd.func83, Tryd.ntmps83
    go_wp2
    go_ret
    exact ⟨int_eq (by unfold inZ; omega), rfl⟩
  · by_cases h1 : 8 * (s.size : Int) < n
    · go_enter Tryd.func83, Tryd.ntmps83
      go_wp2_with fail
      refine (count_any _ _ hs).mono ?_
      rintro e w1 ⟨rfl, rfl⟩
      go_wp2_with fail
      refine (count_any _ _ hs).mono ?_
      rintro e w1 ⟨rfl, rfl⟩
      go_wp2
      go_ret
      exact ⟨int_eq (by unfold inZ; omega), rfl⟩
    · go_enter Tryd.func83, Tryd.ntmps83
      go_wp2_with fail
      refine (count_any _ _ hs).mono ?_
      rintro e w1 ⟨rfl, rfl⟩
      go_wp2
      go_ret
      exact ⟨int_eq (by unfold inZ; omega), rfl⟩

set_option maxHeartbeats 400000 in
theorem high_in (r : Nat) (w : World) (h : r ≤ 8) :
    Calls Tryd.prog 84 #[.int .i64 r] w fun e w' => e = .returned (.int .u8 ((255 * 2 ^ (8 - r) % 256 : Nat) : Int)) ∧ w = w' := by
  go_enter Tryd.func84, Tryd.ntmps84
  go_wp2
  go_ret
  exact ⟨int_eq (by simp), rfl⟩

set_option maxHeartbeats 400000 in
theorem ahead_any (b : Nat) (w : World) (h : b < 256) :
    Calls Tryd.prog 85 #[.int .u8 b] w fun e w' => e = .returned (.int .i64 (noughts b : Nat)) ∧ w = w' := by
  go_enter Tryd.func85, Tryd.ntmps85
  go_wp2
  go_loop [3] (fun i => ∃ k : Nat, k ≤ 8 ∧ i = .int .i64 k ∧ b < 2 ^ (8 - k)) (fun i => 8 - (intOf i).toNat)
  case atStart => exact ⟨0, by omega, rfl, by omega⟩
  case round =>
    obtain ⟨k, hk, rfl, hb⟩ := hrel
    have HB := Lib.hid hb
    clear hb
    by_cases hlt : k < 8
    · have hd : ((b : Int) / 2 ^ (7 - k) == 0) = decide (b < 2 ^ (7 - k)) := by
        have h1 : (b : Int) / 2 ^ (7 - k) = ((b / 2 ^ (7 - k) : Nat) : Int) := by simp
        rw [h1, Bool.eq_iff_iff]
        simp only [beq_iff_eq, decide_eq_true_eq]
        rw [show (((b / 2 ^ (7 - k) : Nat) : Int) = 0) ↔ b / 2 ^ (7 - k) = 0 by omega, Nat.div_eq_zero_iff_lt (Nat.two_pow_pos _)]
      by_cases hc : b < 2 ^ (7 - k)
      · rw [decide_eq_true hc] at hd
        have HC := Lib.hid hc
        clear hc
        go_wp2
        go_round
        case rel => exact ⟨k + 1, by omega, by go_num, by rw [show 8 - (k + 1) = 7 - k by omega]; exact HC.out⟩
        case measure => simp [intOf]; omega
      · rw [decide_eq_false hc] at hd
        have HN := Lib.hid (noughts_eq b k hk HB.out (fun _ => by omega))
        clear hc
        go_wp2
        go_ret
        exact ⟨int_eq (by rw [HN.out]), rfl⟩
    · obtain rfl : k = 8 := by omega
      have HN := Lib.hid (noughts_eq b 8 hk HB.out (fun h => by omega))
      go_wp2
      go_ret
      exact ⟨int_eq (by rw [HN.out]; rfl), rfl⟩

theorem xor_byte (a b : UInt8) : bits BinOp.xor IntKind.u8 (a.toNat : Int) (b.toNat : Int) = ((a.toNat ^^^ b.toNat : Nat) : Int) :=
  u8_xor_nat _ _ (UInt8.toNat_lt _) (UInt8.toNat_lt _)

theorem take_snoc (s : ByteArray) (k : Nat) (h : k < s.size) : s.data.toList.take (k + 1) = s.data.toList.take k ++ [s[k]] := by
  rw [List.take_succ_eq_append_getElem (by simpa using h)]; rfl

set_option maxHeartbeats 1600000 in
theorem alike_any (a b : ByteArray) (w : World) (ha : a.size ≤ 1048576) (hb : b.size ≤ 1048576) :
    Calls Tryd.prog 75 #[.string a, .string b] w fun e w' => e = .returned (.int .i64 (alikeN a.data.toList b.data.toList : Nat)) ∧ Below w.heap.size w w' := by
  go_enter Tryd.func75, Tryd.ntmps75
  go_wp2
  go_loopw [5] (fun i wr => ∃ k : Nat, k ≤ a.size ∧ k ≤ b.size ∧ i = .int .i64 k ∧ a.data.toList.take k = b.data.toList.take k ∧ Hid (Below w.heap.size w wr)) (fun i _ => a.size - (intOf i).toNat)
  case atStart => exact ⟨0, Nat.zero_le _, Nat.zero_le _, rfl, rfl, Lib.hid (Below.refl _ _)⟩
  case round =>
    obtain ⟨k, hka, hkb, rfl, ht, HB⟩ := hrel
    have HT := Lib.hid ht
    clear ht
    by_cases hla : k < a.size
    · by_cases hlb : k < b.size
      · have hta := Lib.hid (take_snoc a k hla)
        have htb := Lib.hid (take_snoc b k hlb)
        by_cases heq : a[k].toNat = b[k].toNat
        · have HN : Hid (a.data.toList.take (k + 1) = b.data.toList.take (k + 1)) := by
            have : a[k] = b[k] := UInt8.toNat_inj.1 heq
            exact Lib.hid (by rw [hta.out, htb.out, HT.out, this])
          clear hta htb
          have hne : ((a[k].toNat : Int) != (b[k].toNat : Int)) = false := by simp [heq]
          go_wp2
          go_quiet (fail)
          go_wp2
          go_roundw
          case rel => exact ⟨k + 1, hla, hlb, by go_num, HN.out, Lib.hid (below_drewN HB.out _)⟩
          case measure => simp [intOf]; omega
        · have HD := Lib.hid (alike_differ a.data.toList b.data.toList k (by simpa using hla) (by simpa using hlb) HT.out heq)
          have hx := xor_byte a[k] b[k]
          have hxl : a[k].toNat ^^^ b[k].toNat < 256 := Nat.xor_lt_two_pow (n := 8) (UInt8.toNat_lt _) (UInt8.toNat_lt _)
          have hne : ((a[k].toNat : Int) != (b[k].toNat : Int)) = true := by simp; omega
          have hn8 := noughts_le (a[k].toNat ^^^ b[k].toNat)
          have HA := Lib.hid (fun w : World => (ahead_any (a[k].toNat ^^^ b[k].toNat) w hxl).mono fun e w' (h : e = .returned (.int .i64 (noughts (a[k].toNat ^^^ b[k].toNat) : Nat)) ∧ w = w') => And.intro h.1 h.2.symm)
          clear hta htb heq hxl
          go_wp2
          go_quiet (fail)
          have HB2 := Lib.hid (below_drewN HB.out nq)
          generalize wr.drewN nq = wq at *
          go_wp2
          go_quiet (first | (go_at_call 85; refine Calls.quiet_of_same (HA.out _)))
          go_wp2
          go_ret
          exact ⟨int_eq (by rw [HD.out]; simp; rfl), below_drewN HB2.out _⟩
      · obtain rfl : k = b.size := by omega
        have HF := Lib.hid (alike_full a.data.toList b.data.toList (by rw [show min a.data.toList.length b.data.toList.length = b.size by simp; omega]; exact HT.out))
        by_cases hlt : a.size < b.size
        · omega
        · go_wp2_with fail
          refine (count_any _ _ hb).mono ?_
          rintro e w1 ⟨rfl, rfl⟩
          go_wp2
          go_ret
          exact ⟨int_eq (by rw [HF.out]; simp; omega), HB.out⟩
    · obtain rfl : k = a.size := by omega
      have HF := Lib.hid (alike_full a.data.toList b.data.toList (by rw [show min a.data.toList.length b.data.toList.length = a.size by simp; omega]; exact HT.out))
      by_cases hlt : a.size < b.size
      · go_wp2_with fail
        refine (count_any _ _ ha).mono ?_
        rintro e w1 ⟨rfl, rfl⟩
        go_wp2
        go_ret
        exact ⟨int_eq (by rw [HF.out]; simp; omega), HB.out⟩
      · go_wp2_with fail
        refine (count_any _ _ hb).mono ?_
        rintro e w1 ⟨rfl, rfl⟩
        go_wp2
        go_ret
        exact ⟨int_eq (by rw [HF.out]; simp; omega), HB.out⟩

end Go.Proofs.YtfegdblaohhdoaaDoor.Bits
namespace Go.Proofs.YtfegdblaohhdoaaDoor.Bits
open Go.ChangeShapes Go.WideShapes Go.ChangeAt Go.RowKit
set_option linter.unusedVariables false
set_option maxRecDepth 100000

theorem info5 : (Tryd.prog.info? 5).map (fun i => (i.zero, i.size, i.bytes)) = some (some (.int .u8 0), 1, 1) := by kernel_rfl

/-- bytes, as the cells of a row -/
def cellsL (l : List UInt8) : List Value := l.map fun b => Value.int .u8 b.toNat

theorem cellsL_length (l : List UInt8) : (cellsL l).length = l.length := by simp [cellsL]

theorem conv_row (w : World) (g c : Nat) (base : Nat) (l : List UInt8) (n : Nat) (hn : l.length = n) (h : w.ownsRow base 5 1 (.slice (some ⟨g, 0, none⟩) n c) n (cellsL l)) :
    (convert 55 9 (.slice (some ⟨g, 0, none⟩) n c)).run Tryd.prog w = .ok (.string ⟨l.toArray⟩) w := by
  subst hn
  refine run_convert_bytes_back w 55 9 5 ⟨g, 0, none⟩ c l Tryd.underlying55 Tryd.underlying5 Tryd.underlying9 fun j hj => ?_
  have := h.cellAt j (by omega)
  simp [Addr.add_lit]
  rw [this]
  simp [cellsL, hj]

theorem ret_string {a b : ByteArray} (h : a = b) : Ending.returned (.string a) = .returned (.string b) := by rw [h]

/-- copy(row, s), s no longer than the row: its bytes stand at the row's head -/
theorem wpList_copy_str {P : Program} {w : World} {ops : Array Oper} {rest : List Oper} {o : Oper} {a : Act} {Q : Exit → Act → World → Prop} (hgd : o.guard = none) (d s : Operand) (dT sT : TypeId)
    (ho : o.op = .call { callee := .builtin .copy, args := #[d, s], argTypes := #[dT, sT] }) (elem : TypeId) (hu : P.underlying dT = some (.slice elem)) (hsz : (P.info? elem).map (·.size) = some 1)
    (g n : Nat) (hd : a.eval d = .slice (some ⟨g, 0, none⟩) n n) (t : ByteArray) (hs : a.eval s = .string t)
    (base : Nat) (xs : List Value) (hrow : w.ownsRow base elem 1 (.slice (some ⟨g, 0, none⟩) n n) n xs) (hle : t.size ≤ n)
    (h : ∀ w', w'.ownsRow base elem 1 (.slice (some ⟨g, 0, none⟩) n n) n (cellsL t.data.toList ++ xs.drop t.size) → w.grownBy w' (some g) → wpList P ops Q rest (a.put o.dst (goInt t.size)) w') :
    wpList P ops Q (o :: rest) a w := by
  obtain ⟨hlen, hrow⟩ := hrow
  rcases hrow with ⟨h', _⟩ | ⟨g', cap', cur, h', hb, hg, hnc, hcm, hcs, htake⟩
  · simp at h'
  · simp only [Value.slice.injEq, Option.some.injEq, Addr.mk.injEq, and_true, true_and] at h'
    obtain ⟨rfl, rfl⟩ := h'
    simp only [Nat.mul_one] at hlen hcs htake
    have hrun := Lib.run_copy_row_string (P := P) w dT sT o.type elem g 0 n n t cur elem hu hsz hg hle (by omega)
    have hxs : cur.toList = xs := by rw [← htake, List.take_of_length_le (by simp; omega)]
    have hnew : List.take 0 cur.toList ++ Lib.byteCells t.data.toList ++ List.drop (0 + t.size) cur.toList = cellsL t.data.toList ++ xs.drop t.size := by
      rw [hxs]; simp [Lib.byteCells, cellsL]
    rw [hnew] at hrun
    refine wpList_plain hgd fun K hK => ?_
    unfold Oper.wp
    simp [execOp, ho, resolve, invoke, builtin, hd, hs, hrun, Result.andThen]
    refine hK _ _ (h _ ⟨?_, .inr ⟨g, n, _, rfl, hb, setRow_heap w g _ _ elem _ hg, Nat.le_refl _, hcm, ?_, ?_⟩⟩ ⟨rfl, rfl, rfl, by simp [World.setRow], fun k _ hk => setRow_other w g k _ (fun e => hk (by rw [e]))⟩)
    · simp [cellsL_length]; omega
    · simp [cellsL_length]; omega
    · rw [Nat.mul_one]; exact List.take_of_length_le (by simp [cellsL_length]; omega)

theorem and_high (b r : Nat) (hb : b < 256) (h : r ≤ 8) : bits BinOp.and IntKind.u8 (b : Int) ((255 * 2 ^ (8 - r) % 256 : Nat) : Int) = ((mask b r : Nat) : Int) := by
  rw [u8_and_nat _ _ hb (by omega), mask_eq]
  congr 1
  have : r = 0 ∨ r = 1 ∨ r = 2 ∨ r = 3 ∨ r = 4 ∨ r = 5 ∨ r = 6 ∨ r = 7 ∨ r = 8 := by omega
  revert b
  rcases this with rfl | rfl | rfl | rfl | rfl | rfl | rfl | rfl | rfl <;> decide +kernel

set_option maxHeartbeats 800000 in
theorem keep_any (s : ByteArray) (n : Int) (w : World) (hs : s.size ≤ 1048576) :
    Calls Tryd.prog 74 #[.string s, .int .i64 n] w fun e w' => e = .returned (.string ⟨(keepL s.data.toList n.toNat).toArray⟩) ∧ Below w.heap.size w w' := by
  obtain ⟨i0, hi, hz0, hz1, hz2⟩ := info_parts info5
  have HK : Hid (keepL s.data.toList n.toNat = keepL s.data.toList (inZ s n)) := by
    have := keepL_min s.data.toList n.toNat
    rw [len_list] at this
    exact Lib.hid this.symm
  have hm : inZ s n ≤ 8 * s.size := by unfold inZ; omega
  have HW := Lib.hid (fun w => within_any s n w hs)
  generalize inZ s n = m at *
  go_enter Tryd.func74, Tryd.ntmps74
  go_wp2_with fail
  refine (HW.out _).mono ?_
  rintro e w1 ⟨rfl, rfl⟩
  clear HW
  go_wp2_with (at_make; refine wpList_make_full _ rfl _ _ 55 rfl w.heap.size 5 i0 (.int .u8 0) 1 Tryd.underlying55 hi hz0 hz1 _ _ _ _ s.size rfl rfl rfl rfl (by rw [hz2]; omega) (by unfold maxLen; omega) (by simp) ?_)
  intro w1 hown hgrow
  have HG := Lib.hid hgrow
  have HO := Lib.hid hown
  clear hgrow hown
  have hsz : (Tryd.prog.info? 5).map (·.size) = some 1 := by rw [hi]; simp [hz1]
  go_wp2_with (with_reducible refine wpList_copy_str rfl (.tmp 12) (.tmp 16) 55 9 rfl 5 Tryd.underlying55 hsz w.heap.size s.size rfl _ rfl w.heap.size _ HO.out ?_ ?_)
  · simp; omega
  intro w2 hown2 hgrow2
  have HB2 : Hid (Below w.heap.size w w2) := Lib.hid (((Below.refl _ _).grown HG.out (Nat.le_refl _) (fun k hk => by cases hk)).grown hgrow2 HG.out.size (fun k hk => by cases hk; exact Nat.le_refl _))
  have HO2 : Hid (w2.ownsRow w.heap.size 5 1 (.slice (some ⟨w.heap.size, 0, none⟩) s.size s.size) s.size (cellsL (s.data.toList.take (m / 8) ++ List.replicate (s.size - m / 8) 0))) := by
    have e : cellsL (s.data.toList.take (m / 8) ++ List.replicate (s.size - m / 8) 0) = cellsL (List.take (m / 8) s.data.toList) ++ List.drop (min (m / 8) s.size) (madeCells #[Value.int IntKind.u8 0] s.size).toList := by
      rw [toList_madeCells_one, Nat.min_eq_left (by omega)]
      simp [cellsL]
    exact Lib.hid (by rw [e]; exact hown2)
  clear hown2 hgrow2 HG HO hi hz0 hz1 hz2 hsz
  have HP := Lib.hid (keepL_parts s.data.toList m (by rw [len_list]; exact hm))
  rw [len_list] at HP
  by_cases h0 : m % 8 = 0
  · have HC : Hid (w2.ownsRow w.heap.size 5 1 (.slice (some ⟨w.heap.size, 0, none⟩) s.size s.size) s.size (cellsL (keepL s.data.toList n.toNat))) := by
      have := HP.out
      rw [if_pos h0] at this
      exact Lib.hid (by rw [HK.out, this]; exact HO2.out)
    have hc := conv_row w2 w.heap.size s.size w.heap.size (keepL s.data.toList n.toNat) s.size (by rw [keepL_length, len_list]) HC.out
    clear HC HO2 HP
    go_wp2
    go_ret
    exact ⟨rfl, HB2.out⟩
  · have hk : m / 8 < s.size := by omega
    have ho : ((m : Int) / 8).toNat = m / 8 := by omega
    have hfr := HO2.out.frozenAt ((m : Int) / 8).toNat
    obtain ⟨u, hcl⟩ : ∃ u, w2.cell? ⟨w.heap.size, ((m : Int) / 8).toNat, none⟩ = some u := by
      rw [HO2.out.cellAt _ (by omega)]
      exact ⟨_, List.getElem?_eq_getElem (by have := HO2.out.1; omega)⟩
    have HR : Hid (cellsL (keepL s.data.toList m) = (cellsL (s.data.toList.take (m / 8) ++ List.replicate (s.size - m / 8) 0)).set ((m : Int) / 8).toNat (.int .u8 ((mask s[m / 8].toNat (m % 8) : Nat) : Int))) := by
      have := HP.out
      rw [if_neg h0, getD_byte s (m / 8) hk] at this
      refine Lib.hid ?_
      rw [this, ho]
      unfold cellsL
      rw [List.map_set, ofNat_mask]
    have hand : bits BinOp.and IntKind.u8 (s[((m : Int) / 8).toNat].toNat : Int) ((255 * 2 ^ (8 - m % 8) % 256 : Nat) : Int) = ((mask s[m / 8].toNat (m % 8) : Nat) : Int) := by
      have := and_high s[m / 8].toNat (m % 8) (UInt8.toNat_lt _) (by omega)
      simp only [ho]
      exact this
    have HO' := Lib.hid ho
    clear ho
    generalize mask s[m / 8].toNat (m % 8) = mv at *
    have HH : Hid (∀ w, Calls Tryd.prog 84 #[.int .i64 ((m : Int) % 8)] w fun e w' => e = .returned (.int .u8 ((255 * 2 ^ (8 - m % 8) % 256 : Nat) : Int)) ∧ w = w') := by
      have := fun w => high_in (m % 8) w (by omega)
      rw [show ((m % 8 : Nat) : Int) = (m : Int) % 8 by omega] at this
      exact Lib.hid this
    generalize 255 * 2 ^ (8 - m % 8) % 256 = hv at *
    have hbd : (0 : Int) ≤ (m : Int) / 8 ∧ (m : Int) / 8 < (s.size : Int) := by omega
    have hq1 : IntKind.i64.wrap ((m : Int).tdiv 8) = (m : Int) / 8 := IntWalk.i64_quo _ _ (by omega)
    have hq2 : wrap64 ((m : Int).tdiv 8) = (m : Int) / 8 := by rw [← IntWalk.i64_left]; exact hq1
    have hq3 : IntKind.i64.wrap ((m : Int) / 8) = (m : Int) / 8 := IntWalk.i64_in _ (by omega)
    have hq4 : (m : Int).tdiv 8 = (m : Int) / 8 := Int.tdiv_eq_ediv_of_nonneg (by omega)
    have hq5 : (m : Int).tmod 8 = (m : Int) % 8 := Int.tmod_eq_emod_of_nonneg (by omega)
    have hq6 : IntKind.i64.wrap ((m : Int) % 8) = (m : Int) % 8 := IntWalk.i64_in _ (by omega)
    go_wp2
    go_region_with (go_at_call 84; refine (HH.out _).mono ?_; rintro e w9 ⟨rfl, rfl⟩)
    all_goals
      have HC : Hid ((w2.setCell ⟨w.heap.size, ((m : Int) / 8).toNat, none⟩ (.int .u8 (mv : Int))).drew.ownsRow w.heap.size 5 1 (.slice (some ⟨w.heap.size, 0, none⟩) s.size s.size) s.size (cellsL (keepL s.data.toList n.toNat))) := by
        have h3 := (HO2.out).stored ((m : Int) / 8).toNat (.int .u8 (mv : Int))
        refine Lib.hid ?_
        rw [HK.out, HR.out]
        exact World.ownsRow.drew h3.1
      have HB3 : Hid (Below w.heap.size w (w2.setCell ⟨w.heap.size, ((m : Int) / 8).toNat, none⟩ (.int .u8 (mv : Int))).drew) := Lib.hid ((HB2.out.setCell (Nat.le_refl _) _).drew)
      clear HO2 HP hcl hfr hand HB2 HR HK HO' hq1 hq2 hq3 hq4 hq5 hq6 HH
      generalize (w2.setCell ⟨w.heap.size, ((m : Int) / 8).toNat, none⟩ (.int .u8 (mv : Int))).drew = w3 at *
      have hc := conv_row w3 w.heap.size s.size w.heap.size (keepL s.data.toList n.toNat) s.size (by rw [keepL_length, len_list]) HC.out
      clear HC
      go_wp2
      go_ret
      exact ⟨rfl, HB3.out⟩

/-- are all bits from the n-th on 0? -/
def cleanZ (s : ByteArray) (n : Int) : Bool := decide (keepL s.data.toList n.toNat = s.data.toList)

set_option maxHeartbeats 400000 in
theorem clean_any (s : ByteArray) (n : Int) (w : World) (hs : s.size ≤ 1048576) :
    Calls Tryd.prog 69 #[.string s, .int .i64 n] w fun e w' => e = .returned (.bool (cleanZ s n)) ∧ Below w.heap.size w w' := by
  go_enter Tryd.func69, Tryd.ntmps69
  go_wp2_with fail
  refine (keep_any _ _ _ hs).mono ?_
  rintro e w1 ⟨rfl, hb1⟩
  go_wp2
  go_ret
  exact ⟨bool_eq (by unfold cleanZ; rw [Bool.eq_iff_iff]; simp only [beq_iff_eq, decide_eq_true_eq]; rw [ByteArray.toList_eq]), hb1⟩

end Go.Proofs.YtfegdblaohhdoaaDoor.Bits
namespace Go.Proofs.YtfegdblaohhdoaaDoor.Pre
open Go.ChangeShapes Go.WideShapes Go.ChangeAt Go.RowKit
open Go.Proofs.YtfegdblaohhdoaaDoor.Bits
set_option linter.unusedVariables false
set_option maxRecDepth 100000

/-- how many bytes have the first n bits -/
def leastN (n : Int) : Nat := (n.toNat + 7) / 8

set_option maxHeartbeats 400000 in
theorem least_any (n : Int) (w : World) (h : -9223372036854775808 ≤ n ∧ n ≤ 9223372036854775807) :
    Calls Tryd.prog 73 #[.int .i64 n] w fun e w' => e = .returned (.int .i64 (leastN n : Nat)) ∧ w = w' := by
  by_cases h0 : n ≤ 0
  · go_enter Tryd.func73, Tryd.ntmps73
    go_wp2
    go_ret
    exact ⟨int_eq (by unfold leastN; omega), rfl⟩
  · go_enter Tryd.func73, Tryd.ntmps73
    go_wp2
    go_ret
    exact ⟨int_eq (by unfold leastN; omega), rfl⟩

/-- is it a prefix? -/
def rightZ (s : ByteArray) (n : Int) : Bool := (decide (s.size = 4) || decide (s.size = 16)) && (decide (0 ≤ n) && (decide (n ≤ 8 * (s.size : Int)) && cleanZ s n))

set_option maxHeartbeats 800000 in
theorem right_any (s : ByteArray) (n : Int) (w : World) (hs : s.size ≤ maxLen) :
    Calls Tryd.prog 45 #[.string s, .int .i64 n] w fun e w' => e = .returned (.bool (rightZ s n)) ∧ Below w.heap.size w w' := by
  have hm := hs
  unfold maxLen at hm
  by_cases h4 : s.size = 4 ∨ s.size = 16
  · by_cases h0 : 0 ≤ n
    · by_cases h8 : n ≤ 8 * (s.size : Int)
      · have HC := Lib.hid (fun w => clean_any s n w (by omega))
        have HR : Hid (rightZ s n = cleanZ s n) := Lib.hid (by unfold rightZ; rcases h4 with h4 | h4 <;> simp [h4, h0] <;> omega)
        rw [HR.out]
        clear HR
        rcases h4 with h4 | h4
        · go_enter Tryd.func45, Tryd.ntmps45
          go_wp2_with fail
          refine (HC.out _).mono ?_
          rintro e w1 ⟨rfl, hb1⟩
          go_wp2
          go_ret
          exact ⟨rfl, hb1⟩
        · go_enter Tryd.func45, Tryd.ntmps45
          go_wp2_with fail
          refine (HC.out _).mono ?_
          rintro e w1 ⟨rfl, hb1⟩
          go_wp2
          go_ret
          exact ⟨rfl, hb1⟩
      · have HR : Hid (rightZ s n = false) := Lib.hid (by unfold rightZ; simp [h8])
        rw [HR.out]
        clear HR
        rcases h4 with h4 | h4
        · go_enter Tryd.func45, Tryd.ntmps45
          go_wp2
          go_ret
          exact ⟨rfl, Below.refl _ _⟩
        · go_enter Tryd.func45, Tryd.ntmps45
          go_wp2
          go_ret
          exact ⟨rfl, Below.refl _ _⟩
    · have HR : Hid (rightZ s n = false) := Lib.hid (by unfold rightZ; simp [h0])
      rw [HR.out]
      clear HR
      rcases h4 with h4 | h4
      · go_enter Tryd.func45, Tryd.ntmps45
        go_wp2
        go_ret
        exact ⟨rfl, Below.refl _ _⟩
      · go_enter Tryd.func45, Tryd.ntmps45
        go_wp2
        go_ret
        exact ⟨rfl, Below.refl _ _⟩
  · have HR : Hid (rightZ s n = false) := Lib.hid (by unfold rightZ; simp at h4; simp [h4])
    rw [HR.out]
    clear HR
    obtain ⟨ha, hb⟩ := not_or.1 h4
    clear h4
    go_enter Tryd.func45, Tryd.ntmps45
    go_wp2
    go_ret
    exact ⟨rfl, Below.refl _ _⟩

/-- what is kept of the first bytes is the first bytes of what is kept -/
theorem keepL_take (l : List UInt8) (k n : Nat) : keepL (l.take k) n = (keepL l n).take k := by
  unfold keepL
  apply List.ext_getElem?
  intro i
  by_cases h : i < k
  · rw [List.getElem?_take_of_lt h, List.getElem?_mapIdx, List.getElem?_mapIdx, List.getElem?_take_of_lt h]
  · rw [List.getElem?_eq_none (by simp; omega), List.getElem?_eq_none (by simp; omega)]

/-- the first bytes of an address, as many as have the bits -/
def cutL (l : List UInt8) (n : Int) : List UInt8 := (keepL l n.toNat).take (leastN n)

theorem head_list (s : ByteArray) (k : Nat) : (s.extract 0 k).data.toList = s.data.toList.take k := by simp

theorem cut_less (s : ByteArray) (n : Int) : keepL (s.extract 0 (leastN n)).data.toList n.toNat = cutL s.data.toList n := by
  rw [head_list, keepL_take]; rfl

theorem cut_more (s : ByteArray) (n : Int) (h : s.size < leastN n) : s = ⟨(cutL s.data.toList n).toArray⟩ := by
  have e : cutL s.data.toList n = s.data.toList := by
    unfold cutL
    rw [List.take_of_length_le (by rw [keepL_length, len_list]; omega)]
    exact keepL_all _ _ (by rw [len_list]; unfold leastN at h; omega)
  rw [e]

set_option maxHeartbeats 800000 in
theorem cut_any (s : ByteArray) (n : Int) (w : World) (hs : s.size ≤ 1048576) (h : -9223372036854775808 ≤ n ∧ n ≤ 9223372036854775807) :
    Calls Tryd.prog 54 #[.string s, .int .i64 n] w fun e w' => e = .returned (.string ⟨(cutL s.data.toList n).toArray⟩) ∧ Below w.heap.size w w' := by
  have HL := Lib.hid (fun w => least_any n w h)
  have HM := Lib.hid (cut_more s n)
  have HE := Lib.hid (cut_less s n)
  by_cases hk : leastN n ≤ s.size
  · have HK := Lib.hid (fun w => keep_any (s.extract 0 (leastN n)) n w (by simp; omega))
    rw [HE.out] at HK
    clear HM HE
    generalize ByteArray.mk (cutL s.data.toList n).toArray = cv at *
    generalize leastN n = k at *
    have hsl : ∀ wx, Sem.run Tryd.prog (Instr.slice 9 (Value.string s) none (some (Value.int IntKind.i64 (k : Int))) none) wx = .ok (.string (s.extract 0 k)) wx := by
      intro wx
      have := run_slice_string_h (P := Tryd.prog) wx 9 s Tryd.underlying9 .i64 (k : Int) (by omega) (by omega)
      exact this
    generalize s.extract 0 k = x at *
    go_enter Tryd.func54, Tryd.ntmps54
    go_wp2_with fail
    refine (HL.out _).mono ?_
    rintro e w1 ⟨rfl, rfl⟩
    go_wp2_with fail
    refine (HK.out _).mono ?_
    rintro e w1 ⟨rfl, hb1⟩
    go_wp2
    go_ret
    exact ⟨rfl, hb1⟩
  · have HQ := Lib.hid (HM.out (by omega))
    clear HM HE
    generalize ByteArray.mk (cutL s.data.toList n).toArray = cv at *
    generalize leastN n = k at *
    go_enter Tryd.func54, Tryd.ntmps54
    go_wp2_with fail
    refine (HL.out _).mono ?_
    rintro e w1 ⟨rfl, rfl⟩
    go_wp2
    go_ret
    exact ⟨ret_string HQ.out, Below.refl _ _⟩

/-- bytes, and noughts behind them up to so many -/
def fillL (l : List UInt8) (m : Nat) : List UInt8 := l ++ List.replicate (m - l.length) 0

/-- how many bytes are alike -/
def leadN (a b : ByteArray) : Nat := alikeN a.data.toList b.data.toList / 8

set_option maxHeartbeats 400000 in
theorem lead_any (a b : ByteArray) (w : World) (ha : a.size ≤ 1048576) (hb : b.size ≤ 1048576) :
    Calls Tryd.prog 55 #[.string a, .string b] w fun e w' => e = .returned (.int .i64 (leadN a b : Nat)) ∧ Below w.heap.size w w' := by
  have HA := Lib.hid (fun w => alike_any a b w ha hb)
  have hl := alike_le a.data.toList b.data.toList
  rw [len_list, len_list] at hl
  have hq : alikeN a.data.toList b.data.toList ≤ 8388608 := by omega
  clear hl
  unfold leadN
  generalize alikeN a.data.toList b.data.toList = n at *
  go_enter Tryd.func55, Tryd.ntmps55
  go_wp2_with fail
  refine (HA.out _).mono ?_
  rintro e w1 ⟨rfl, hb1⟩
  go_wp2
  go_ret
  exact ⟨int_eq (by omega), hb1⟩

end Go.Proofs.YtfegdblaohhdoaaDoor.Pre
namespace Go.Proofs.YtfegdblaohhdoaaDoor.J1
open Go.ChangeShapes Go.WideShapes Go.ChangeAt Go.RowKit
open Go.Proofs.YtfegdblaohhdoaaDoor.Ms
open Go.Proofs.YtfegdblaohhdoaaDoor.S1
open Go.Proofs.YtfegdblaohhdoaaDoor.Lk
open Go.Proofs.YtfegdblaohhdoaaDoor.Nu
open Go.Proofs.YtfegdblaohhdoaaDoor.Cur (numL)
open Go.Proofs.YtfegdblaohhdoaaDoor.Oct (fitsB)
open Go.Proofs.YtfegdblaohhdoaaDoor.Own (k12 k13 ownM isKind fieldsOf)
open Go.Proofs.YtfegdblaohhdoaaDoor.Bits (keepL keepL_length keepL_get keepL_all mask mask_none cleanZ)
open Go.Proofs.YtfegdblaohhdoaaDoor.Pre (leastN cutL fillL rightZ keepL_take)
open Go.Proofs.YtfegdblaohhdoaaDoor.F1 (bt bt_nn bt_lt num_two putB putO okT encT enc1 ok1 outT placed)
set_option linter.unusedVariables false
set_option maxRecDepth 100000
set_option maxRecDepth 100000

theorem size_list (a : ByteArray) : a.data.toList.length = a.size := by simp
theorem mk_size (l : List UInt8) : (ByteArray.mk l.toArray).size = l.length := by show l.toArray.size = _; simp
theorem mk_list (a : ByteArray) : (⟨a.data.toList.toArray⟩ : ByteArray) = a := rfl

/-- bytes from the last one that has a kept bit on are noughts -/
theorem fill_cut (l : List UInt8) (n : Nat) (h : n ≤ 8 * l.length) : fillL (cutL l n) l.length = keepL l n := by
  unfold fillL cutL leastN
  rw [Int.toNat_natCast]
  have hk : (n + 7) / 8 ≤ l.length := by omega
  have hl : (List.take ((n + 7) / 8) (keepL l n)).length = (n + 7) / 8 := by rw [List.length_take, keepL_length]; omega
  rw [hl]
  apply List.ext_getElem
  · rw [List.length_append, hl, List.length_replicate, keepL_length]; omega
  · intro i h1 h2
    by_cases hi : i < (n + 7) / 8
    · rw [List.getElem_append_left (by rw [hl]; exact hi), List.getElem_take]
    · rw [List.getElem_append_right (by rw [hl]; omega), List.getElem_replicate]
      apply UInt8.toNat_inj.1
      rw [keepL_get, show n - 8 * i = 0 by omega, mask_none _ (UInt8.toNat_lt _)]
      rfl
/-- The lengths of the prefixes of an encoding; how many bytes stand ahead of those of one; how many bytes one has. -/
def minA (ae : Int) : Int := if ae = 3 then 64 else 0
def maxA (ae : Int) : Int := if ae = 0 then 0 else if ae = 1 then 32 else 128
def lenB (ae p : Int) : Bool := decide (0 ≤ ae) && (decide (ae ≤ 3) && (decide (minA ae ≤ p) && decide (p ≤ maxA ae)))
def baseN (ae : Int) : Nat := if ae = 3 then 8 else 0
def countN (ae p : Int) : Nat := leastN p - baseN ae
/-- Is it an address of an encoding; a prefix in it? -/
def adrB (ae : Int) (a : ByteArray) : Bool := if ae = 0 then decide (a.size = 0) else if ae = 1 then decide (a.size = 4) else if ae = 2 then decide (a.size = 16) else if ae = 3 then link a else false
def inB (ae : Int) (a : ByteArray) (p : Int) : Bool := adrB ae a && (lenB ae p && (decide (ae = 0) || rightZ a p))
/-- A prefix's bytes; the prefix of bytes. -/
def cutP (ae : Int) (a : ByteArray) (p : Int) : ByteArray := ⟨((cutL a.data.toList p).drop (baseN ae)).toArray⟩
def wholeL (ae : Int) (s : ByteArray) : List UInt8 := if ae = 1 then fillL s.data.toList 4 else if ae = 2 then fillL s.data.toList 16 else if ae = 3 then lkH.data.toList ++ fillL s.data.toList 8 else []
def wholeP (ae : Int) (s : ByteArray) (p : Int) : ByteArray := ⟨(keepL (wholeL ae s) p.toNat).toArray⟩
theorem len_cases {ae p : Int} (h : lenB ae p = true) : (ae = 0 ∧ p = 0) ∨ (ae = 1 ∧ 0 ≤ p ∧ p ≤ 32) ∨ (ae = 2 ∧ 0 ≤ p ∧ p ≤ 128) ∨ (ae = 3 ∧ 64 ≤ p ∧ p ≤ 128) := by
  unfold lenB at h
  simp only [Bool.and_eq_true, decide_eq_true_eq] at h
  obtain ⟨h0, h1, h2, h3⟩ := h
  rcases (show ae = 0 ∨ ae = 1 ∨ ae = 2 ∨ ae = 3 by omega) with rfl | rfl | rfl | rfl
  · have h2 : (0 : Int) ≤ p := h2
    have h3 : p ≤ (0 : Int) := h3
    exact .inl ⟨rfl, by omega⟩
  · exact .inr (.inl ⟨rfl, h2, h3⟩)
  · exact .inr (.inr (.inl ⟨rfl, h2, h3⟩))
  · exact .inr (.inr (.inr ⟨rfl, h2, h3⟩))
theorem len_range {ae p : Int} (h : lenB ae p = true) : 0 ≤ ae ∧ ae ≤ 3 ∧ 0 ≤ p ∧ p ≤ 128 := by
  rcases len_cases h with ⟨rfl, rfl⟩ | ⟨rfl, a, b⟩ | ⟨rfl, a, b⟩ | ⟨rfl, a, b⟩ <;> omega
theorem count_le {ae p : Int} (h : lenB ae p = true) : countN ae p ≤ 16 ∧ countN ae p + baseN ae = leastN p := by
  rcases len_cases h with ⟨rfl, rfl⟩ | ⟨rfl, a, b⟩ | ⟨rfl, a, b⟩ | ⟨rfl, a, b⟩ <;> (unfold countN baseN leastN; simp <;> omega)
theorem right_cases {a : ByteArray} {p : Int} (h : rightZ a p = true) : 0 ≤ p ∧ p ≤ 8 * (a.size : Int) ∧ keepL a.data.toList p.toNat = a.data.toList := by
  unfold rightZ cleanZ at h
  simp only [Bool.and_eq_true, decide_eq_true_eq] at h
  exact h.2
theorem in_cases {ae : Int} {a : ByteArray} {p : Int} (h : inB ae a p = true) : lenB ae p = true ∧ ((ae = 0 ∧ a.size = 0) ∨ ((ae = 1 ∧ a.size = 4 ∨ ae = 2 ∧ a.size = 16 ∨ ae = 3 ∧ link a = true) ∧ p ≤ 8 * (a.size : Int) ∧ keepL a.data.toList p.toNat = a.data.toList)) := by
  unfold inB at h
  simp only [Bool.and_eq_true] at h
  obtain ⟨h0, h1, h2⟩ := h
  refine ⟨h1, ?_⟩
  rcases len_cases h1 with ⟨rfl, _⟩ | ⟨rfl, _⟩ | ⟨rfl, _⟩ | ⟨rfl, _⟩
  · exact .inl ⟨rfl, by simpa [adrB] using h0⟩
  · exact .inr ⟨.inl ⟨rfl, by simpa [adrB] using h0⟩, (right_cases (by simpa using h2)).2⟩
  · exact .inr ⟨.inr (.inl ⟨rfl, by simpa [adrB] using h0⟩), (right_cases (by simpa using h2)).2⟩
  · exact .inr ⟨.inr (.inr ⟨rfl, by simpa [adrB] using h0⟩), (right_cases (by simpa using h2)).2⟩
theorem cut_take {l : List UInt8} {p : Int} (h : keepL l p.toNat = l) : cutL l p = l.take (leastN p) := by unfold cutL; rw [h]
theorem link_take {a : ByteArray} (h : link a = true) : a.data.toList.take 8 = lkH.data.toList := by
  have := congrArg (fun x : ByteArray => x.data.toList) (link_head h)
  simp only [ext_list, List.drop_zero] at this
  exact this
theorem cut_size {ae : Int} {a : ByteArray} {p : Int} (h : inB ae a p = true) : (cutP ae a p).size = countN ae p := by
  obtain ⟨hl, hc⟩ := in_cases h
  have hr := len_range hl
  unfold cutP
  rw [mk_size, List.length_drop]
  unfold cutL countN
  rw [List.length_take, keepL_length, size_list]
  rcases hc with ⟨rfl, h0⟩ | ⟨hc, h8, _⟩
  · rcases len_cases hl with ⟨_, rfl⟩ | ⟨h, _⟩ | ⟨h, _⟩ | ⟨h, _⟩
    · rw [h0]; rfl
    all_goals omega
  · have : leastN p ≤ a.size := by unfold leastN; omega
    rw [Nat.min_eq_left this]
/-- A prefix is that of its bytes. -/
theorem whole_cut {ae : Int} {a : ByteArray} {p : Int} (h : inB ae a p = true) : wholeP ae (cutP ae a p) p = a := by
  obtain ⟨hl, hc⟩ := in_cases h
  have hr := len_range hl
  rcases hc with ⟨rfl, h0⟩ | ⟨hc, h8, hk⟩
  · have e : a.data.toList = [] := List.length_eq_zero_iff.1 (by rw [size_list]; exact h0)
    exact text_eq (by rw [e]; rfl)
  have hn : ((p.toNat : Nat) : Int) = p := by omega
  have hf : fillL (a.data.toList.take (leastN p)) a.size = a.data.toList := by
    have := fill_cut a.data.toList p.toNat (by rw [size_list]; omega)
    rw [hn, cut_take hk, size_list, hk] at this
    exact this
  refine text_eq ?_
  unfold wholeP
  show keepL (wholeL ae (cutP ae a p)) p.toNat = a.data.toList
  have hz : wholeL ae (cutP ae a p) = a.data.toList := by
    rcases hc with ⟨rfl, hs⟩ | ⟨rfl, hs⟩ | ⟨rfl, hs⟩
    · show fillL ((cutL a.data.toList p).drop 0) 4 = _
      rw [List.drop_zero, cut_take hk, ← hs]; exact hf
    · show fillL ((cutL a.data.toList p).drop 0) 16 = _
      rw [List.drop_zero, cut_take hk, ← hs]; exact hf
    · show lkH.data.toList ++ fillL ((cutL a.data.toList p).drop 8) 8 = _
      rw [link_size hs] at hf
      rcases len_cases hl with ⟨h, _⟩ | ⟨h, _⟩ | ⟨h, _⟩ | ⟨_, h1, h2⟩
      · omega
      · omega
      · omega
      have hk8 : 8 ≤ leastN p := by unfold leastN; omega
      have hk16 : leastN p ≤ 16 := by unfold leastN; omega
      have ht := List.take_append_drop 8 (a.data.toList.take (leastN p))
      rw [List.take_take, Nat.min_eq_left hk8, link_take hs] at ht
      have hlen : (a.data.toList.take (leastN p)).length = leastN p := by rw [List.length_take, size_list, link_size hs]; omega
      rw [cut_take hk]
      refine Eq.trans ?_ hf
      unfold fillL
      rw [← List.append_assoc, ht, List.length_drop, hlen, show 8 - (leastN p - 8) = 16 - leastN p by omega]
  rw [hz, hk]
/-- Is it bare? -/
def bare (m : M) : Bool := isKind m && M.same m (ownM m)
theorem is_12 {m : M} (h : m.kind = 12) : isKind m = true ∧ ownM m = { k12 m with kind := m.kind } := by
  have hi : isKind m = true := by simp [isKind, h]
  exact ⟨hi, by simp [ownM, hi, fieldsOf, h]⟩
theorem is_13 {m : M} (h : m.kind = 13) : isKind m = true ∧ ownM m = { k13 m with kind := m.kind } := by
  have hi : isKind m = true := by simp [isKind, h]
  exact ⟨hi, by simp [ownM, hi, fieldsOf, h]⟩
/-- What a kind has for itself. -/
def seqB (m : M) : Bool := !decide (m.ae = 0) && (fitsB m.seq 2 && (decide (m.id.size = 8) && (decide (1 ≤ m.hops) && fitsB m.hops 1)))
def kindB (m : M) : Bool := if m.kind = 12 then true else if m.kind = 13 then seqB m else false
/-- May it be? -/
def okJ (m : M) : Bool := bare m && (inB m.ae m.pfx m.plen && (okS m.sl && kindB m))
def typJ (m : M) : Int := if m.kind = 12 then 9 else 10
/-- The fields of each kind. -/
def fld9 (m : M) : List UInt8 := layN m.ae 1 ++ layN m.plen 1
def fld10 (m : M) : List UInt8 := layN m.ae 1 ++ (layN m.plen 1 ++ (layN m.seq 2 ++ (layN m.hops 1 ++ (0 :: m.id.data.toList))))
def fldJ (m : M) : List UInt8 := if m.kind = 12 then fld9 m else fld10 m
/-- A TLV's data; its bytes. -/
def datJ (m : M) : ByteArray := ⟨(fldJ m ++ ((cutP m.ae m.pfx m.plen).data.toList ++ (putS m.sl).data.toList)).toArray⟩
def putJ (m : M) : ByteArray := if okJ m then putO (typJ m) (datJ m) else ⟨#[]⟩
theorem putJ_yes {m : M} (h : okJ m = true) : putJ m = putO (typJ m) (datJ m) := by unfold putJ; rw [if_pos h]
theorem putJ_no {m : M} (h : okJ m = false) : putJ m = ⟨#[]⟩ := by unfold putJ; rw [if_neg (by rw [h]; exact Bool.false_ne_true)]
structure Ok (m : M) : Prop where
  bare : bare m = true
  pfx : inB m.ae m.pfx m.plen = true
  subs : okS m.sl = true
  kind : kindB m = true
theorem ok_iff (m : M) : okJ m = true ↔ Ok m := by
  unfold okJ
  simp only [Bool.and_eq_true]
  exact ⟨fun ⟨a, b, c, d⟩ => ⟨a, b, c, d⟩, fun ⟨a, b, c, d⟩ => ⟨a, b, c, d⟩⟩
structure Seq (m : M) : Prop where
  ae : ¬ m.ae = 0
  seq : fitsB m.seq 2 = true
  id : m.id.size = 8
  low : 1 ≤ m.hops
  hops : fitsB m.hops 1 = true
theorem seq_iff (m : M) : seqB m = true ↔ Seq m := by
  unfold seqB
  simp only [Bool.and_eq_true, Bool.not_eq_true', decide_eq_true_eq, decide_eq_false_iff_not]
  exact ⟨fun ⟨a, b, c, d, e⟩ => ⟨a, b, c, d, e⟩, fun ⟨a, b, c, d, e⟩ => ⟨a, b, c, d, e⟩⟩
theorem kind_cases {m : M} (h : kindB m = true) : m.kind = 12 ∨ (m.kind = 13 ∧ Seq m) := by
  unfold kindB at h
  split at h
  · rename_i h1; exact .inl h1
  split at h
  · rename_i h1 h2; exact .inr ⟨h2, (seq_iff m).1 h⟩
  · cases h
theorem fits1 {n : Int} (h0 : 0 ≤ n) (h1 : n < 256) : fitsB n 1 = true := (Oct.fitsB_iff n 1).2 ⟨by omega, by omega, h0, by simpa [Oct.pw] using h1⟩
theorem f_12 {m : M} (h : m.kind = 12) : typJ m = 9 ∧ fldJ m = fld9 m := by unfold typJ fldJ; rw [if_pos h, if_pos h]; exact ⟨rfl, rfl⟩
theorem f_13 {m : M} (h : m.kind = 13) : typJ m = 10 ∧ fldJ m = fld10 m := by unfold typJ fldJ; rw [if_neg (by omega), if_neg (by omega)]; exact ⟨rfl, rfl⟩
/-- How many bytes the fields have. -/
def szJ (t : Int) : Nat := if t = 10 then 14 else 2
theorem szJ_le (t : Int) : szJ t ≤ 14 ∧ 2 ≤ szJ t := by unfold szJ; split <;> omega
theorem fld_len {m : M} (h : okJ m = true) : (fldJ m).length = szJ (typJ m) ∧ (typJ m = 9 ∨ typJ m = 10) := by
  obtain ⟨_, hp, _, hk⟩ := (ok_iff m).1 h
  obtain ⟨hl, _⟩ := in_cases hp
  obtain ⟨a0, a1, p0, p1⟩ := len_range hl
  have l1 := lay_len (fits1 (n := m.ae) a0 (by omega))
  have l2 := lay_len (fits1 (n := m.plen) p0 (by omega))
  rcases kind_cases hk with k | ⟨k, q⟩
  · rw [(f_12 k).1, (f_12 k).2]; unfold fld9; exact ⟨by rw [List.length_append, l1, l2]; rfl, .inl rfl⟩
  · rw [(f_13 k).1, (f_13 k).2]; unfold fld10
    refine ⟨?_, .inr rfl⟩
    have := q.id
    rw [List.length_append, List.length_append, List.length_append, List.length_append, List.length_cons, l1, l2, lay_len q.seq, lay_len q.hops, size_list, this]
    rfl
theorem dat_size (m : M) : (datJ m).size = (fldJ m).length + ((cutP m.ae m.pfx m.plen).size + (putS m.sl).size) := by
  unfold datJ
  rw [mk_size, List.length_append, List.length_append, size_list, size_list]
theorem dat_le {m : M} (h : okJ m = true) : (datJ m).size ≤ 230 := by
  obtain ⟨_, hp, _, _⟩ := (ok_iff m).1 h
  have h1 := (fld_len h).1
  have h2 := putS_le m.sl
  have h3 := (count_le (in_cases hp).1).1
  have h4 := (szJ_le (typJ m)).1
  rw [dat_size, cut_size hp, h1]
  omega
theorem putB_yes {m : M} (h : okJ m = true) : putB (typJ m) (datJ m) = true := by
  have h1 := (fld_len h).2
  have h2 := dat_le h
  unfold putB
  rcases h1 with h1 | h1 <;> rw [h1] <;> simp <;> omega
theorem putJ_ok {m : M} (h : okJ m = true) : (putJ m).data.toList = enc1 (datJ m, typJ m) ∧ ok1 (datJ m, typJ m) := by
  have h1 := (fld_len h).2
  have h2 := dat_le h
  have ho : ok1 (datJ m, typJ m) := ⟨by show 0 ≤ typJ m; omega, by show typJ m ≤ 255; omega, by show (datJ m).size ≤ 255; omega, fun e => by have : typJ m = 0 := e; omega⟩
  refine ⟨?_, ho⟩
  rw [putJ_yes h, (F1.put_ok ho (by show ¬ typJ m = 0; omega)).2]
/-- What stands behind a TLV's fields: the prefix's bytes, the Subs, whether none must be known. -/
structure En where
  bytes : ByteArray
  sl : List El
  known : Bool
def En.zero : En := ⟨ByteArray.empty, [], false⟩
def restN (z : Nat) (ae p om : Int) : Nat := z + (countN ae p - om.toNat)
noncomputable def endE (s : ByteArray) (z : Nat) (ae p om : Int) : En × Bool × Int :=
  if s.size < z then (En.zero, false, 2)
  else if 3 < ae then (En.zero, false, 0)
  else if lenB ae p = false ∨ (countN ae p : Int) < om then (En.zero, false, 6)
  else if s.size < restN z ae p om then (En.zero, false, 2)
  else if (outS (s.extract (restN z ae p om) s.size)).2.2 = 0 then (⟨s.extract z (restN z ae p om), (outS (s.extract (restN z ae p om) s.size)).1, (outS (s.extract (restN z ae p om) s.size)).2.1⟩, true, 0)
  else (En.zero, false, (outS (s.extract (restN z ae p om) s.size)).2.2)
section
variable {s : ByteArray} {z : Nat} {ae p om : Int}
theorem end_yes {l : List El} {b : Bool} (h : ¬ s.size < z) (k : ¬ 3 < ae) (g1 : lenB ae p = true) (g2 : ¬ (countN ae p : Int) < om) (c : ¬ s.size < restN z ae p om) (o : outS (s.extract (restN z ae p om) s.size) = (l, b, 0)) : endE s z ae p om = (⟨s.extract z (restN z ae p om), l, b⟩, true, 0) := by
  unfold endE; rw [if_neg h, if_neg k, if_neg (by rw [g1]; simpa using g2), if_neg c, o, if_pos rfl]
end
/-- The number of two bytes. -/
def num2 (d : ByteArray) (a : Nat) : Int := ((numL ((d.data.toList.drop a).take 2) : Nat) : Int)
/-- What the fields of each type say. -/
def hd9 (d : ByteArray) : M := { M.zero with kind := 12, ae := bt d 0, plen := bt d 1 }
def hd10 (d : ByteArray) : M := { M.zero with kind := 13, ae := bt d 0, plen := bt d 1, seq := num2 d 2, hops := bt d 4, id := d.extract 6 14 }
def hdJ (t : Int) (d : ByteArray) : M := if t = 10 then hd10 d else hd9 d
/-- The request that a TLV says, whether it counts, the error. -/
noncomputable def outJ (t : Int) (d : ByteArray) : M × Bool × Int :=
  if (endE d (szJ t) (bt d 0) (bt d 1) 0).2.1 = true ∧ (endE d (szJ t) (bt d 0) (bt d 1) 0).1.known = true ∧ kindB (hdJ t d) = true
  then ({ hdJ t d with pfx := wholeP (bt d 0) (endE d (szJ t) (bt d 0) (bt d 1) 0).1.bytes (bt d 1), sl := (endE d (szJ t) (bt d 0) (bt d 1) 0).1.sl }, true, 0)
  else (M.zero, false, (endE d (szJ t) (bt d 0) (bt d 1) 0).2.2)
theorem out_yes {t : Int} {d : ByteArray} {x : En} (h : endE d (szJ t) (bt d 0) (bt d 1) 0 = (x, true, 0)) (k : x.known = true) (q : kindB (hdJ t d) = true) : outJ t d = ({ hdJ t d with pfx := wholeP (bt d 0) x.bytes (bt d 1), sl := x.sl }, true, 0) := by
  unfold outJ; rw [h, if_pos ⟨rfl, k, q⟩]

theorem num2_of {d : ByteArray} {a : Nat} {v : Int} (h : (d.data.toList.drop a).take 2 = layN v 2) (hf : fitsB v 2 = true) : num2 d a = v := by unfold num2; rw [h]; exact lay_num hf
theorem ext_to (d : ByteArray) (a : Nat) : (d.extract a d.size).data.toList = d.data.toList.drop a := by
  rw [ext_list, List.take_of_length_le (by rw [List.length_drop, size_list]; exact Nat.le_refl _)]
theorem lay_one {v : Int} (h0 : 0 ≤ v) (h1 : v < 256) : ∃ c : UInt8, layN v 1 = [c] ∧ (c.toNat : Int) = v := by
  have hf := fits1 h0 h1
  have := lay_len hf
  have e := lay_num hf
  match layN v 1, this, e with
  | [c], _, e => exact ⟨c, rfl, by rw [← e]; simp [numL]⟩
/-- A request that may be is that of its TLV. -/
theorem put_back {m : M} (h : okJ m = true) : outJ (typJ m) (datJ m) = ({ ownM m with sa := none, sc := 0 }, true, 0) := by
  obtain ⟨_, hp, hx, hk⟩ := (ok_iff m).1 h
  have hl : (datJ m).data.toList = fldJ m ++ ((cutP m.ae m.pfx m.plen).data.toList ++ (putS m.sl).data.toList) := rfl
  have hf := (fld_len h).1
  have hlen := (in_cases hp).1
  obtain ⟨a0, a1, p0, p1⟩ := len_range hlen
  have hc := cut_size hp
  have hw := whole_cut hp
  have hz := dat_size m
  generalize datJ m = d at *
  have hr : restN (szJ (typJ m)) m.ae m.plen 0 = (fldJ m).length + countN m.ae m.plen := by unfold restN; rw [hf]; rfl
  -- what stands behind the fields
  have hend : bt d 0 = m.ae → bt d 1 = m.plen → endE d (szJ (typJ m)) (bt d 0) (bt d 1) 0 = (⟨cutP m.ae m.pfx m.plen, m.sl, true⟩, true, 0) := fun b0 b1 => by
    rw [b0, b1]
    have e1 : d.extract (restN (szJ (typJ m)) m.ae m.plen 0) d.size = putS m.sl := text_eq (by
      rw [ext_to, hr, hl, ← List.drop_drop, List.drop_left, ← hc, ← size_list]
      exact List.drop_left ..)
    have e2 : d.extract (szJ (typJ m)) (restN (szJ (typJ m)) m.ae m.plen 0) = cutP m.ae m.pfx m.plen := text_eq (by
      rw [ext_list, hr, hl, ← hf, List.drop_left, Nat.add_sub_cancel_left, ← hc, ← size_list]
      exact List.take_left ..)
    have := end_yes (s := d) (z := szJ (typJ m)) (ae := m.ae) (p := m.plen) (om := 0) (l := m.sl) (b := true) (by rw [← hf]; omega) (by omega) hlen (by omega) (by rw [hr]; omega) (by rw [e1]; exact put_out hx)
    rw [e2] at this
    exact this
  obtain ⟨ca, ha, hca⟩ := lay_one (v := m.ae) a0 (by omega)
  obtain ⟨cp, hpl, hcp⟩ := lay_one (v := m.plen) p0 (by omega)
  rcases kind_cases hk with k | ⟨k, q⟩
  · rw [(f_12 k).2] at hl
    rw [(f_12 k).1] at hend ⊢
    rw [(is_12 k).2]
    have e : d.data.toList = ca :: cp :: ((cutP m.ae m.pfx m.plen).data.toList ++ (putS m.sl).data.toList) := by rw [hl]; simp [fld9, ha, hpl]
    have b0 : bt d 0 = m.ae := by unfold bt; rw [e]; exact hca
    have b1 : bt d 1 = m.plen := by unfold bt; rw [e]; exact hcp
    rw [out_yes (hend b0 b1) rfl (by rfl), b0, b1, hw]
    rw [show hdJ 9 d = hd9 d from rfl]
    unfold hd9
    rw [b0, b1, k]
    rfl
  · rw [(f_13 k).2] at hl
    rw [(f_13 k).1] at hend ⊢
    rw [(is_13 k).2]
    obtain ⟨ch, hh, hch⟩ := lay_one (v := m.hops) (by have := q.low; omega) (by have := ((Oct.fitsB_iff _ _).1 q.hops).2.2.2; simpa [Oct.pw] using this)
    obtain ⟨s0, s1, hs⟩ : ∃ s0 s1, layN m.seq 2 = [s0, s1] := by
      have := lay_len q.seq
      match layN m.seq 2, this with
      | [a, b], _ => exact ⟨a, b, rfl⟩
    have e : d.data.toList = ca :: cp :: s0 :: s1 :: ch :: 0 :: (m.id.data.toList ++ ((cutP m.ae m.pfx m.plen).data.toList ++ (putS m.sl).data.toList)) := by rw [hl]; simp [fld10, ha, hpl, hh, hs]
    have b0 : bt d 0 = m.ae := by unfold bt; rw [e]; exact hca
    have b1 : bt d 1 = m.plen := by unfold bt; rw [e]; exact hcp
    have b4 : bt d 4 = m.hops := by unfold bt; rw [e]; exact hch
    have n2 : num2 d 2 = m.seq := num2_of (by rw [e, hs]; rfl) q.seq
    have ei : d.extract 6 14 = m.id := text_eq (by
      rw [ext_list, e]
      show List.take 8 (m.id.data.toList ++ _) = _
      rw [← q.id, ← size_list]
      exact List.take_left ..)
    have hh10 : hdJ 10 d = { M.zero with kind := 13, ae := m.ae, plen := m.plen, seq := m.seq, hops := m.hops, id := m.id } := by
      show hd10 d = _
      unfold hd10
      rw [b0, b1, b4, n2, ei]
    rw [out_yes (hend b0 b1) rfl (by rw [hh10]; show seqB _ = true; exact (seq_iff _).2 ⟨q.ae, q.seq, q.id, q.low, q.hops⟩), b0, b1, hw, hh10, k]
    rfl
/-- An Update as it stands. -/
structure Up where
  ae : Int
  flags : Int
  plen : Int
  om : Int
  iv : Int
  seq : Int
  metric : Int
  hav : Int
  bytes : ByteArray
  sa : Option Addr
  sl : List El
  sc : Nat
def Up.zero : Up := ⟨0, 0, 0, 0, 0, 0, 0, 0, ByteArray.empty, none, [], 0⟩
def hdK (d : ByteArray) : Up := { Up.zero with ae := bt d 0, flags := bt d 1, plen := bt d 2, om := bt d 3, iv := num2 d 4, seq := num2 d 6, metric := num2 d 8 }
/-- The Update that a TLV is, whether it is one, the error. -/
noncomputable def outK (d : ByteArray) : Up × Bool × Int :=
  if (endE d 10 (bt d 0) (bt d 2) (bt d 3)).2.1 = true
  then ({ hdK d with hav := if (endE d 10 (bt d 0) (bt d 2) (bt d 3)).1.known then 1 else 0, bytes := (endE d 10 (bt d 0) (bt d 2) (bt d 3)).1.bytes, sl := (endE d 10 (bt d 0) (bt d 2) (bt d 3)).1.sl }, true, 0)
  else (Up.zero, false, (endE d 10 (bt d 0) (bt d 2) (bt d 3)).2.2)
end Go.Proofs.YtfegdblaohhdoaaDoor.J1
namespace Go.Proofs.YtfegdblaohhdoaaDoor.K1
open Go.ChangeShapes Go.WideShapes Go.ChangeAt Go.RowKit
open Go.Proofs.YtfegdblaohhdoaaDoor.Ms
open Go.Proofs.YtfegdblaohhdoaaDoor.S1
open Go.Proofs.YtfegdblaohhdoaaDoor.Lk
open Go.Proofs.YtfegdblaohhdoaaDoor.Nu
open Go.Proofs.YtfegdblaohhdoaaDoor.J1
open Go.Proofs.YtfegdblaohhdoaaDoor.Oct (fitsB)
open Go.Proofs.YtfegdblaohhdoaaDoor.Own (k11 ownM isKind fieldsOf)
open Go.Proofs.YtfegdblaohhdoaaDoor.Bits (keepL keepL_length)
open Go.Proofs.YtfegdblaohhdoaaDoor.Pre (leastN fillL rightZ)
open Go.Proofs.YtfegdblaohhdoaaDoor.F1 (bt bt_nn bt_lt)
set_option linter.unusedVariables false
set_option maxRecDepth 100000
set_option maxRecDepth 100000

/-- What is known at a place. -/
structure Kx where
  p0 : ByteArray
  p1 : ByteArray
  p2 : ByteArray
  p3 : ByteArray
  n0 : ByteArray
  n1 : ByteArray
  id : ByteArray
def Kx.zero : Kx := ⟨ByteArray.empty, ByteArray.empty, ByteArray.empty, ByteArray.empty, ByteArray.empty, ByteArray.empty, ByteArray.empty⟩
def Kx.cells (c : Kx) : Array Value := #[.string c.p0, .string c.p1, .string c.p2, .string c.p3, .string c.n0, .string c.n1, .string c.id]
/-- The default prefix of an encoding, the next hop of a family; with another one. -/
def Kx.pf (c : Kx) (ae : Int) : ByteArray := if ae = 1 then c.p1 else if ae = 2 then c.p2 else if ae = 3 then c.p3 else c.p0
def Kx.nx (c : Kx) (f : Int) : ByteArray := if f = 1 then c.n1 else c.n0
def Kx.setP (c : Kx) (ae : Int) (a : ByteArray) : Kx := if ae = 1 then { c with p1 := a } else if ae = 2 then { c with p2 := a } else if ae = 3 then { c with p3 := a } else { c with p0 := a }
def Kx.setN (c : Kx) (f : Int) (a : ByteArray) : Kx := if f = 1 then { c with n1 := a } else { c with n0 := a }
def emB (a : ByteArray) : Bool := decide (a.size = 0)
def okP (ae : Int) (a : ByteArray) : Bool := emB a || adrB ae a
def okN (k : Nat) (a : ByteArray) : Bool := emB a || decide (a.size = k)
/-- May it be? -/
def okC (c : Kx) : Bool := emB c.p0 && (okP 1 c.p1 && (okP 2 c.p2 && (okP 3 c.p3 && (okN 4 c.n0 && (okN 16 c.n1 && okN 8 c.id)))))
structure Okc (c : Kx) : Prop where
  p0 : c.p0.size = 0
  p1 : c.p1.size = 0 ∨ adrB 1 c.p1 = true
  p2 : c.p2.size = 0 ∨ adrB 2 c.p2 = true
  p3 : c.p3.size = 0 ∨ adrB 3 c.p3 = true
  n0 : c.n0.size = 0 ∨ c.n0.size = 4
  n1 : c.n1.size = 0 ∨ c.n1.size = 16
  id : c.id.size = 0 ∨ c.id.size = 8
theorem okc_iff (c : Kx) : okC c = true ↔ Okc c := by
  unfold okC okP okN emB
  simp only [Bool.and_eq_true, Bool.or_eq_true, decide_eq_true_eq]
  exact ⟨fun ⟨a, b, c, d, e, f, g⟩ => ⟨a, b, c, d, e, f, g⟩, fun ⟨a, b, c, d, e, f, g⟩ => ⟨a, b, c, d, e, f, g⟩⟩
theorem Okc.pf {c : Kx} (h : Okc c) {ae : Int} (h0 : 0 ≤ ae) (h3 : ae ≤ 3) : (c.pf ae).size = 0 ∨ (adrB ae (c.pf ae) = true ∧ ¬ ae = 0) := by
  rcases (show ae = 0 ∨ ae = 1 ∨ ae = 2 ∨ ae = 3 by omega) with rfl | rfl | rfl | rfl
  · exact .inl h.p0
  · exact h.p1.imp (fun x => x) (fun h => ⟨h, by decide⟩)
  · exact h.p2.imp (fun x => x) (fun h => ⟨h, by decide⟩)
  · exact h.p3.imp (fun x => x) (fun h => ⟨h, by decide⟩)
theorem Okc.setP {c : Kx} (h : Okc c) {ae : Int} {a : ByteArray} (h0 : 0 < ae) (h3 : ae ≤ 3) (ha : adrB ae a = true) : Okc (c.setP ae a) := by
  rcases (show ae = 1 ∨ ae = 2 ∨ ae = 3 by omega) with rfl | rfl | rfl
  · exact ⟨h.p0, .inr ha, h.p2, h.p3, h.n0, h.n1, h.id⟩
  · exact ⟨h.p0, h.p1, .inr ha, h.p3, h.n0, h.n1, h.id⟩
  · exact ⟨h.p0, h.p1, h.p2, .inr ha, h.n0, h.n1, h.id⟩
/-- The family of an encoding's addresses, that of an address, the bytes of an encoding's address. -/
def fam (ae : Int) : Int := if ae = 1 then 0 else if ae = 2 ∨ ae = 3 then 1 else -1
def famA (a : ByteArray) : Int := if a.size = 4 then 0 else if a.size = 16 then 1 else -1
def sizeA (ae : Int) : Nat := if ae = 1 then 4 else if ae = 2 then 16 else if ae = 3 then 8 else 0
/-- Is it bare? Does an Update say who has the way, if there is one? -/
theorem is_11 {m : M} (h : m.kind = 11) : isKind m = true ∧ ownM m = { k11 m with kind := m.kind } := by
  have hi : isKind m = true := by simp [isKind, h]
  exact ⟨hi, by simp [ownM, hi, fieldsOf, h]⟩
def wayB (m : M) : Bool := if m.metric = 65535 then emB m.id && emB m.next else !decide (m.ae = 0) && (decide (m.id.size = 8) && (emB m.next || decide (famA m.next = fam m.ae)))
/-- May it be an Update? -/
def okU (m : M) : Bool := decide (m.kind = 11) && (bare m && (okS m.sl && (inB m.ae m.pfx m.plen && (fitsB m.interval 2 && (fitsB m.seq 2 && (fitsB m.metric 2 && wayB m))))))

/-- The sub-TLVs from a place on: whether none must be known, or an error. -/
noncomputable def fixO (d : ByteArray) (z : Nat) : Bool × Int := if d.size < z then (false, 2) else (outS (d.extract z d.size)).2
/-- What a router-id's TLV makes, what a next hop's. -/
noncomputable def out6 (c : Kx) (d : ByteArray) : Kx × List M × Int :=
  if (fixO d 10).2 = 0 ∧ (fixO d 10).1 = true then ({ c with id := d.extract 2 10 }, [], 0) else (c, [], (fixO d 10).2)
def hopA (ae : Int) (d : ByteArray) : ByteArray := if ae = 3 then lgA (d.extract 2 (2 + sizeA ae)) else d.extract 2 (2 + sizeA ae)
noncomputable def out7 (c : Kx) (d : ByteArray) : Kx × List M × Int :=
  if d.size < 2 then (c, [], 2)
  else if bt d 0 = 0 ∨ 3 < bt d 0 then (c, [], 0)
  else if (fixO d (2 + sizeA (bt d 0))).2 = 0 ∧ (fixO d (2 + sizeA (bt d 0))).1 = true then (c.setN (fam (bt d 0)) (hopA (bt d 0) d), [], 0)
  else (c, [], (fixO d (2 + sizeA (bt d 0))).2)
/-- An Update's address: the bytes that were left out are the default prefix's. -/
def omL (c : Kx) (u : Up) : List UInt8 := ((c.pf u.ae).data.toList.drop (baseN u.ae)).take u.om.toNat
def adrC (c : Kx) (u : Up) : ByteArray := wholeP u.ae ⟨(omL c u ++ u.bytes.data.toList).toArray⟩ u.plen
/-- The router-id that lies in an address. -/
def idA (a : ByteArray) : ByteArray := ⟨((List.replicate 8 0 ++ a.data.toList).drop a.size).toArray⟩
/-- What is known behind an Update by its flags. -/
def flagC (c : Kx) (u : Up) (a : ByteArray) : Kx :=
  if u.ae = 0 then c
  else if u.flags / 64 % 2 = 1 then { (if 128 ≤ u.flags then c.setP u.ae a else c) with id := idA a }
  else if 128 ≤ u.flags then c.setP u.ae a else c
/-- Is it told? The message. -/
def tellB (c : Kx) (u : Up) : Bool := !decide (u.hav = 0) && (decide (u.metric = 65535) || (!decide (u.ae = 0) && !emB c.id))
def updM (c : Kx) (u : Up) (a : ByteArray) : M :=
  { M.zero with kind := 11, ae := u.ae, pfx := a, plen := u.plen, interval := u.iv, seq := u.seq, metric := u.metric, sl := u.sl,
                id := if u.metric = 65535 then ByteArray.empty else c.id, next := if u.metric = 65535 then ByteArray.empty else c.nx (fam u.ae) }
def stU (c : Kx) (u : Up) : Kx × List M × Int :=
  if 0 < u.om ∧ (c.pf u.ae).size = 0 then (c, [], 9)
  else (flagC c u (adrC c u), if tellB (flagC c u (adrC c u)) u then [updM (flagC c u (adrC c u)) u (adrC c u)] else [], 0)
noncomputable def out8 (c : Kx) (d : ByteArray) : Kx × List M × Int := if (outK d).2.1 = true then stU c (outK d).1 else (c, [], (outK d).2.2)
/-- What a TLV of the types 6 to 8 makes of what is known, what it tells, the error. -/
noncomputable def outC (c : Kx) (t : Int) (d : ByteArray) : Kx × List M × Int := if t = 6 then out6 c d else if t = 7 then out7 c d else out8 c d

theorem adr_len {ae : Int} {a : ByteArray} (h : adrB ae a = true) (h0 : 0 < ae) (h3 : ae ≤ 3) : a.size = if ae = 1 then 4 else 16 := by
  rcases (show ae = 1 ∨ ae = 2 ∨ ae = 3 by omega) with rfl | rfl | rfl
  · simpa [adrB] using h
  · simpa [adrB] using h
  · have h : link a = true := h
    exact link_size h
theorem in_adr {ae : Int} {a : ByteArray} {p : Int} (h : inB ae a p = true) : adrB ae a = true := by unfold inB at h; rw [Bool.and_eq_true] at h; exact h.1
theorem em_size {a : ByteArray} : emB a = true ↔ a.size = 0 := by unfold emB; exact decide_eq_true_iff
theorem at_3 {d : ByteArray} {x y z u : UInt8} {l : List UInt8} (h : d.data.toList = x :: y :: z :: u :: l) : bt d 3 = u.toNat := by unfold bt; rw [h]; rfl
end Go.Proofs.YtfegdblaohhdoaaDoor.K1
namespace Go.Proofs.YtfegdblaohhdoaaDoor.Few
open Go.ChangeShapes Go.WideShapes Go.ChangeAt Go.RowKit
open Go.Proofs.YtfegdblaohhdoaaDoor.Ms
open Go.Proofs.YtfegdblaohhdoaaDoor.Box
open Go.Proofs.YtfegdblaohhdoaaDoor.Same
open Go.Proofs.YtfegdblaohhdoaaDoor.Cnt
set_option linter.unusedVariables false
set_option maxRecDepth 100000

def small (n : Nat) (l : List El) : Bool := l.all fun x => decide (x.1.size ≤ n)
theorem small_take (n : Nat) (l : List El) (k : Nat) (h : k < l.length) : small n (l.take (k + 1)) = (small n (l.take k) && decide (l[k].1.size ≤ n)) := by
  unfold small
  rw [List.take_succ_eq_append_getElem h, List.all_append]
  simp
theorem small_not (n : Nat) (l : List El) (k : Nat) (h : k < l.length) (hn : n < l[k].1.size) : small n l = false := by
  unfold small
  rw [List.all_eq_false]
  exact ⟨l[k], List.getElem_mem h, by simp; omega⟩
/-- Few parts, of few bytes? -/
def fewB (m : M) : Bool := decide (m.ll.length ≤ 300) && decide (m.sl.length ≤ 60) && decide (wrap64 ((m.auth.size : Int) + m.pfx.size) ≤ 200) && decide (wrap64 ((m.next.size : Int) + m.id.size) ≤ 200) && decide (wrap64 ((m.addr.size : Int) + m.orig.size) ≤ 200) && decide (m.data.size ≤ 300) && small 50 m.ll && small 300 m.sl
set_option maxHeartbeats 3200000 in
set_option maxRecDepth 100000 in
theorem few_any (m : M) (w : World) (hd : DRow w m.la m.ll) (hs : SRow w m.sa m.sl) :
    Calls Tryd.prog 4 #[.agg m.cells] w fun e w' => e = .returned (.bool (fewB m)) ∧ Below w.heap.size w w' := by
  have bel := balloc (Below.refl _ w) (.cells m.cells 29)
  have hd := hd.below (balloc (Below.refl _ w) (.cells m.cells 29))
  have hs := hs.below (balloc (Below.refl _ w) (.cells m.cells 29))
  have b0 := Bx.new w m
  have HFB := Lib.hid (show fewB m = (decide (m.ll.length ≤ 300) && decide (m.sl.length ≤ 60) && decide (wrap64 ((m.auth.size : Int) + m.pfx.size) ≤ 200) && decide (wrap64 ((m.next.size : Int) + m.id.size) ≤ 200) && decide (wrap64 ((m.addr.size : Int) + m.orig.size) ≤ 200) && decide (m.data.size ≤ 300) && small 50 m.ll && small 300 m.sl) from rfl)
  go_enter Tryd.func4, Tryd.ntmps4
  go_upto_region 1 with fail
  generalize w.alloc (.cells m.cells 29) = V at *
  have c3 := b0.cs.c3
  have c6 := b0.cs.c6
  have c9 := b0.cs.c9
  have c11 := b0.cs.c11
  have c19 := b0.cs.c19
  have c20 := b0.cs.c20
  have c21 := b0.cs.c21
  have c23 := b0.cs.c23
  have c24 := b0.cs.c24
  clear b0
  by_cases h1 : 300 < m.ll.length
  · go_wp2
    go_ret
    exact ⟨bool_eq (by rw [HFB.out]; simp; omega), bel⟩
  by_cases h2 : 60 < m.sl.length
  · go_wp2
    go_ret
    exact ⟨bool_eq (by rw [HFB.out]; simp; omega), bel⟩
  by_cases h3 : 200 < wrap64 ((m.auth.size : Int) + m.pfx.size)
  · go_wp2
    go_ret
    exact ⟨bool_eq (by rw [HFB.out]; simp; omega), bel⟩
  by_cases h4 : 200 < wrap64 ((m.next.size : Int) + m.id.size)
  · go_wp2
    go_ret
    exact ⟨bool_eq (by rw [HFB.out]; simp; omega), bel⟩
  by_cases h5 : 200 < wrap64 ((m.addr.size : Int) + m.orig.size)
  · go_wp2
    go_ret
    exact ⟨bool_eq (by rw [HFB.out]; simp; omega), bel⟩
  by_cases h6 : 300 < m.data.size
  · go_wp2
    go_ret
    exact ⟨bool_eq (by rw [HFB.out]; simp; omega), bel⟩
  have HF2 : Hid (fewB m = (small 50 m.ll && small 300 m.sl)) := Lib.hid (by rw [HFB.out]; simp [show m.ll.length ≤ 300 by omega, show m.sl.length ≤ 60 by omega, show wrap64 ((m.auth.size : Int) + m.pfx.size) ≤ 200 by omega, show wrap64 ((m.next.size : Int) + m.id.size) ≤ 200 by omega, show wrap64 ((m.addr.size : Int) + m.orig.size) ≤ 200 by omega, show m.data.size ≤ 300 by omega])
  clear HFB
  go_upto_region 3 with fail
  have l1 : m.ll.length ≤ 300 := by omega
  have l2 : m.sl.length ≤ 60 := by omega
  clear h1 h2 h3 h4 h5 h6 c3 c6 c9 c11 c19 c20 c23
  generalize m.ll = x at *
  generalize m.sl = y at *
  go_wp2
  go_loopw [3] (fun i wr => ∃ k : Nat, k ≤ x.length ∧ i = .int .i64 k ∧ Hid (small 50 (x.take k) = true) ∧ wr = V) (fun i _ => x.length - (intOf i).toNat)
  case atStart => exact ⟨0, Nat.zero_le _, rfl, Lib.hid rfl, rfl⟩
  case round =>
    obtain ⟨k, hk, rfl, HN, rfl⟩ := hrel
    by_cases hlt : k < x.length
    · obtain ⟨p, hp, _, d0, _⟩ := hd k hlt
      rw [hp] at c21
      have HT := Lib.hid (small_take 50 x k hlt)
      have HF := Lib.hid (small_not 50 x k hlt)
      clear hd hs hp c24
      generalize x[k] = u at *
      obtain ⟨s, n⟩ := u
      by_cases h1 : 50 < s.size
      · go_wp2
        go_ret
        exact ⟨bool_eq (by rw [HF2.out, HF.out h1]; simp), bel⟩
      · go_wp2
        go_roundw
        case rel => exact ⟨k + 1, hlt, by go_num, Lib.hid (by rw [HT.out, HN.out]; simp; omega), by first | rfl | trivial⟩
        case measure => simp [intOf]; omega
    · obtain rfl : k = x.length := by omega
      have HX : Hid (small 50 x = true) := Lib.hid (by have := HN.out; rwa [List.take_length] at this)
      clear HN hd
      go_wp2
      go_loopw [4] (fun i wr2 => ∃ k : Nat, k ≤ y.length ∧ i = .int .i64 k ∧ Hid (small 300 (y.take k) = true) ∧ wr2 = wr) (fun i _ => y.length - (intOf i).toNat)
      case atStart => exact ⟨0, Nat.zero_le _, rfl, Lib.hid rfl, rfl⟩
      case round =>
        obtain ⟨k, hk, rfl, HN, rfl⟩ := hrel
        by_cases hlt : k < y.length
        · obtain ⟨p, hp, _, _, d1⟩ := hs k hlt
          rw [hp] at c24
          have HT := Lib.hid (small_take 300 y k hlt)
          have HF := Lib.hid (small_not 300 y k hlt)
          clear hs hp c21
          rw [add_one] at d1
          generalize y[k] = u at *
          obtain ⟨s, n⟩ := u
          by_cases h1 : 300 < s.size
          · go_wp2
            go_ret
            exact ⟨bool_eq (by rw [HF2.out, HF.out h1]; simp), bel⟩
          · go_wp2
            go_roundw
            case rel => exact ⟨k + 1, hlt, by go_num, Lib.hid (by rw [HT.out, HN.out]; simp; omega), by first | rfl | trivial⟩
            case measure => simp [intOf]; omega
        · obtain rfl : k = y.length := by omega
          have HY : Hid (small 300 y = true) := Lib.hid (by have := HN.out; rwa [List.take_length] at this)
          clear HN hs
          go_wp2
          go_ret
          exact ⟨bool_eq (by rw [HF2.out, HX.out, HY.out]; rfl), bel⟩
end Go.Proofs.YtfegdblaohhdoaaDoor.Few
namespace Go.Proofs.YtfegdblaohhdoaaDoor.Hx
open Go.ChangeShapes Go.WideShapes Go.ChangeAt Go.RowKit
set_option linter.unusedVariables false
set_option maxRecDepth 100000
set_option maxRecDepth 100000

section
variable {P : Program} {ops : Array Oper} {Q : Exit → Act → World → Prop} {md : Region.Mode} {S : World → Prop}
end
theorem ex_built {P : Program} {o : Oper} {ρ : Operand → Value} {t : TypeId} {parts : Array (Nat × Operand)} {cells : Array Value} {w : World} (ho : o.op = .build t parts) (hc : P.built t (parts.map fun (i, x) => (i, ρ x)).toList = some cells) :
    (execOp ρ o).run P w = .ok (.value (.agg cells)) w := by
  unfold execOp
  simp only [ho, Sem.run_bind, run_build w t _ cells hc, Result.andThen_ok, Sem.run_pure]
theorem conv8 (n : Int) (h0 : 0 ≤ n) (h1 : n < 256) (W : World) : (convert 5 3 (.int .u8 n)).run Tryd.prog W = .ok (.int .i64 n) W := by
  rw [run_convert_int W 5 3 .u8 n (by rw [Tryd.underlying5]; rfl) Tryd.underlying3]
  have : (Tryd.prog.intKind 3).wrap n = n := by
    rw [show Tryd.prog.intKind 3 = .i64 by kernel_rfl]
    exact IntWalk.i64_in n (by omega)
  rw [this, show Tryd.prog.intKind 3 = .i64 by kernel_rfl]
end Go.Proofs.YtfegdblaohhdoaaDoor.Hx
namespace Go.Proofs.YtfegdblaohhdoaaDoor.Bk
open Go.ChangeShapes Go.WideShapes Go.ChangeAt Go.RowKit
open Go.Proofs.YtfegdblaohhdoaaDoor.Cur
open Go.Proofs.YtfegdblaohhdoaaDoor.Oct
set_option linter.unusedVariables false
set_option maxRecDepth 100000

theorem alloc_size (w : World) (o : Obj) : (w.alloc o).heap.size = w.heap.size + 1 := by show (w.heap.push o).size = _; simp
/-- Block b holds the cells cs of a struct of type t. -/
def Bk (t : TypeId) (w : World) (b : Nat) (cs : Array Value) : Prop := w.heap[b]? = some (.cells cs t (0, 0))
section
variable {t : TypeId} {w w' : World} {b : Nat} {cs cs' : Array Value}
theorem Bk.lt (h : Bk t w b cs) : b < w.heap.size := (Array.getElem?_eq_some_iff.1 h).1
theorem Bk.below (h : Bk t w b cs) (hb : Below w.heap.size w w') : Bk t w' b cs := (hb.block b h.lt).trans h
theorem Bk.under {B : Nat} (h : Bk t w b cs) (hb : Below B w w') (hB : b < B) : Bk t w' b cs := (hb.block b hB).trans h
theorem Bk.new (t : TypeId) (w : World) (cs : Array Value) : Bk t (w.alloc (.cells cs t)) w.heap.size cs := heap_alloc_new w _
theorem Bk.old (h : Bk t w b cs) (o : Obj) : Bk t (w.alloc o) b cs := (heap_alloc_old w o h.lt).trans h
theorem Bk.row {g : Nat} (h : Bk t w b cs) (hn : b ≠ g) (cs' : Array Value) : Bk t (w.setRow g cs') b cs := (setRow_other w g b cs' hn).trans h
theorem Bk.put (h : Bk t w b cs) (cs' : Array Value) : Bk t (w.setRow b cs') b cs' := setRow_heap w b cs cs' _ _ h
theorem Bk.set {i : Nat} {v : Value} (h : Bk t w b cs) (hm : cs.setIfInBounds i v = cs') : Bk t (w.setCell ⟨b, i, none⟩ v) b cs' := by
  have := heap_setCell_same w b i cs t v h
  rw [hm] at this
  exact this
theorem Bk.off (h : Bk t w b cs) {p : Addr} (hn : b ≠ p.block) (v : Value) : Bk t (w.setCell p v) b cs := (heap_setCell_other w p b v hn).trans h
theorem Bk.cell (h : Bk t w b cs) (j : Nat) (v : Value) (hv : cs[j]? = some v) : w.cell? ⟨b, j, none⟩ = some v := by
  rw [cell_of_row w b j cs _ _ h, hv]
theorem Bk.frozen (h : Bk t w b cs) (j : Nat) : w.frozen? ⟨b, j, none⟩ = false := frozen_of_row w b j cs _ h
end

/-- ty is a struct of n cells. -/
def Sh (P : Program) (ty : TypeId) (n : Nat) : Prop := ∃ fs, P.underlying ty = some (.struct fs) ∧ (P.info? ty).map (·.size) = some n
section
variable {P : Program}
theorem wpList_loadK {ops : Array Oper} {rest : List Oper} {o : Oper} {a : Act} {w : World} {Q : Exit → Act → World → Prop} {ty tb : TypeId} {n : Nat} (hs : Sh P ty n)
    (hgd : o.guard = none) (x : Operand) (ho : o.op = .load ty x) {b : Nat} (hx : a.eval x = .pointer (some ⟨b, 0, none⟩)) {cs : Array Value} (hb : Bk tb w b cs) (hn : cs.size = n)
    (h : wpList P ops Q rest (a.put o.dst (.agg cs)) w) : wpList P ops Q (o :: rest) a w := by
  subst hn
  obtain ⟨d, h1, h3⟩ := hs
  exact wpList_load_row hgd ty x ho b hx tb cs (0, 0) _ hb h1 rfl h3 h
theorem wpList_storeK {ops : Array Oper} {rest : List Oper} {o : Oper} {a : Act} {w : World} {Q : Exit → Act → World → Prop} {ty tb : TypeId} {n : Nat} (hs : Sh P ty n)
    (hgd : o.guard = none) (x y : Operand) (ho : o.op = .store ty x y) {b : Nat} (hx : a.eval x = .pointer (some ⟨b, 0, none⟩)) {cs cs' : Array Value} (hy : a.eval y = .agg cs') (hb : Bk tb w b cs) (hn : cs.size = n) (hn' : cs'.size = n) (h1 : (cs'.all fun x => x.oneCell') = true)
    (h : wpList P ops Q rest (a.put o.dst undef) (w.setRow b cs')) : wpList P ops Q (o :: rest) a w := by
  obtain ⟨d, _, h3⟩ := hs
  exact wpList_store_row hgd ty x y ho b cs' hx hy tb cs hb (by rw [h3, hn']) (by rw [hn, hn']) h1 h
theorem wpList_builtK {ops : Array Oper} {rest : List Oper} {o : Oper} {a : Act} {w : World} {Q : Exit → Act → World → Prop} (hg : o.guard = none) (t : TypeId) (parts : Array (Nat × Operand)) (ho : o.op = .build t parts)
    (cells : Array Value) (hc : P.built t (parts.map fun (i, x) => (i, a.eval x)).toList = some cells)
    (h : wpList P ops Q rest (a.put o.dst (.agg cells)) w) : wpList P ops Q (o :: rest) a w :=
  wpList_build hg t parts ho (by rw [hc]; rfl) (by rw [hc]; exact h)
theorem loadVarK {w : World} {b n : Nat} {ty tb : TypeId} {cs : Array Value} (hs : Sh P ty n) (h : Bk tb w b cs) (hn : cs.size = n) : (loadVar ty ⟨b, 0, none⟩).run P w = .ok (.agg cs) w := by
  subst hn
  obtain ⟨d, h1, h3⟩ := hs
  exact run_loadVar_row w b tb ty cs (0, 0) _ h h1 rfl h3
theorem run_loadK {o : Oper} {ρ : Operand → Value} {x : Operand} {b n : Nat} {ty tb : TypeId} {cs : Array Value} {w : World} (hs : Sh P ty n) (ho : o.op = .load ty x) (hx : ρ x = .pointer (some ⟨b, 0, none⟩)) (hb : Bk tb w b cs) (hn : cs.size = n) :
    (execOp ρ o).run P w = .ok (.value (.agg cs)) w := by
  unfold execOp
  simp only [ho, hx, Instr.loadAt, Instr.sureAddr, Sem.run_bind, Sem.run_pure, Result.andThen_ok, loadVarK hs hb hn]
end

end Go.Proofs.YtfegdblaohhdoaaDoor.Bk
namespace Go.Proofs.YtfegdblaohhdoaaDoor.Sx
open Go.ChangeShapes Go.WideShapes Go.ChangeAt Go.RowKit
open Go.Proofs.YtfegdblaohhdoaaDoor.Ms
open Go.Proofs.YtfegdblaohhdoaaDoor.Bk (Bk Sh)
set_option linter.unusedVariables false
set_option maxRecDepth 100000
set_option maxRecDepth 100000

/-- A Sub's cells. -/
def cellsS (x : El) : Array Value := #[.int .i64 x.2, .string x.1]
section
variable {P : Program} {ops : Array Oper} {Q : Exit → Act → World → Prop} {md : Region.Mode} {S : World → Prop}
end
section
variable {ops : Array Oper} {Q : Exit → Act → World → Prop} {md : Region.Mode} {S : World → Prop}
end
end Go.Proofs.YtfegdblaohhdoaaDoor.Sx
