/-
  A message with the fields of its kind alone: what the program makes of it.
  TLVs whose fields stand alone: which messages may be, their bytes, and which message a TLV says: definitions on values alone, and facts on them. No conditions.
-/
import Derived.Test.YtjhfpobjbijcpaaGreatDoorE05
import Derived.Test.YtjhfpobjbijcpaaGreatDoorE06
namespace Go.Proofs.YtjhfpobjbijcpaaGreatDoor.Own
open Go.ChangeShapes Go.WideShapes Go.ChangeAt Go.RowKit
open Go.Proofs.YtjhfpobjbijcpaaGreatDoor.Ms
open Go.Proofs.YtjhfpobjbijcpaaGreatDoor.Box
open Go.Proofs.YtjhfpobjbijcpaaGreatDoor.Same
open Go.Proofs.YtjhfpobjbijcpaaGreatDoor.Or
set_option linter.unusedVariables false
set_option maxRecDepth 100000

def k1 (m : M) : M := { M.zero with cmd := m.cmd, ver := m.ver, auth := m.auth, family := m.family, tag := m.tag, pfx := m.pfx, plen := m.plen, next := m.next, metric := m.metric }
def k2 (m : M) : M := { M.zero with cmd := m.cmd, tag := m.tag, pfx := m.pfx, plen := m.plen, next := m.next, metric := m.metric }
def k3 (m : M) : M := { M.zero with flags := m.flags, hops := m.hops, nonce := m.nonce, addr := m.addr, seq := m.seq, orig := m.orig, seq2 := m.seq2, sa := m.sa, sl := m.sl, sc := m.sc }
def k4 (m : M) : M := { M.zero with flags := m.flags, plen := m.plen, hops := m.hops, addr := m.addr, seq := m.seq, orig := m.orig, interval := m.interval, sa := m.sa, sl := m.sl, sc := m.sc }
def k5 (m : M) : M := { M.zero with flags := m.flags, la := m.la, ll := m.ll, lc := m.lc, sa := m.sa, sl := m.sl, sc := m.sc }
def k6 (m : M) : M := { M.zero with sa := m.sa, sl := m.sl, sc := m.sc }
def k7 (m : M) : M := { M.zero with nonce := m.nonce, interval := m.interval, sa := m.sa, sl := m.sl, sc := m.sc }
def k8 (m : M) : M := { M.zero with nonce := m.nonce, sa := m.sa, sl := m.sl, sc := m.sc }
def k9 (m : M) : M := { M.zero with flags := m.flags, seq := m.seq, interval := m.interval, sa := m.sa, sl := m.sl, sc := m.sc }
def k10 (m : M) : M := { M.zero with ae := m.ae, cost := m.cost, interval := m.interval, addr := m.addr, sa := m.sa, sl := m.sl, sc := m.sc }
def k11 (m : M) : M := { M.zero with ae := m.ae, pfx := m.pfx, plen := m.plen, interval := m.interval, seq := m.seq, metric := m.metric, id := m.id, next := m.next, sa := m.sa, sl := m.sl, sc := m.sc }
def k12 (m : M) : M := { M.zero with ae := m.ae, pfx := m.pfx, plen := m.plen, sa := m.sa, sl := m.sl, sc := m.sc }
def k13 (m : M) : M := { M.zero with ae := m.ae, pfx := m.pfx, plen := m.plen, seq := m.seq, hops := m.hops, id := m.id, sa := m.sa, sl := m.sl, sc := m.sc }
def k14 (m : M) : M := { M.zero with typ := m.typ, data := m.data }
/-- The fields that it has by its kind, without the kind. -/
def fieldsOf (m : M) : M := if m.kind = 1 then k1 m else if m.kind = 2 then k2 m else if m.kind = 3 then k3 m else if m.kind = 4 then k4 m else if m.kind = 5 then k5 m else if m.kind = 6 then k6 m else if m.kind = 7 then k7 m else if m.kind = 8 then k8 m else if m.kind = 9 then k9 m else if m.kind = 10 then k10 m else if m.kind = 11 then k11 m else if m.kind = 12 then k12 m else if m.kind = 13 then k13 m else if m.kind = 14 then k14 m else M.zero
def isKind (m : M) : Bool := decide (1 ≤ m.kind ∧ m.kind ≤ 14)
def ownM (m : M) : M := if isKind m then { fieldsOf m with kind := m.kind } else M.zero

theorem results_pair {fn : Func} {p q : Nat} {ty : TypeId} (h : fn.results = #[.cell p ty, .tmp q]) {P : Program} (tmps : Array Value) (w : World) (g : Nat) (u : Value)
    (hp : tmps.getD p undef = .pointer (some ⟨g, 0, none⟩)) (hl : (loadVar ty ⟨g, 0, none⟩).run P w = .ok u w) (v : Value) (hv : tmps.getD q undef = v) :
    (results fn tmps).run P w = .ok (.tuple #[u, v]) w := by
  have hp' : tmps[p]?.getD undef = .pointer (some ⟨g, 0, none⟩) := by simpa using hp
  have hv' : tmps[q]?.getD undef = v := by simpa using hv
  simp [results, h, hp', hv', asAddr, hl]
theorem loadVarM {w : World} {b : Nat} {m : M} (h : Bx w b m) : (loadVar 38 ⟨b, 0, none⟩).run Tryz.prog w = .ok (.agg m.cells) w :=
  run_loadVar_row w b 38 38 m.cells (0, 0) _ h Tryz.underlying38 rfl infoM

/-- Three variables: the message, and two without anything. -/
theorem start3 (w : World) (m : M) : Bx (((w.alloc (.cells m.cells 38)).alloc (.cells M.zero.cells 38)).alloc (.cells M.zero.cells 38)) w.heap.size m ∧
    Bx (((w.alloc (.cells m.cells 38)).alloc (.cells M.zero.cells 38)).alloc (.cells M.zero.cells 38)) (w.heap.size + 1) M.zero ∧
    Bx (((w.alloc (.cells m.cells 38)).alloc (.cells M.zero.cells 38)).alloc (.cells M.zero.cells 38)) (w.heap.size + 1 + 1) M.zero ∧
    Below w.heap.size w (((w.alloc (.cells m.cells 38)).alloc (.cells M.zero.cells 38)).alloc (.cells M.zero.cells 38)) := by
  refine ⟨((Bx.new w m).old _).old _, ?_, ?_, balloc (balloc (balloc (Below.refl _ _) _) _) _⟩
  · have := (Bx.new (w.alloc (.cells m.cells 38)) M.zero).old (.cells M.zero.cells 38)
    rwa [alloc_size] at this
  · have := Bx.new ((w.alloc (.cells m.cells 38)).alloc (.cells M.zero.cells 38)) M.zero
    rwa [alloc_size, alloc_size] at this

/-- What is asked of a kind: y are its fields. -/
def OwnS (m : M) (w : World) (y : M) : Prop := ∀ x, x = y → Calls Tryz.prog 103 #[.agg m.cells] w fun e w' => e = .returned (.tuple #[.agg (M.cells { x with kind := m.kind }), .bool true]) ∧ Below w.heap.size w w'
/-- The walk of every kind. -/
theorem oB {G : Prop} (h : G := by
  intro x hx
  obtain ⟨b1, b2, b3, bel⟩ := start3 w m
  go_enter Tryz.func103, Tryz.ntmps103
  go_upto_region 2 with fail
  change Code.wp _ _ _ _ (((w.alloc (.cells m.cells 38)).alloc (.cells M.zero.cells 38)).alloc (.cells M.zero.cells 38))
  generalize ((w.alloc (.cells m.cells 38)).alloc (.cells M.zero.cells 38)).alloc (.cells M.zero.cells 38) = V at *
  obtain ⟨c0, c1, c2, c3, c4, c5, c6, c7, c8, c9, c10, c11, c12, c13, c14, c15, c16, c17, c18, c19, c20, c21, c22, c23, c24⟩ := b1.cs
  rw [hk] at c0
  have HK := Lib.hid hk
  have HX := Lib.hid hx
  have B1 := Lib.hid b1
  have B2 := Lib.hid b2
  have B3 := Lib.hid b3
  clear hk b1 b2 b3 hx
  go_upto_region 32 with (first | (refine wpList_built rfl 38 _ rfl (M.cells x) (by rw [HX.out]; kernel_rfl) ?_) | (refine wpList_storeM (b := w.heap.size + 1 + 1) (m' := x) rfl _ _ rfl rfl rfl B3.out ?_))
  clear c0 c1 c2 c3 c4 c5 c6 c7 c8 c9 c10 c11 c12 c13 c14 c15 c16 c17 c18 c19 c20 c21 c22 c23 c24 HX
  have b3 := B3.out.put (m' := x)
  have b2 := B2.out.row (g := w.heap.size + 1 + 1) (by omega) (M.cells x)
  have b1 := B1.out.row (g := w.heap.size + 1 + 1) (by omega) (M.cells x)
  have bel := below_setRow bel (g := w.heap.size + 1 + 1) (by omega) (M.cells x)
  clear B1 B2 B3
  generalize V.setRow (w.heap.size + 1 + 1) (M.cells x) = V1 at *
  have c0 := b1.cs.c0
  have d0 := b3.cs.c0
  have f0 := b3.frozen 0
  have B2 := Lib.hid b2
  have B3 := Lib.hid b3
  clear b1 b2 b3
  go_upto_region 33 with fail
  have b3 := B3.out.set (i := 0) (v := .int .i64 m.kind) (m' := { x with kind := m.kind }) rfl
  have b2 := B2.out.off (p := ⟨w.heap.size + 1 + 1, 0, none⟩) (by simp) (.int .i64 m.kind)
  have bel := bel.setCell (p := ⟨w.heap.size + 1 + 1, 0, none⟩) (by simp; omega) (.int .i64 m.kind)
  clear B2 B3 c0 d0 f0
  generalize V1.setCell ⟨w.heap.size + 1 + 1, 0, none⟩ (.int .i64 m.kind) = V2 at *
  have B2 := Lib.hid b2
  have B3 := Lib.hid b3
  clear b2 b3
  go_wp2_with (first | (refine wpList_loadM (b := w.heap.size + 1 + 1) (m := { x with kind := m.kind }) rfl _ rfl rfl B3.out ?_) | (refine wpList_storeM (b := w.heap.size + 1) (m' := { x with kind := m.kind }) rfl _ _ rfl rfl rfl B2.out ?_))
  exact bodyPost_ret (v := .tuple #[.agg (M.cells { x with kind := m.kind }), .bool true]) (results_pair (p := 2) (q := 3) (ty := 38) rfl _ _ (w.heap.size + 1) _ rfl (loadVarM (B2.out.put (m' := { x with kind := m.kind }))) (.bool true) rfl) rfl ⟨rfl, below_setRow bel (by omega) _⟩) : G := h
end Go.Proofs.YtjhfpobjbijcpaaGreatDoor.Own
namespace Go.Proofs.YtjhfpobjbijcpaaGreatDoor.G1
open Go.ChangeShapes Go.WideShapes Go.ChangeAt Go.RowKit
open Go.Proofs.YtjhfpobjbijcpaaGreatDoor.Ms
open Go.Proofs.YtjhfpobjbijcpaaGreatDoor.S1
open Go.Proofs.YtjhfpobjbijcpaaGreatDoor.Lk
open Go.Proofs.YtjhfpobjbijcpaaGreatDoor.Nu
open Go.Proofs.YtjhfpobjbijcpaaGreatDoor.Cur (numL)
open Go.Proofs.YtjhfpobjbijcpaaGreatDoor.Oct (fitsB)
open Go.Proofs.YtjhfpobjbijcpaaGreatDoor.Own (k7 k8 k9 k10 ownM isKind fieldsOf)
open Go.Proofs.YtjhfpobjbijcpaaGreatDoor.F1 (bt bt_nn bt_lt num_two putB putO okT encT enc1 ok1 outT placed)
set_option linter.unusedVariables false
set_option maxRecDepth 100000
set_option maxRecDepth 100000

/-- Is it bare? -/
def bare (m : M) : Bool := isKind m && M.same m (ownM m)
theorem is_7 {m : M} (h : m.kind = 7) : isKind m = true ∧ ownM m = { k7 m with kind := m.kind } := by
  have hi : isKind m = true := by simp [isKind, h]
  exact ⟨hi, by simp [ownM, hi, fieldsOf, h]⟩
theorem is_8 {m : M} (h : m.kind = 8) : isKind m = true ∧ ownM m = { k8 m with kind := m.kind } := by
  have hi : isKind m = true := by simp [isKind, h]
  exact ⟨hi, by simp [ownM, hi, fieldsOf, h]⟩
theorem is_9 {m : M} (h : m.kind = 9) : isKind m = true ∧ ownM m = { k9 m with kind := m.kind } := by
  have hi : isKind m = true := by simp [isKind, h]
  exact ⟨hi, by simp [ownM, hi, fieldsOf, h]⟩
theorem is_10 {m : M} (h : m.kind = 10) : isKind m = true ∧ ownM m = { k10 m with kind := m.kind } := by
  have hi : isKind m = true := by simp [isKind, h]
  exact ⟨hi, by simp [ownM, hi, fieldsOf, h]⟩
/-- Is there room for each of its numbers? -/
def nums (m : M) : Bool := fitsB m.nonce 2 && (fitsB m.interval 2 && (fitsB m.seq 2 && fitsB m.cost 2))
/-- How many bytes an address has, by its encoding. -/
def sizeA (ae : Int) : Nat := if ae = 1 then 4 else if ae = 2 then 16 else if ae = 3 then 8 else 0
/-- May an address be, in an encoding? -/
def shB (ae : Int) (a : ByteArray) : Bool := if ae = 3 then link a else decide (0 ≤ ae ∧ ae ≤ 3) && decide (a.size = sizeA ae)
/-- What stands of it; and what stands so. -/
def shT (ae : Int) (a : ByteArray) : ByteArray := if ae = 3 then shA a else if shB ae a then a else ⟨#[]⟩
def lgT (ae : Int) (s : ByteArray) : ByteArray := if ae = 3 then lgA s else s
/-- What a kind has for itself. -/
def kindB (m : M) : Bool := if m.kind = 7 ∨ m.kind = 8 then true else if m.kind = 9 then decide (0 ≤ m.flags ∧ m.flags ≤ 1) else if m.kind = 10 then shB m.ae m.addr else false
/-- May it be? -/
def okF (m : M) : Bool := bare m && (okS m.sl && (nums m && kindB m))
def typF (m : M) : Int := if m.kind = 7 then 2 else if m.kind = 8 then 3 else if m.kind = 9 then 4 else 5
/-- The fields of each kind. -/
def fld7 (m : M) : List UInt8 := 0 :: 0 :: (layN m.nonce 2 ++ layN m.interval 2)
def fld9 (m : M) : List UInt8 := layN (m.flags * 32768) 2 ++ (layN m.seq 2 ++ layN m.interval 2)
def fld10 (m : M) : List UInt8 := layN m.ae 1 ++ (0 :: (layN m.cost 2 ++ (layN m.interval 2 ++ (shT m.ae m.addr).data.toList)))
def fldF (m : M) : List UInt8 := if m.kind = 7 then fld7 m else if m.kind = 8 then layN m.nonce 2 else if m.kind = 9 then fld9 m else fld10 m
/-- A TLV's data; its bytes. -/
def datF (m : M) : ByteArray := ⟨(fldF m ++ (putS m.sl).data.toList).toArray⟩
def putF (m : M) : ByteArray := if okF m then putO (typF m) (datF m) else ⟨#[]⟩
theorem putF_yes {m : M} (h : okF m = true) : putF m = putO (typF m) (datF m) := by unfold putF; rw [if_pos h]
theorem putF_no {m : M} (h : okF m = false) : putF m = ⟨#[]⟩ := by unfold putF; rw [if_neg (by rw [h]; exact Bool.false_ne_true)]

/-- The number of two bytes. -/
def num2 (d : ByteArray) (a : Nat) : Int := ((numL ((d.data.toList.drop a).take 2) : Nat) : Int)
/-- What the fields of each type say. -/
def hd2 (d : ByteArray) : M := { M.zero with kind := 7, nonce := num2 d 2, interval := num2 d 4 }
def hd3 (d : ByteArray) : M := { M.zero with kind := 8, nonce := num2 d 0 }
def hd4 (d : ByteArray) : M := { M.zero with kind := 9, flags := bt d 0 / 128, seq := num2 d 2, interval := num2 d 4 }
def hd5 (d : ByteArray) : M := { M.zero with kind := 10, ae := bt d 0, cost := num2 d 2, interval := num2 d 4, addr := lgT (bt d 0) (d.extract 6 (6 + sizeA (bt d 0))) }
def hdF (t : Int) (d : ByteArray) : M := if t = 2 then hd2 d else if t = 3 then hd3 d else if t = 4 then hd4 d else hd5 d
/-- How many bytes the fields have. -/
def szF (t : Int) (d : ByteArray) : Nat := if t = 3 then 2 else if t = 5 then 6 + sizeA (bt d 0) else 6
/-- Is it an Ihu of an encoding that there isn't? -/
def noF (t : Int) (d : ByteArray) : Prop := t = 5 ∧ 3 < bt d 0
/-- The message that a TLV says, whether it counts, the error. -/
noncomputable def outF (t : Int) (d : ByteArray) : M × Bool × Int :=
  open Classical in
  if d.size < szF t d then (M.zero, false, 2) else if noF t d then (M.zero, false, 0)
  else if (outS (d.extract (szF t d) d.size)).2.2 = 0 ∧ (outS (d.extract (szF t d) d.size)).2.1 = true then ({ hdF t d with sl := (outS (d.extract (szF t d) d.size)).1 }, true, 0)
  else (M.zero, false, (outS (d.extract (szF t d) d.size)).2.2)
theorem out_yes {t : Int} {d : ByteArray} {l : List El} (h : ¬ d.size < szF t d) (k : ¬ noF t d) (o : outS (d.extract (szF t d) d.size) = (l, true, 0)) : outF t d = ({ hdF t d with sl := l }, true, 0) := by
  unfold outF; rw [if_neg h, if_neg k, o, if_pos ⟨rfl, rfl⟩]
theorem size_list (a : ByteArray) : a.data.toList.length = a.size := by simp

theorem sizeA_le (ae : Int) : sizeA ae ≤ 16 := by unfold sizeA; split <;> (try split) <;> (try split) <;> omega
theorem sh_3 (a : ByteArray) : shB 3 a = link a ∧ shT 3 a = shA a := ⟨rfl, rfl⟩
theorem sh_n {ae : Int} (h : ¬ ae = 3) (a : ByteArray) : shB ae a = (decide (0 ≤ ae ∧ ae ≤ 3) && decide (a.size = sizeA ae)) ∧ shT ae a = if shB ae a then a else ⟨#[]⟩ := by
  unfold shT shB; rw [if_neg h, if_neg h]; exact ⟨rfl, rfl⟩
theorem sh_facts {ae : Int} {a : ByteArray} (h : shB ae a = true) : 0 ≤ ae ∧ ae ≤ 3 ∧ (shT ae a).size = sizeA ae ∧ lgT ae (shT ae a) = a := by
  by_cases h3 : ae = 3
  · subst h3
    exact ⟨by decide, by decide, sh_size h, lg_sh h⟩
  · have e := h
    rw [(sh_n h3 a).1] at e
    simp only [Bool.and_eq_true, decide_eq_true_eq] at e
    have e2 : shT ae a = a := by rw [(sh_n h3 a).2, if_pos h]
    exact ⟨e.1.1, e.1.2, by rw [e2]; exact e.2, by rw [e2]; unfold lgT; rw [if_neg h3]⟩
structure Ok (m : M) : Prop where
  bare : bare m = true
  subs : okS m.sl = true
  nonce : fitsB m.nonce 2 = true
  interval : fitsB m.interval 2 = true
  seq : fitsB m.seq 2 = true
  cost : fitsB m.cost 2 = true
  kind : kindB m = true
theorem ok_iff (m : M) : okF m = true ↔ Ok m := by
  unfold okF nums
  simp only [Bool.and_eq_true]
  exact ⟨fun ⟨a, b, ⟨c, d, e, f⟩, g⟩ => ⟨a, b, c, d, e, f, g⟩, fun ⟨a, b, c, d, e, f, g⟩ => ⟨a, b, ⟨c, d, e, f⟩, g⟩⟩
theorem kind_cases {m : M} (h : kindB m = true) : m.kind = 7 ∨ m.kind = 8 ∨ (m.kind = 9 ∧ 0 ≤ m.flags ∧ m.flags ≤ 1) ∨ (m.kind = 10 ∧ shB m.ae m.addr = true) := by
  unfold kindB at h
  split at h
  · rename_i h1
    rcases h1 with h1 | h1
    · exact .inl h1
    · exact .inr (.inl h1)
  split at h
  · rename_i h1 h2
    exact .inr (.inr (.inl ⟨h2, by simpa using h⟩))
  split at h
  · rename_i h1 h2 h3
    exact .inr (.inr (.inr ⟨h3, h⟩))
  · cases h
theorem fits2 {n : Int} (h0 : 0 ≤ n) (h1 : n < 65536) : fitsB n 2 = true := (Oct.fitsB_iff n 2).2 ⟨by omega, by omega, h0, by simpa [Oct.pw] using h1⟩
theorem fits1 {n : Int} (h0 : 0 ≤ n) (h1 : n < 256) : fitsB n 1 = true := (Oct.fitsB_iff n 1).2 ⟨by omega, by omega, h0, by simpa [Oct.pw] using h1⟩
theorem flags_fit {n : Int} (h0 : 0 ≤ n) (h1 : n ≤ 1) : fitsB (n * 32768) 2 = true := fits2 (by omega) (by omega)

theorem f_7 {m : M} (h : m.kind = 7) : typF m = 2 ∧ fldF m = fld7 m := by unfold typF fldF; rw [if_pos h, if_pos h]; exact ⟨rfl, rfl⟩
theorem f_8 {m : M} (h : m.kind = 8) : typF m = 3 ∧ fldF m = layN m.nonce 2 := by
  unfold typF fldF; rw [if_neg (by omega), if_pos h, if_neg (by omega), if_pos h]; exact ⟨rfl, rfl⟩
theorem f_9 {m : M} (h : m.kind = 9) : typF m = 4 ∧ fldF m = fld9 m := by
  unfold typF fldF; rw [if_neg (by omega), if_neg (by omega), if_pos h, if_neg (by omega), if_neg (by omega), if_pos h]; exact ⟨rfl, rfl⟩
theorem f_10 {m : M} (h : m.kind = 10) : typF m = 5 ∧ fldF m = fld10 m := by
  unfold typF fldF; rw [if_neg (by omega), if_neg (by omega), if_neg (by omega), if_neg (by omega), if_neg (by omega), if_neg (by omega)]; exact ⟨rfl, rfl⟩
theorem fld_len {m : M} (h : okF m = true) : (fldF m).length ≤ 22 ∧ 2 ≤ typF m ∧ typF m ≤ 5 := by
  obtain ⟨_, _, n1, n2, n3, n4, hk⟩ := (ok_iff m).1 h
  rcases kind_cases hk with k | k | ⟨k, f0, f1⟩ | ⟨k, ha⟩
  · rw [(f_7 k).1, (f_7 k).2]; unfold fld7; simp [lay_len n1, lay_len n2]
  · rw [(f_8 k).1, (f_8 k).2]; simp [lay_len n1]
  · rw [(f_9 k).1, (f_9 k).2]; unfold fld9; simp [lay_len (flags_fit f0 f1), lay_len n2, lay_len n3]
  · obtain ⟨a0, a1, a2, _⟩ := sh_facts ha
    have := sizeA_le m.ae
    rw [(f_10 k).1, (f_10 k).2]; unfold fld10
    simp [lay_len n2, lay_len n4, lay_len (fits1 (n := m.ae) a0 (by omega)), a2]
    omega
theorem dat_size (m : M) : (datF m).size = (fldF m).length + (putS m.sl).size := by
  show (fldF m ++ (putS m.sl).data.toList).toArray.size = _
  simp
theorem dat_le {m : M} (h : okF m = true) : (datF m).size ≤ 222 := by
  have := (fld_len h).1
  have := putS_le m.sl
  rw [dat_size]; omega
theorem putB_yes {m : M} (h : okF m = true) : putB (typF m) (datF m) = true := by
  have := fld_len h
  have := dat_le h
  unfold putB
  simp
  omega
theorem putF_ok {m : M} (h : okF m = true) : (putF m).data.toList = enc1 (datF m, typF m) ∧ ok1 (datF m, typF m) := by
  have h1 := fld_len h
  have h2 := dat_le h
  have ho : ok1 (datF m, typF m) := ⟨by show 0 ≤ typF m; omega, by show typF m ≤ 255; omega, by show (datF m).size ≤ 255; omega, fun e => by have : typF m = 0 := e; omega⟩
  refine ⟨?_, ho⟩
  rw [putF_yes h, (F1.put_ok ho (by show ¬ typF m = 0; omega)).2]
theorem cut7 (c0 c1 : UInt8) (x1 x2 r : List UInt8) (h1 : x1.length = 2) (h2 : x2.length = 2) :
    ((c0 :: c1 :: (x1 ++ (x2 ++ r))).drop 2).take 2 = x1 ∧ ((c0 :: c1 :: (x1 ++ (x2 ++ r))).drop 4).take 2 = x2 ∧ (c0 :: c1 :: (x1 ++ (x2 ++ r))).drop 6 = r ∧ (c0 :: c1 :: (x1 ++ (x2 ++ r))).length = 6 + r.length := by
  match x1, h1, x2, h2 with
  | [_, _], _, [_, _], _ => exact ⟨rfl, rfl, rfl, by simp; omega⟩
theorem cut8 (x1 r : List UInt8) (h1 : x1.length = 2) : (x1 ++ r).take 2 = x1 ∧ (x1 ++ r).drop 2 = r := by
  match x1, h1 with
  | [_, _], _ => exact ⟨rfl, rfl⟩
theorem cut9 (x0 x1 x2 r : List UInt8) (h0 : x0.length = 2) (h1 : x1.length = 2) (h2 : x2.length = 2) :
    (x0 ++ (x1 ++ (x2 ++ r))).take 2 = x0 ∧ ((x0 ++ (x1 ++ (x2 ++ r))).drop 2).take 2 = x1 ∧ ((x0 ++ (x1 ++ (x2 ++ r))).drop 4).take 2 = x2 ∧ (x0 ++ (x1 ++ (x2 ++ r))).drop 6 = r := by
  match x0, h0, x1, h1, x2, h2 with
  | [_, _], _, [_, _], _, [_, _], _ => exact ⟨rfl, rfl, rfl, rfl⟩
theorem num2_of {d : ByteArray} {a : Nat} {v : Int} (h : (d.data.toList.drop a).take 2 = layN v 2) (hf : fitsB v 2 = true) : num2 d a = v := by unfold num2; rw [h]; exact lay_num hf
theorem ext_to (d : ByteArray) (a : Nat) : (d.extract a d.size).data.toList = d.data.toList.drop a := by
  rw [ext_list, List.take_of_length_le (by rw [List.length_drop, size_list]; exact Nat.le_refl _)]
/-- A message that may be is that of its TLV. -/
theorem put_back {m : M} (h : okF m = true) : outF (typF m) (datF m) = ({ ownM m with sa := none, sc := 0 }, true, 0) := by
  obtain ⟨_, hx, n1, n2, n3, n4, hk⟩ := (ok_iff m).1 h
  have hl : (datF m).data.toList = fldF m ++ (putS m.sl).data.toList := rfl
  generalize datF m = d at *
  have tail : ∀ z, d.data.toList.drop z = (putS m.sl).data.toList → outS (d.extract z d.size) = (m.sl, true, 0) := fun z hz => by
    rw [show d.extract z d.size = putS m.sl from text_eq (by rw [ext_to, hz])]
    exact put_out hx
  rcases kind_cases hk with k | k | ⟨k, f0, f1⟩ | ⟨k, ha⟩
  · rw [(f_7 k).2] at hl
    rw [(f_7 k).1, (is_7 k).2]
    have e : d.data.toList = 0 :: 0 :: (layN m.nonce 2 ++ (layN m.interval 2 ++ (putS m.sl).data.toList)) := by rw [hl]; simp [fld7]
    obtain ⟨q1, q2, q3, q4⟩ := cut7 0 0 _ _ (putS m.sl).data.toList (lay_len n1) (lay_len n2)
    rw [← e] at q1 q2 q3 q4
    rw [out_yes (t := 2) (by show ¬ d.size < 6; rw [← size_list, q4]; omega) (fun x => by have := x.1; omega) (tail 6 q3)]
    rw [show hdF 2 d = hd2 d from rfl]
    unfold hd2
    rw [num2_of q1 n1, num2_of q2 n2, k]
    rfl
  · rw [(f_8 k).2] at hl
    rw [(f_8 k).1, (is_8 k).2]
    obtain ⟨q1, q2⟩ := cut8 _ (putS m.sl).data.toList (lay_len n1)
    have hz : 2 ≤ d.size := by rw [← size_list, hl, List.length_append, lay_len (k := 2) n1]; omega
    rw [← hl] at q1 q2
    rw [out_yes (t := 3) (by show ¬ d.size < 2; omega) (fun x => by have := x.1; omega) (tail 2 q2)]
    rw [show hdF 3 d = hd3 d from rfl]
    unfold hd3
    rw [num2_of (a := 0) q1 n1, k]
    rfl
  · rw [(f_9 k).2] at hl
    rw [(f_9 k).1, (is_9 k).2]
    have hff := flags_fit f0 f1
    have e : d.data.toList = layN (m.flags * 32768) 2 ++ (layN m.seq 2 ++ (layN m.interval 2 ++ (putS m.sl).data.toList)) := by rw [hl]; simp [fld9]
    have hz : 6 ≤ d.size := by rw [← size_list, e]; simp only [List.length_append, lay_len hff, lay_len n2, lay_len n3]; omega
    obtain ⟨q0, q1, q2, q3⟩ := cut9 _ _ _ (putS m.sl).data.toList (lay_len hff) (lay_len n3) (lay_len n2)
    rw [← e] at q0 q1 q2 q3
    rw [out_yes (t := 4) (by show ¬ d.size < 6; omega) (fun x => by have := x.1; omega) (tail 6 q3)]
    rw [show hdF 4 d = hd4 d from rfl]
    have hb : bt d 0 / 128 = m.flags := by
      have e1 : 256 * bt d 0 + bt d 1 = m.flags * 32768 := (num_two d 0 (by omega)).symm.trans (num2_of (a := 0) q0 hff)
      have := bt_nn d 1
      have := bt_lt d 1
      omega
    unfold hd4
    rw [hb, num2_of q1 n3, num2_of q2 n2, k]
    rfl
  · rw [(f_10 k).2] at hl
    rw [(f_10 k).1, (is_10 k).2]
    obtain ⟨a0, a1, a2, a3⟩ := sh_facts ha
    have hf := fits1 (n := m.ae) a0 (by omega)
    obtain ⟨c, hc⟩ : ∃ c, layN m.ae 1 = [c] := by
      have := lay_len hf
      match layN m.ae 1, this with
      | [c], _ => exact ⟨c, rfl⟩
    have e : d.data.toList = c :: 0 :: (layN m.cost 2 ++ (layN m.interval 2 ++ ((shT m.ae m.addr).data.toList ++ (putS m.sl).data.toList))) := by rw [hl]; simp [fld10, hc]
    obtain ⟨q1, q2, q3, q4⟩ := cut7 c 0 _ _ ((shT m.ae m.addr).data.toList ++ (putS m.sl).data.toList) (lay_len n4) (lay_len n2)
    rw [← e] at q1 q2 q3 q4
    have hb : bt d 0 = m.ae := by
      have e1 := lay_num hf
      rw [hc] at e1
      unfold bt
      rw [e]
      show (c.toNat : Int) = _
      rw [← e1]
      simp [numL]
    have hz : d.size = 6 + (sizeA m.ae + (putS m.sl).size) := by rw [← size_list, q4, List.length_append, size_list, size_list, a2]
    have e6 : d.data.toList.drop (6 + sizeA m.ae) = (putS m.sl).data.toList := by
      rw [← List.drop_drop, q3, ← a2, ← size_list]
      exact List.drop_left ..
    have ea : d.extract 6 (6 + sizeA m.ae) = shT m.ae m.addr := text_eq (by
      rw [ext_list, Nat.add_sub_cancel_left, q3, ← a2, ← size_list]
      exact List.take_left ..)
    have hs : szF 5 d = 6 + sizeA m.ae := by show 6 + sizeA (bt d 0) = _; rw [hb]
    rw [out_yes (t := 5) (l := m.sl) (by rw [hs]; omega) (fun x => by have := x.2; omega) (by rw [hs]; exact tail _ e6)]
    rw [show hdF 5 d = hd5 d from rfl]
    unfold hd5
    rw [hb, ea, a3, num2_of q1 n4, num2_of q2 n2, k]
    rfl
end Go.Proofs.YtjhfpobjbijcpaaGreatDoor.G1
