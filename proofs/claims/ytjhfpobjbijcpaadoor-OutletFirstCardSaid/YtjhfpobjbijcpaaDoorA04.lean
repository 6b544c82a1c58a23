/-
  Which Subs may be, their bytes, and which Subs bytes hold: definitions on values alone, and facts on them. No conditions.
  addr's Link, Short and Long, and the document's: each by one function of the bytes. No condition.
  A message with the fields of its kind alone: what the program makes of it.
-/
import Derived.Test.YtjhfpobjbijcpaaDoorA01
import Derived.Test.YtjhfpobjbijcpaaDoorA03
namespace Go.Proofs.YtjhfpobjbijcpaaDoor.S1
open Go.ChangeShapes Go.WideShapes Go.ChangeAt Go.RowKit
open Go.Proofs.YtjhfpobjbijcpaaDoor.Ms (El)
open Go.Proofs.YtjhfpobjbijcpaaDoor.Cnt (bytesN mayB)
open Go.Proofs.YtjhfpobjbijcpaaDoor.F1 (enc1 encT ok1 okT outT placed cut1 encT_nil encT_cons encT_append encT_snoc enc1_len okT_nil okT_append okT_cons out_yes)
set_option linter.unusedVariables false
set_option maxRecDepth 100000
set_option maxRecDepth 100000

/-- Is it kept? -/
def keepB (x : El) : Bool := decide (2 ≤ x.2) && decide (x.2 ≤ 127)
/-- Those that are kept. -/
def keep (l : List El) : List El := l.filter keepB
/-- Need none be known? -/
def knownB (l : List El) : Bool := l.all fun x => decide (x.2 ≤ 127)
/-- May the Subs be? -/
def okS (l : List El) : Bool := mayB l 2 127 && decide (bytesN l ≤ 200)
/-- Their bytes; none. -/
def putS (l : List El) : ByteArray := if okS l then ⟨(encT l).toArray⟩ else ⟨#[]⟩
theorem putS_yes {l : List El} (h : okS l = true) : putS l = ⟨(encT l).toArray⟩ := by unfold putS; rw [if_pos h]
theorem putS_no {l : List El} (h : okS l = false) : putS l = ⟨#[]⟩ := by unfold putS; rw [if_neg (by rw [h]; exact Bool.false_ne_true)]

theorem may_mem {l : List El} {lo hi : Int} (h : mayB l lo hi = true) : ∀ x ∈ l, lo ≤ x.2 ∧ x.2 ≤ hi ∧ x.1.size ≤ 255 := by
  unfold mayB at h
  rw [List.all_eq_true] at h
  intro x hx
  simpa using h x hx
theorem may_of {l : List El} {lo hi : Int} (h : ∀ x ∈ l, lo ≤ x.2 ∧ x.2 ≤ hi ∧ x.1.size ≤ 255) : mayB l lo hi = true := by
  unfold mayB
  rw [List.all_eq_true]
  intro x hx
  simpa using h x hx
theorem okS_may {l : List El} (h : okS l = true) : mayB l 2 127 = true := by unfold okS at h; rw [Bool.and_eq_true] at h; exact h.1
theorem okS_size {l : List El} (h : okS l = true) : bytesN l ≤ 200 := by unfold okS at h; rw [Bool.and_eq_true, decide_eq_true_eq] at h; exact h.2
theorem okS_of {l : List El} (h : mayB l 2 127 = true) (h2 : bytesN l ≤ 200) : okS l = true := by unfold okS; rw [h, decide_eq_true h2]; rfl
theorem bytesN_cons (x : El) (l : List El) : bytesN (x :: l) = 2 + x.1.size + bytesN l := by simp [bytesN]
theorem bytesN_most {l : List El} {lo hi : Int} (h : mayB l lo hi = true) : bytesN l ≤ 257 * l.length := by
  have hm := may_mem h
  clear h
  induction l with
  | nil => exact Nat.le_refl _
  | cons x l ih =>
    have := ih (fun y hy => hm y (by simp [hy]))
    have := (hm x (by simp)).2.2
    rw [bytesN_cons, List.length_cons]; omega
theorem may_take {l : List El} {lo hi : Int} (h : mayB l lo hi = true) (k : Nat) : mayB (l.take k) lo hi = true := may_of fun x hx => may_mem h x (List.mem_of_mem_take hx)
theorem may_okT {l : List El} (h : mayB l 2 127 = true) : okT l := fun x hx => by
  obtain ⟨a, b, c⟩ := may_mem h x hx
  exact ⟨by omega, by omega, c, fun h => by omega⟩
theorem keep_self {l : List El} (h : mayB l 2 127 = true) : keep l = l := List.filter_eq_self.2 fun x hx => by
  obtain ⟨a, b, c⟩ := may_mem h x hx
  unfold keepB
  simp [a, b]
theorem known_self {l : List El} (h : mayB l 2 127 = true) : knownB l = true := List.all_eq_true.2 fun x hx => by
  obtain ⟨a, b, c⟩ := may_mem h x hx
  simpa using b
theorem enc_len {l : List El} (h : mayB l 2 127 = true) : (encT l).length = bytesN l := by
  have hm := may_mem h
  clear h
  induction l with
  | nil => rfl
  | cons x l ih =>
    have h1 := hm x (by simp)
    rw [encT_cons, List.length_append, enc1_len, if_neg (by omega), ih (fun y hy => hm y (by simp [hy])), bytesN_cons]
theorem okS_take {l : List El} (h : okS l = true) (k : Nat) : okS (l.take k) = true :=
  okS_of (may_take (okS_may h) k) (Nat.le_trans (Cnt.bytes_le l k) (okS_size h))
theorem putS_size {l : List El} (h : okS l = true) : (putS l).size = bytesN l := by
  rw [putS_yes h, ← enc_len (okS_may h)]
  exact List.size_toArray ..
theorem putS_le (l : List El) : (putS l).size ≤ 200 := by
  cases h : okS l
  · rw [putS_no h]; exact Nat.zero_le _
  · rw [putS_size h]; exact okS_size h

/-- Those that are kept, whether none must be known, and the error. -/
noncomputable def outS (s : ByteArray) : List El × Bool × Int :=
  if (outT 0 s).2.2 = 0 then (if bytesN (keep ((outT 0 s).1.map Prod.snd)) ≤ 200 then (keep ((outT 0 s).1.map Prod.snd), knownB ((outT 0 s).1.map Prod.snd), 0) else ([], false, 10)) else ([], false, (outT 0 s).2.2)
theorem placed_snd : ∀ (l : List El) (p : Int), (placed p l).map Prod.snd = l
  | [], _ => rfl
  | x :: l, p => by rw [placed, List.map_cons, placed_snd]
theorem outS_of {s : ByteArray} {l : List El} (h : outT 0 s = (placed 0 l, 0, 0)) : outS s = if bytesN (keep l) ≤ 200 then (keep l, knownB l, 0) else ([], false, 10) := by
  unfold outS
  rw [h, placed_snd, if_pos rfl]
theorem outS_yes {s : ByteArray} {l : List El} (ho : okT l) (hs : s.data.toList = encT l) (hb : bytesN (keep l) ≤ 200) : outS s = (keep l, knownB l, 0) := by
  rw [outS_of (out_yes ho hs), if_pos hb]
theorem put_out {l : List El} (h : okS l = true) : outS (putS l) = (l, true, 0) := by
  have hm := okS_may h
  rw [putS_yes h, outS_yes (may_okT hm) rfl (by rw [keep_self hm]; exact okS_size h), keep_self hm, known_self hm]
end Go.Proofs.YtjhfpobjbijcpaaDoor.S1
namespace Go.Proofs.YtjhfpobjbijcpaaDoor.Lk
open Go.ChangeShapes Go.WideShapes Go.ChangeAt Go.RowKit
open Go.Proofs.YtjhfpobjbijcpaaDoor.Nu (text_eq)
set_option linter.unusedVariables false
set_option maxRecDepth 100000
set_option maxRecDepth 100000

def lkH : ByteArray := ⟨#[254, 128, 0, 0, 0, 0, 0, 0]⟩
def lkB (s : ByteArray) : Bool := (s.extract 0 8).toList == [254, 128, 0, 0, 0, 0, 0, 0]
def link (s : ByteArray) : Bool := decide (s.size = 16) && lkB s
theorem link_yes {s : ByteArray} (h : s.size = 16) : link s = lkB s := by unfold link; rw [decide_eq_true h]; rfl
theorem link_no {s : ByteArray} (h : s.size ≠ 16) : link s = false := by unfold link; rw [decide_eq_false h]; rfl
/-- The short form, the long one. -/
def shA (a : ByteArray) : ByteArray := if link a then a.extract 8 a.size else ⟨#[]⟩
def lgA (a : ByteArray) : ByteArray := if a.size = 8 then lkH ++ a else ⟨#[]⟩
theorem link_size {a : ByteArray} (h : link a = true) : a.size = 16 := by unfold link at h; simp at h; exact h.1
theorem link_head {a : ByteArray} (h : link a = true) : a.extract 0 8 = lkH := by
  unfold link lkB at h
  simp only [Bool.and_eq_true, beq_iff_eq] at h
  refine text_eq ?_
  rw [← ByteArray.toList_eq, h.2]
  rfl
theorem sh_yes {a : ByteArray} (h : link a = true) : shA a = a.extract 8 a.size := by unfold shA; rw [if_pos h]
theorem sh_size {a : ByteArray} (h : link a = true) : (shA a).size = 8 := by
  have := link_size h
  rw [sh_yes h]; simp; omega
theorem lg_sh {a : ByteArray} (h : link a = true) : lgA (shA a) = a := by
  unfold lgA
  rw [if_pos (sh_size h), sh_yes h, ← link_head h]
  have := link_size h
  rw [ByteArray.extract_append_extract]
  refine text_eq ?_
  simp
/- What the library's HasPrefix answers of sixteen bytes. -/
theorem lite_any (s : ByteArray) (h : s.size = 16) (w : World) :
    Calls Tryd.prog 93 #[.string s, .string ⟨#[254, 128, 0, 0, 0, 0, 0, 0]⟩] w fun e w' => e = .returned (.bool (lkB s)) ∧ w' = w := by
  unfold lkB
  go_enter Tryd.func93, Tryd.ntmps93
  go_wp2
  go_ret
  exact ⟨rfl, rfl⟩
theorem pre_any (s : ByteArray) (h : s.size = 16) (w : World) :
    Calls Tryd.prog 87 #[.string s, .string ⟨#[254, 128, 0, 0, 0, 0, 0, 0]⟩] w fun e w' => e = .returned (.bool (lkB s)) ∧ w' = w := by
  have P1 := Lib.hid (fun w => lite_any s h w)
  go_enter Tryd.func87, Tryd.ntmps87
  go_wp2_with fail
  refine (P1.out _).mono ?_
  rintro e w' ⟨rfl, rfl⟩
  go_wp2
  go_ret
  exact ⟨rfl, rfl⟩
theorem family_yes (s : ByteArray) (h : s.size = 16) (w : World) :
    Calls Tryd.prog 53 #[.string s] w fun e w' => e = .returned (.int .i64 1) ∧ w' = w := by
  have e0 : ((s.size : Int) == 4) = false := by rw [beq_eq_false_iff_ne]; omega
  have e1 : ((s.size : Int) == 16) = true := by rw [beq_iff_eq]; omega
  clear h
  go_enter Tryd.func53, Tryd.ntmps53
  go_wp2
  go_ret
  exact ⟨rfl, rfl⟩
theorem family_no (s : ByteArray) (h : s.size ≠ 16) (w : World) :
    Calls Tryd.prog 53 #[.string s] w fun e w' => (e = .returned (.int .i64 0) ∨ e = .returned (.int .i64 (-1))) ∧ w' = w := by
  have e1 : ((s.size : Int) == 16) = false := by rw [beq_eq_false_iff_ne]; omega
  by_cases h4 : s.size = 4
  · have e0 : ((s.size : Int) == 4) = true := by rw [beq_iff_eq]; omega
    clear h h4
    go_enter Tryd.func53, Tryd.ntmps53
    go_wp2
    go_ret
    exact ⟨.inl rfl, rfl⟩
  · have e0 : ((s.size : Int) == 4) = false := by rw [beq_eq_false_iff_ne]; omega
    clear h h4
    go_enter Tryd.func53, Tryd.ntmps53
    go_wp2
    go_ret
    exact ⟨.inr rfl, rfl⟩
theorem link_any (s : ByteArray) (w : World) :
    Calls Tryd.prog 72 #[.string s] w fun e w' => e = .returned (.bool (link s)) ∧ w' = w := by
  by_cases h : s.size = 16
  · rw [link_yes h]
    have P1 := Lib.hid (fun w => family_yes s h w)
    have P2 := Lib.hid (fun w => pre_any s h w)
    clear h
    generalize lkB s = x at *
    go_enter Tryd.func72, Tryd.ntmps72
    go_wp2_with fail
    refine (P1.out _).mono ?_
    rintro e w' ⟨rfl, rfl⟩
    go_wp2_with fail
    refine (P2.out _).mono ?_
    rintro e w' ⟨rfl, rfl⟩
    go_wp2
    go_ret
    exact ⟨rfl, rfl⟩
  · rw [link_no h]
    have P1 := Lib.hid (fun w => family_no s h w)
    clear h
    go_enter Tryd.func72, Tryd.ntmps72
    go_wp2_with fail
    refine (P1.out _).mono ?_
    rintro e w' ⟨rfl | rfl, rfl⟩
    all_goals
      go_wp2
      go_ret
      exact ⟨rfl, rfl⟩
theorem short_any (a : ByteArray) (w : World) :
    Calls Tryd.prog 70 #[.string a] w fun e w' => e = .returned (.tuple #[.string (shA a), .bool (link a)]) ∧ w = w' := by
  have P1 := Lib.hid (fun w => link_any a w)
  cases hl : link a with
  | false =>
    have e : shA a = ⟨#[]⟩ := by unfold shA; rw [hl]; rfl
    rw [e]
    rw [hl] at P1
    clear hl e
    go_enter Tryd.func70, Tryd.ntmps70
    go_wp2_with fail
    refine (P1.out _).mono ?_
    rintro e w' ⟨rfl, rfl⟩
    go_wp2
    go_ret2
    exact ⟨rfl, rfl⟩
  | true =>
    have e : shA a = a.extract 8 a.size := sh_yes hl
    have hs : (8 : Int) ≤ (a.size : Int) := by have := link_size hl; omega
    rw [e]
    rw [hl] at P1
    clear hl e
    go_enter Tryd.func70, Tryd.ntmps70
    go_wp2_with fail
    refine (P1.out _).mono ?_
    rintro e w' ⟨rfl, rfl⟩
    go_wp2
    go_ret2
    exact ⟨rfl, rfl⟩
end Go.Proofs.YtjhfpobjbijcpaaDoor.Lk
namespace Go.Proofs.YtjhfpobjbijcpaaDoor.Own
open Go.ChangeShapes Go.WideShapes Go.ChangeAt Go.RowKit
open Go.Proofs.YtjhfpobjbijcpaaDoor.Ms
open Go.Proofs.YtjhfpobjbijcpaaDoor.Box
open Go.Proofs.YtjhfpobjbijcpaaDoor.Same
open Go.Proofs.YtjhfpobjbijcpaaDoor.Or
set_option linter.unusedVariables false
set_option maxRecDepth 100000

def k1 (m : M) : M := { M.zero with cmd := m.cmd, ver := m.ver, auth := m.auth, family := m.family, tag := m.tag, pfx := m.pfx, plen := m.plen, next := m.next, metric := m.metric }
def k2 (m : M) : M := { M.zero with cmd := m.cmd, tag := m.tag, pfx := m.pfx, plen := m.plen, next := m.next, metric := m.metric }
def k3 (m : M) : M := { M.zero with flags := m.flags, hops := m.hops, nonce := m.nonce, addr := m.addr, seq := m.seq, orig := m.orig, seq2 := m.seq2, sa := m.sa, sl := m.sl, sc := m.sc }
def k4 (m : M) : M := { M.zero with flags := m.flags, plen := m.plen, hops := m.hops, addr := m.addr, seq := m.seq, orig := m.orig, interval := m.interval, sa := m.sa, sl := m.sl, sc := m.sc }
def k5 (m : M) : M := { M.zero with flags := m.flags, la := m.la, ll := m.ll, lc := m.lc, sa := m.sa, sl := m.sl, sc := m.sc }
def k6 (m : M) : M := { M.zero with sa := m.sa, sl := m.sl, sc := m.sc }
def k7 (m : M) : M := { M.zero with nonce := m.nonce, interval := m.interval, sa := m.sa, sl := m.sl, sc := m.sc }
def k8 (m : M) : M := { M.zero with nonce := m.nonce, sa := m.sa, sl := m.sl, sc := m.sc }
def k9 (m : M) : M := { M.zero with flags := m.flags, seq := m.seq, interval := m.interval, sa := m.sa, sl := m.sl, sc := m.sc }
def k10 (m : M) : M := { M.zero with ae := m.ae, cost := m.cost, interval := m.interval, addr := m.addr, sa := m.sa, sl := m.sl, sc := m.sc }
def k11 (m : M) : M := { M.zero with ae := m.ae, pfx := m.pfx, plen := m.plen, interval := m.interval, seq := m.seq, metric := m.metric, id := m.id, next := m.next, sa := m.sa, sl := m.sl, sc := m.sc }
def k12 (m : M) : M := { M.zero with ae := m.ae, pfx := m.pfx, plen := m.plen, sa := m.sa, sl := m.sl, sc := m.sc }
def k13 (m : M) : M := { M.zero with ae := m.ae, pfx := m.pfx, plen := m.plen, seq := m.seq, hops := m.hops, id := m.id, sa := m.sa, sl := m.sl, sc := m.sc }
def k14 (m : M) : M := { M.zero with typ := m.typ, data := m.data }
/-- The fields that it has by its kind, without the kind. -/
def fieldsOf (m : M) : M := if m.kind = 1 then k1 m else if m.kind = 2 then k2 m else if m.kind = 3 then k3 m else if m.kind = 4 then k4 m else if m.kind = 5 then k5 m else if m.kind = 6 then k6 m else if m.kind = 7 then k7 m else if m.kind = 8 then k8 m else if m.kind = 9 then k9 m else if m.kind = 10 then k10 m else if m.kind = 11 then k11 m else if m.kind = 12 then k12 m else if m.kind = 13 then k13 m else if m.kind = 14 then k14 m else M.zero
def isKind (m : M) : Bool := decide (1 ≤ m.kind ∧ m.kind ≤ 14)
def ownM (m : M) : M := if isKind m then { fieldsOf m with kind := m.kind } else M.zero

theorem results_pair {fn : Func} {p q : Nat} {ty : TypeId} (h : fn.results = #[.cell p ty, .tmp q]) {P : Program} (tmps : Array Value) (w : World) (g : Nat) (u : Value)
    (hp : tmps.getD p undef = .pointer (some ⟨g, 0, none⟩)) (hl : (loadVar ty ⟨g, 0, none⟩).run P w = .ok u w) (v : Value) (hv : tmps.getD q undef = v) :
    (results fn tmps).run P w = .ok (.tuple #[u, v]) w := by
  have hp' : tmps[p]?.getD undef = .pointer (some ⟨g, 0, none⟩) := by simpa using hp
  have hv' : tmps[q]?.getD undef = v := by simpa using hv
  simp [results, h, hp', hv', asAddr, hl]
theorem loadVarM {w : World} {b : Nat} {m : M} (h : Bx w b m) : (loadVar 34 ⟨b, 0, none⟩).run Tryd.prog w = .ok (.agg m.cells) w :=
  run_loadVar_row w b 34 34 m.cells (0, 0) _ h Tryd.underlying34 rfl infoM

/-- Three variables: the message, and two without anything. -/
theorem start3 (w : World) (m : M) : Bx (((w.alloc (.cells m.cells 34)).alloc (.cells M.zero.cells 34)).alloc (.cells M.zero.cells 34)) w.heap.size m ∧
    Bx (((w.alloc (.cells m.cells 34)).alloc (.cells M.zero.cells 34)).alloc (.cells M.zero.cells 34)) (w.heap.size + 1) M.zero ∧
    Bx (((w.alloc (.cells m.cells 34)).alloc (.cells M.zero.cells 34)).alloc (.cells M.zero.cells 34)) (w.heap.size + 1 + 1) M.zero ∧
    Below w.heap.size w (((w.alloc (.cells m.cells 34)).alloc (.cells M.zero.cells 34)).alloc (.cells M.zero.cells 34)) := by
  refine ⟨((Bx.new w m).old _).old _, ?_, ?_, balloc (balloc (balloc (Below.refl _ _) _) _) _⟩
  · have := (Bx.new (w.alloc (.cells m.cells 34)) M.zero).old (.cells M.zero.cells 34)
    rwa [alloc_size] at this
  · have := Bx.new ((w.alloc (.cells m.cells 34)).alloc (.cells M.zero.cells 34)) M.zero
    rwa [alloc_size, alloc_size] at this

/-- What is asked of a kind: y are its fields. -/
def OwnS (m : M) (w : World) (y : M) : Prop := ∀ x, x = y → Calls Tryd.prog 39 #[.agg m.cells] w fun e w' => e = .returned (.tuple #[.agg (M.cells { x with kind := m.kind }), .bool true]) ∧ Below w.heap.size w w'
/-- The walk of every kind. -/
theorem oB {G : Prop} (h : G := by
  intro x hx
  obtain ⟨b1, b2, b3, bel⟩ := start3 w m
  go_enter Tryd.func39, Tryd.ntmps39
  go_upto_region 2 with fail
  change Code.wp _ _ _ _ (((w.alloc (.cells m.cells 34)).alloc (.cells M.zero.cells 34)).alloc (.cells M.zero.cells 34))
  generalize ((w.alloc (.cells m.cells 34)).alloc (.cells M.zero.cells 34)).alloc (.cells M.zero.cells 34) = V at *
  obtain ⟨c0, c1, c2, c3, c4, c5, c6, c7, c8, c9, c10, c11, c12, c13, c14, c15, c16, c17, c18, c19, c20, c21, c22, c23, c24⟩ := b1.cs
  rw [hk] at c0
  have HK := Lib.hid hk
  have HX := Lib.hid hx
  have B1 := Lib.hid b1
  have B2 := Lib.hid b2
  have B3 := Lib.hid b3
  clear hk b1 b2 b3 hx
  go_upto_region 32 with (first | (refine wpList_built rfl 34 _ rfl (M.cells x) (by rw [HX.out]; kernel_rfl) ?_) | (refine wpList_storeM (b := w.heap.size + 1 + 1) (m' := x) rfl _ _ rfl rfl rfl B3.out ?_))
  clear c0 c1 c2 c3 c4 c5 c6 c7 c8 c9 c10 c11 c12 c13 c14 c15 c16 c17 c18 c19 c20 c21 c22 c23 c24 HX
  have b3 := B3.out.put (m' := x)
  have b2 := B2.out.row (g := w.heap.size + 1 + 1) (by omega) (M.cells x)
  have b1 := B1.out.row (g := w.heap.size + 1 + 1) (by omega) (M.cells x)
  have bel := below_setRow bel (g := w.heap.size + 1 + 1) (by omega) (M.cells x)
  clear B1 B2 B3
  generalize V.setRow (w.heap.size + 1 + 1) (M.cells x) = V1 at *
  have c0 := b1.cs.c0
  have d0 := b3.cs.c0
  have f0 := b3.frozen 0
  have B2 := Lib.hid b2
  have B3 := Lib.hid b3
  clear b1 b2 b3
  go_upto_region 33 with fail
  have b3 := B3.out.set (i := 0) (v := .int .i64 m.kind) (m' := { x with kind := m.kind }) rfl
  have b2 := B2.out.off (p := ⟨w.heap.size + 1 + 1, 0, none⟩) (by simp) (.int .i64 m.kind)
  have bel := bel.setCell (p := ⟨w.heap.size + 1 + 1, 0, none⟩) (by simp; omega) (.int .i64 m.kind)
  clear B2 B3 c0 d0 f0
  generalize V1.setCell ⟨w.heap.size + 1 + 1, 0, none⟩ (.int .i64 m.kind) = V2 at *
  have B2 := Lib.hid b2
  have B3 := Lib.hid b3
  clear b2 b3
  go_wp2_with (first | (refine wpList_loadM (b := w.heap.size + 1 + 1) (m := { x with kind := m.kind }) rfl _ rfl rfl B3.out ?_) | (refine wpList_storeM (b := w.heap.size + 1) (m' := { x with kind := m.kind }) rfl _ _ rfl rfl rfl B2.out ?_))
  exact bodyPost_ret (v := .tuple #[.agg (M.cells { x with kind := m.kind }), .bool true]) (results_pair (p := 2) (q := 3) (ty := 34) rfl _ _ (w.heap.size + 1) _ rfl (loadVarM (B2.out.put (m' := { x with kind := m.kind }))) (.bool true) rfl) rfl ⟨rfl, below_setRow bel (by omega) _⟩) : G := h
end Go.Proofs.YtjhfpobjbijcpaaDoor.Own
