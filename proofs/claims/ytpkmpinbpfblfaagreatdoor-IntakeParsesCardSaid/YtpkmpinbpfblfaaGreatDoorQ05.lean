/-
  What the rows' condition gives the walks: from which length to which prefixes are, and how many bytes of an address stand, by its encoding, as the two listed variables have it when the call begins; that they have the same as long as nothing that was there is changed. Generic: the variables' numbers are marks.
  A cursor at work, whatever it is; the head of a datagram: the program's readHead, Body, Trailer, Wrap, and the document's. Condition: at most 2^20 bytes.
  Whether a prefix is one in an encoding, whether a message may be, a prefix's bytes and the prefix of bytes: the program's answers and the document's. Conditions: the message's lists stand in the world, and aren't long; the variable has what it is laid with.
  Whether what is known may be, whether a message is an Update that may be, an encoding's family: the program's answers, and the document's Ok and Family. Conditions: the message's lists stand in the world, and aren't long; the variables have what they are laid with.
  Bytes read one behind the other by a cursor that may be Bad: what each read answers, by its place alone; what leaves the blocks below one alone, but for one. Condition: at most 2^20 bytes.
  The listed variables stand behind whatever leaves the blocks below one alone, but another one. No conditions.
-/
import Derived.Test.YtpkmpinbpfblfaaGreatDoorQ01
import Derived.Test.YtpkmpinbpfblfaaGreatDoorQ02
import Derived.Test.YtpkmpinbpfblfaaGreatDoorQ03
import Derived.Test.YtpkmpinbpfblfaaGreatDoorQ04
import Derived.Test.YtpkmpinbpfblfaaGreatDoorRows
import Derived.Below
import Derived.OpenShut
import Derived.LaidLaws
import Derived.LaidMore
import Derived.Lib.LaidTab
import Derived.Stop.LaidErr
import Derived.Lib.SmallJoins
import Derived.ChangeSame
namespace Go.Proofs.YtpkmpinbpfblfaaGreatDoor.Tc
open Go.RowKit Go.ChangeShapes Go.WideShapes Go.Joins
set_option maxRecDepth 100000

/-- What the variable has. -/
structure Tab (w : World) : Prop where
  a0 : w.cell? ⟨0, 0, none⟩ = some (.int .i64 0)
  a1 : w.cell? ⟨0, 1, none⟩ = some (.int .i64 4)
  a2 : w.cell? ⟨0, 2, none⟩ = some (.int .i64 16)
  a3 : w.cell? ⟨0, 3, none⟩ = some (.int .i64 8)
  s0 : w.cell? ⟨2, 0, none⟩ = some (.int .i64 0)
  s1 : w.cell? ⟨2, 1, none⟩ = some (.int .i64 0)
  s2 : w.cell? ⟨2, 2, none⟩ = some (.int .i64 0)
  s3 : w.cell? ⟨2, 3, none⟩ = some (.int .i64 32)
  s4 : w.cell? ⟨2, 4, none⟩ = some (.int .i64 0)
  s5 : w.cell? ⟨2, 5, none⟩ = some (.int .i64 128)
  s6 : w.cell? ⟨2, 6, none⟩ = some (.int .i64 64)
  s7 : w.cell? ⟨2, 7, none⟩ = some (.int .i64 128)
  z0 : w.cell? ⟨1, 0, none⟩ = some (.int .i64 0)
  z1 : w.cell? ⟨1, 1, none⟩ = some (.int .i64 4)
  z2 : w.cell? ⟨1, 2, none⟩ = some (.int .i64 16)
  z3 : w.cell? ⟨1, 3, none⟩ = some (.int .i64 8)
theorem ga : Tryz.prog.globalNamed "roadbook/field.addrSizes" = some 0 := by kernel_rfl
theorem ta : (Tryz.prog.globals[0]?).map (·.type) = some 126 := by kernel_rfl
theorem g0 : Tryz.prog.globalNamed "roadbook/route.spans" = some 2 := by kernel_rfl
theorem gz : Tryz.prog.globalNamed "roadbook/ctx.sizes" = some 1 := by kernel_rfl
theorem tz : (Tryz.prog.globals[1]?).map (·.type) = some 126 := by kernel_rfl
theorem t0 : (Tryz.prog.globals[2]?).map (·.type) = some 133 := by kernel_rfl
theorem eight {α : Type} (l : List α) (h : l.length = 8) : ∃ a b c d e f g i, l = [a, b, c, d, e, f, g, i] := by
  match l, h with
  | [a, b, c, d, e, f, g, i], _ => exact ⟨a, b, c, d, e, f, g, i, rfl⟩
theorem of_laid {w : World} (h : laidMetH Tryz.prog [("roadbook/field.addrSizes", Rows.laid_roadbook_field_addrSizes), ("roadbook/route.spans", Rows.laid_roadbook_route_spans), ("roadbook/ctx.sizes", Rows.laid_roadbook_ctx_sizes)] w) : Tab w := by
  have h : laidMet Tryz.prog [("roadbook/field.addrSizes", Rows.laid_roadbook_field_addrSizes), ("roadbook/route.spans", Rows.laid_roadbook_route_spans), ("roadbook/ctx.sizes", Rows.laid_roadbook_ctx_sizes)] w := by
    rw [MakeChecks.laidMetH_plain _ _ _ (by kernel_rfl)] at h; exact h
  have hz : Lib.TabIs Tryz.prog w "roadbook/ctx.sizes" .i64 [0, 4, 16, 8] := Lib.tabIs_of_head gz tz Tryz.underlying126 Tryz.underlying3 (by kernel_rfl) (by kernel_rfl) (rest := _) (by exact h.tail.tail)
  have ha : Lib.TabIs Tryz.prog w "roadbook/field.addrSizes" .i64 [0, 4, 16, 8] := Lib.tabIs_of_head ga ta Tryz.underlying126 Tryz.underlying3 (by kernel_rfl) (by kernel_rfl) (rest := _) (by exact h)
  have h := h.tail
  obtain ⟨ps, ⟨g', t', cs, f, p, q, hg', ht', hv, hd, _, _⟩, _⟩ := h
  obtain rfl := Option.some.inj (g0.symm.trans hg')
  obtain rfl := Option.some.inj (t0.symm.trans ht')
  have cS : Tryz.prog.cellsOf 132 = 2 := by kernel_rfl
  have cA : Tryz.prog.cellsOf 133 = 8 := by kernel_rfl
  have c3 : Tryz.prog.cellsOf 3 = 1 := by kernel_rfl
  obtain ⟨xs, m, _, ex, hl, hn, hel⟩ := DataW.trod_array Tryz.underlying133 hd
  rw [cA] at hl
  obtain ⟨a0, a1, a2, a3, a4, a5, a6, a7, hcs⟩ := eight _ hl
  have e0 := hel 0 (by decide)
  have e1 := hel 1 (by decide)
  have e2 := hel 2 (by decide)
  have e3 := hel 3 (by decide)
  rw [cS, hcs] at e0 e1 e2 e3
  match xs, hn, ex, e0, e1, e2, e3 with
  | [x0, x1, x2, x3], _, ex, e0, e1, e2, e3 =>
    simp only [List.drop_zero, List.take_succ_cons, List.take_zero, Nat.zero_mul, Nat.one_mul, Nat.reduceMul, List.drop_succ_cons, List.getElem?_cons_zero, List.getElem?_cons_succ] at e0 e1 e2 e3
    obtain ⟨y0, y1, n0, hx0, _, f0, f1⟩ := trod_struct2 Tryz.underlying132 e0
    obtain ⟨y2, y3, n1, hx1, _, f2, f3⟩ := trod_struct2 Tryz.underlying132 e1
    obtain ⟨y4, y5, n2, hx2, _, f4, f5⟩ := trod_struct2 Tryz.underlying132 e2
    obtain ⟨y6, y7, n3, hx3, _, f6, f7⟩ := trod_struct2 Tryz.underlying132 e3
    simp only [c3, List.drop_zero, List.take_succ_cons, List.take_zero, List.drop_succ_cons] at f0 f1 f2 f3 f4 f5 f6 f7
    obtain ⟨b0, q0, k0, _⟩ := DataW.trod_int Tryz.underlying3 f0
    obtain ⟨b1, q1, k1, _⟩ := DataW.trod_int Tryz.underlying3 f1
    obtain ⟨b2, q2, k2, _⟩ := DataW.trod_int Tryz.underlying3 f2
    obtain ⟨b3, q3, k3, _⟩ := DataW.trod_int Tryz.underlying3 f3
    obtain ⟨b4, q4, k4, _⟩ := DataW.trod_int Tryz.underlying3 f4
    obtain ⟨b5, q5, k5, _⟩ := DataW.trod_int Tryz.underlying3 f5
    obtain ⟨b6, q6, k6, _⟩ := DataW.trod_int Tryz.underlying3 f6
    obtain ⟨b7, q7, k7, _⟩ := DataW.trod_int Tryz.underlying3 f7
    subst k0 k1 k2 k3 k4 k5 k6 k7
    subst hx0 hx1 hx2 hx3
    simp [Rows.laid_roadbook_route_spans] at ex
    obtain ⟨⟨⟨r0, r1⟩, ⟨r2, r3⟩, ⟨r4, r5⟩, r6, r7⟩, _⟩ := ex
    simp only [List.cons.injEq, and_true] at q0 q1 q2 q3 q4 q5 q6 q7
    have hc : ∀ i, w.cell? ⟨2, i, none⟩ = cs.toList[i]? := fun i => by have := World.var?_cell g0 hv i; simpa using this
    rw [hcs] at hc
    subst q0 q1 q2 q3 q4 q5 q6 q7
    subst r0 r1 r2 r3 r4 r5 r6 r7
    exact ⟨ha.cell ga 0 (by decide), ha.cell ga 1 (by decide), ha.cell ga 2 (by decide), ha.cell ga 3 (by decide), hc 0, hc 1, hc 2, hc 3, hc 4, hc 5, hc 6, hc 7, hz.cell gz 0 (by decide), hz.cell gz 1 (by decide), hz.cell gz 2 (by decide), hz.cell gz 3 (by decide)⟩
theorem Tab.pos {w : World} (h : Tab w) : 2 < w.heap.size := by
  have h0 := World.block_lt_of_cell? _ _ h.a0
  have h0 : 0 < w.heap.size := h0
  have h1 := World.block_lt_of_cell? _ _ h.s0
  have h2 := World.block_lt_of_cell? _ _ h.z0
  have h1 : 2 < w.heap.size := h1
  have h2 : 1 < w.heap.size := h2
  omega
/-- .. and behind whatever leaves the first three blocks as they were. -/
theorem Tab.under {B : Nat} {w w' : World} (h : Tab w) (hb : Below B w w') (hB : 2 < B) : Tab w' := by
  have c : ∀ b i, b ≤ 2 → w'.cell? ⟨b, i, none⟩ = w.cell? ⟨b, i, none⟩ := fun b i hi => hb.cell (p := ⟨b, i, none⟩) (by show b < B; omega)
  exact ⟨(c _ _ (by decide)).trans h.a0, (c _ _ (by decide)).trans h.a1, (c _ _ (by decide)).trans h.a2, (c _ _ (by decide)).trans h.a3, (c _ _ (by decide)).trans h.s0, (c _ _ (by decide)).trans h.s1, (c _ _ (by decide)).trans h.s2, (c _ _ (by decide)).trans h.s3, (c _ _ (by decide)).trans h.s4, (c _ _ (by decide)).trans h.s5, (c _ _ (by decide)).trans h.s6, (c _ _ (by decide)).trans h.s7, (c _ _ (by decide)).trans h.z0, (c _ _ (by decide)).trans h.z1, (c _ _ (by decide)).trans h.z2, (c _ _ (by decide)).trans h.z3⟩
theorem Tab.below {w w' : World} (h : Tab w) (hb : Below w.heap.size w w') : Tab w' := h.under hb h.pos
theorem Tab.drew {w : World} (h : Tab w) : Tab w.drew := ⟨h.a0, h.a1, h.a2, h.a3, h.s0, h.s1, h.s2, h.s3, h.s4, h.s5, h.s6, h.s7, h.z0, h.z1, h.z2, h.z3⟩
end Go.Proofs.YtpkmpinbpfblfaaGreatDoor.Tc
namespace Go.Proofs.YtpkmpinbpfblfaaGreatDoor.F2
open Go.ChangeShapes Go.WideShapes Go.ChangeAt Go.RowKit
open Go.Proofs.YtpkmpinbpfblfaaGreatDoor.F1
open Go.Proofs.YtpkmpinbpfblfaaGreatDoor.Nu
open Go.Proofs.YtpkmpinbpfblfaaGreatDoor.Cur (numL num_yes num_no text_yes text_no new_any left_ok hasB)
open Go.Proofs.YtpkmpinbpfblfaaGreatDoor.Bk (Bk Sh shC cur cur_one loadVarK wpList_builtK wpList_loadK wpList_storeK run_loadK below_setRow alloc_size)
open Go.Proofs.YtpkmpinbpfblfaaGreatDoor.Hs
open Go.Proofs.YtpkmpinbpfblfaaGreatDoor.Hx (conv8 ex_built H.storeRow)
set_option linter.unusedVariables false
set_option maxRecDepth 100000
set_option maxRecDepth 100000

theorem bcall {w W w1 : World} (h : Below w.heap.size w W) (hb : Below W.heap.size W w1) : Below w.heap.size w w1 := h.trans (hb.mono h.size)
theorem balloc {w W : World} (h : Below w.heap.size w W) (o : Obj) : Below w.heap.size w (W.alloc o) := h.alloc h.size o
theorem idx (b : ByteArray) (k : Nat) (i : Int) (hi : i = k) (h : k < b.size) (W : World) : (Instr.index 9 (.string b) (.int .i64 i)).run Tryz.prog W = .ok (.int .u8 (bt b k)) W := by
  subst hi
  rw [run_index_string W 9 b .i64 (k : Int) Tryz.underlying9, dif_pos ⟨by omega, by omega⟩, ← bt_eq b k h]
  rfl
theorem sl_m (s : ByteArray) (i j : Int) (lo hi : Nat) (hi' : i = lo) (hj : j = hi) (h1 : lo ≤ hi) (h2 : hi ≤ s.size) (W : World) :
    (Instr.slice 9 (.string s) (some (.int .i64 i)) (some (.int .i64 j)) none).run Tryz.prog W = .ok (.string (s.extract lo hi)) W := by
  subst hi' hj
  have := run_slice_string (P := Tryz.prog) W 9 s .i64 .i64 (lo : Int) (hi : Int) Tryz.underlying9 (by omega) (by omega) (by omega)
  simpa using this
theorem sl_l (s : ByteArray) (i : Int) (lo hi : Nat) (hi' : i = lo) (h1 : lo ≤ s.size) (hs : s.size = hi) (W : World) :
    (Instr.slice 9 (.string s) (some (.int .i64 i)) none none).run Tryz.prog W = .ok (.string (s.extract lo hi)) W := by
  subst hi' hs
  have := run_slice_string_l (P := Tryz.prog) (t := 9) (s := s) W Tryz.underlying9 .i64 (lo : Int) (by omega) (by omega)
  simpa using this
theorem results_head {P : Program} {fn : Func} {o p q r : Nat} {ty : TypeId} (h : fn.results = #[.tmp o, .cell p ty, .tmp q, .tmp r]) (tmps : Array Value) (w : World) (g : Nat) (u : Value)
    (y : Value) (hy : tmps.getD o undef = y) (hp : tmps.getD p undef = .pointer (some ⟨g, 0, none⟩)) (hl : (loadVar ty ⟨g, 0, none⟩).run P w = .ok u w) (v : Value) (hv : tmps.getD q undef = v) (x : Value) (hx : tmps.getD r undef = x) :
    (results fn tmps).run P w = .ok (.tuple #[y, u, v, x]) w := by
  have hy' : tmps[o]?.getD undef = y := by simpa using hy
  have hp' : tmps[p]?.getD undef = .pointer (some ⟨g, 0, none⟩) := by simpa using hp
  have hv' : tmps[q]?.getD undef = v := by simpa using hv
  have hx' : tmps[r]?.getD undef = x := by simpa using hx
  simp [results, h, hy', hp', hv', hx', asAddr, hl]

/-- An empty cursor's cells. -/
def noC : Array Value := cur ⟨#[]⟩ 0 0 false
/-- One number off a cursor that may be, whether it is all there or not. -/
theorem num_any (s : ByteArray) (p : Nat) (x : Bool) (k : Nat) (hs : s.size ≤ 1048576) (hp : p ≤ s.size) (h1 : 1 ≤ k) (h7 : k ≤ 7) :
    ∃ (v : Int) (q : Nat) (y : Bool), q ≤ s.size ∧ (y = false → x = false ∧ q = p + k ∧ p + k ≤ s.size) ∧
      ∀ w, Calls Tryz.prog 58 #[.agg (cur s p s.size x), .int .i64 k] w fun e w' => e = .returned (.tuple #[.int .i64 v, .agg (cur s q s.size y)]) ∧ Below w.heap.size w w' := by
  have hm : s.size ≤ maxLen := by unfold maxLen; omega
  by_cases h : x = false ∧ p + k ≤ s.size
  · obtain ⟨rfl, h⟩ := h
    refine ⟨((numL ((s.data.toList.drop p).take k) : Nat) : Int), p + k, false, h, fun _ => ⟨rfl, rfl, h⟩, fun w => ?_⟩
    have := num_yes s p s.size k w hm hp (Nat.le_refl _) h h1 h7
    unfold cur
    push_cast
    exact this
  · have hb : hasB p s.size k x = false := by
      unfold hasB
      cases x with
      | true => rfl
      | false =>
        have h2 : ¬ p + k ≤ s.size := fun hh => h ⟨rfl, hh⟩
        simp only [Bool.not_false, Bool.true_and, Bool.and_eq_false_iff, decide_eq_false_iff_not]
        right
        omega
    exact ⟨0, p, true, hp, (fun h => nomatch h), fun w => num_no s p s.size k x w hm hp (Nat.le_refl _) hb (by omega) (by omega)⟩
theorem num_is (s : ByteArray) (p : Nat) (hs : s.size ≤ 1048576) (h : p + 1 ≤ s.size) (w : World) :
    Calls Tryz.prog 58 #[.agg (cur s p s.size false), .int .i64 1] w fun e w' => e = .returned (.tuple #[.int .i64 (bt s p), .agg (cur s (p + 1 : Nat) s.size false)]) ∧ Below w.heap.size w w' := by
  have := num_yes s p s.size 1 w (by unfold maxLen; omega) (by omega) (Nat.le_refl _) h (by omega) (by omega)
  rw [num_one s p (by omega)] at this
  unfold cur
  push_cast
  exact this

/-- What stands in readHead: the answer's cursor, the cursor. -/
structure G (w0 w : World) (cb : Nat) (c : Array Value) : Prop where
  res : Bk 61 w w0.heap.size noC
  cur : Bk 61 w cb c
  ne : w0.heap.size < cb
  bel : Below w0.heap.size w0 w
theorem G.call {w0 w w' : World} {cb : Nat} {c : Array Value} (g : G w0 w cb c) (hb : Below w.heap.size w w') : G w0 w' cb c := ⟨g.res.below hb, g.cur.below hb, g.ne, g.bel.trans (hb.mono g.bel.size)⟩
theorem G.put {w0 w : World} {cb : Nat} {c : Array Value} (g : G w0 w cb c) (c' : Array Value) : G w0 (w.setRow cb c') cb c' :=
  ⟨g.res.row (by have := g.ne; omega) _, g.cur.put _, g.ne, below_setRow g.bel (Nat.le_of_lt g.ne) _⟩
/-- The answer of readHead: a number, a cursor, a place, an error. -/
def HeadIs (n : Int) (c : Array Value) (i x : Int) (w : World) (e : Ending) (w' : World) : Prop := e = .returned (.tuple #[.int .i64 n, .agg c, .int .i64 i, .int .i64 x]) ∧ Below w.heap.size w w'
set_option maxHeartbeats 3200000 in
theorem head_walk (b : ByteArray) (v1 v2 v3 : Int) (p1 p2 p3 : Nat) (y1 y2 y3 : Bool) (w : World) (hs : b.size ≤ 1048576) (P : Ending → World → Prop) (hP : P = if y3 = true then HeadIs 0 noC b.size 2 w else if ¬ v1 = 42 then HeadIs 0 noC 0 4 w else if ¬ v2 = 2 then HeadIs 0 noC 1 4 w else HeadIs v3 (cur b p3 b.size y3) 0 0 w)
    (h1 : ∀ w, Calls Tryz.prog 58 #[.agg (cur b 0 b.size false), .int .i64 1] w fun e w' => e = .returned (.tuple #[.int .i64 v1, .agg (cur b p1 b.size y1)]) ∧ Below w.heap.size w w')
    (h2 : ∀ w, Calls Tryz.prog 58 #[.agg (cur b p1 b.size y1), .int .i64 1] w fun e w' => e = .returned (.tuple #[.int .i64 v2, .agg (cur b p2 b.size y2)]) ∧ Below w.heap.size w w')
    (h3 : ∀ w, Calls Tryz.prog 58 #[.agg (cur b p2 b.size y2), .int .i64 2] w fun e w' => e = .returned (.tuple #[.int .i64 v3, .agg (cur b p3 b.size y3)]) ∧ Below w.heap.size w w') :
    Calls Tryz.prog 34 #[.string b] w P := by
  have HP := Lib.hid hP
  clear hP
  have HN := Lib.hid (fun V => new_any b V (by unfold maxLen; omega))
  have H1 := Lib.hid h1
  have H2 := Lib.hid h2
  have H3 := Lib.hid h3
  have hbs : (b.size : Int) ≤ 1048576 := by omega
  clear h1 h2 h3 hs
  go_enter Tryz.func34, Tryz.ntmps34
  go_upto_region 1 with fail
  change Code.wp _ _ _ _ (w.alloc (.cells noC 61))
  have R0 := Lib.hid (Bk.Bk.new 61 w noC)
  have B0 := Lib.hid (balloc (Below.refl _ w) (.cells noC 61))
  generalize w.alloc (.cells noC 61) = W0 at *
  go_wp2_with fail
  refine (HN.out _).mono ?_
  rintro e W1 ⟨rfl, hb⟩
  have R1 := Lib.hid (R0.out.below hb)
  have B1 := Lib.hid (bcall B0.out hb)
  clear hb HN R0 B0
  go_wp2_with fail
  refine (H1.out _).mono ?_
  rintro e w1 ⟨rfl, hb⟩
  have R1 := Lib.hid (R1.out.below hb)
  have B1 := Lib.hid (bcall B1.out hb)
  clear hb H1
  have C := Bk.Bk.new 61 w1 noC
  go_upto_region 2 with (refine wpList_storeK (b := w1.heap.size) shC rfl _ _ rfl rfl rfl C rfl rfl (cur_one _ _ _ _) ?_)
  clear C
  change Code.wp _ _ _ _ ((w1.alloc (.cells noC 61)).setRow w1.heap.size (cur b p1 b.size y1))
  rw [World.setRow_alloc_new]
  have HG : Hid (G w (w1.alloc (.cells (cur b p1 b.size y1) 61)) w1.heap.size (cur b p1 b.size y1)) := Lib.hid ⟨R1.out.old _, Bk.Bk.new _ _ _, R1.out.lt, balloc B1.out _⟩
  clear R1 B1
  generalize w1.alloc (.cells (cur b p1 b.size y1) 61) = W2 at *
  generalize w1.heap.size = cb at *
  go_wp2_with (first | (refine wpList_loadK (b := cb) shC rfl _ rfl rfl HG.out.cur rfl ?_))
  refine (H2.out _).mono ?_
  rintro e w2 ⟨rfl, hb⟩
  have HG := Lib.hid (HG.out.call hb)
  clear hb H2
  go_upto_region 3 with (refine wpList_storeK (b := cb) shC rfl _ _ rfl rfl rfl HG.out.cur rfl rfl (cur_one b p2 b.size y2) ?_)
  have HG := Lib.hid (HG.out.put (cur b p2 b.size y2))
  generalize w2.setRow cb (cur b p2 b.size y2) = W3 at *
  go_wp2_with (first | (refine wpList_loadK (b := cb) shC rfl _ rfl rfl HG.out.cur rfl ?_))
  refine (H3.out _).mono ?_
  rintro e w3 ⟨rfl, hb⟩
  have HG := Lib.hid (HG.out.call hb)
  clear hb H3
  go_upto_region 4 with (refine wpList_storeK (b := cb) shC rfl _ _ rfl rfl rfl HG.out.cur rfl rfl (cur_one b p3 b.size y3) ?_)
  have HG := Lib.hid (HG.out.put (cur b p3 b.size y3))
  generalize w3.setRow cb (cur b p3 b.size y3) = W4 at *
  have c3 := HG.out.cur.cell 3 (.bool y3) rfl
  by_cases hy : y3 = true
  · subst hy
    have HP : P = HeadIs 0 noC b.size 2 w := by rw [HP.out, if_pos rfl]
    subst HP
    go_wp2_with (first | (refine wpList_builtK rfl 61 _ rfl noC (by kernel_rfl) ?_) | (refine wpList_storeK (b := w.heap.size) shC rfl _ _ rfl rfl rfl HG.out.res rfl rfl (cur_one _ _ _ _) ?_))
    exact bodyPost_ret (v := .tuple #[.int .i64 0, .agg noC, .int .i64 b.size, .int .i64 2]) (results_head (ty := 61) rfl _ _ w.heap.size (.agg noC) (.int .i64 0) rfl rfl (loadVarK shC (HG.out.res.put noC) rfl) (.int .i64 b.size) rfl (.int .i64 2) rfl) rfl ⟨rfl, below_setRow HG.out.bel (Nat.le_refl _) _⟩
  have hy : y3 = false := by simpa using hy
  subst hy
  have HP := Lib.hid (HP.out.trans (if_neg (by simp)))
  by_cases e1 : v1 = 42
  rotate_left
  · have HP : P = HeadIs 0 noC 0 4 w := HP.out.trans (if_pos e1)
    subst HP
    go_wp2_with (first | (refine wpList_builtK rfl 61 _ rfl noC (by kernel_rfl) ?_) | (refine wpList_storeK (b := w.heap.size) shC rfl _ _ rfl rfl rfl HG.out.res rfl rfl (cur_one _ _ _ _) ?_))
    exact bodyPost_ret (v := .tuple #[.int .i64 0, .agg noC, .int .i64 0, .int .i64 4]) (results_head (ty := 61) rfl _ _ w.heap.size (.agg noC) (.int .i64 0) rfl rfl (loadVarK shC (HG.out.res.put noC) rfl) (.int .i64 0) rfl (.int .i64 4) rfl) rfl ⟨rfl, below_setRow HG.out.bel (Nat.le_refl _) _⟩
  have HP := Lib.hid (HP.out.trans (if_neg (by simpa using e1)))
  by_cases e2 : v2 = 2
  rotate_left
  · have HP : P = HeadIs 0 noC 1 4 w := HP.out.trans (if_pos e2)
    subst HP
    go_wp2_with (first | (refine wpList_builtK rfl 61 _ rfl noC (by kernel_rfl) ?_) | (refine wpList_storeK (b := w.heap.size) shC rfl _ _ rfl rfl rfl HG.out.res rfl rfl (cur_one _ _ _ _) ?_))
    exact bodyPost_ret (v := .tuple #[.int .i64 0, .agg noC, .int .i64 1, .int .i64 4]) (results_head (ty := 61) rfl _ _ w.heap.size (.agg noC) (.int .i64 0) rfl rfl (loadVarK shC (HG.out.res.put noC) rfl) (.int .i64 1) rfl (.int .i64 4) rfl) rfl ⟨rfl, below_setRow HG.out.bel (Nat.le_refl _) _⟩
  have HP : P = HeadIs v3 (cur b p3 b.size false) 0 0 w := HP.out.trans (if_neg (by simpa using e2))
  subst HP
  go_upto_region 10 with fail
  refine wp_region_held_drew (S := fun W => Bk 61 W cb (cur b p3 b.size false)) (by kernel_rfl) HG.out.cur.drew (fun hS => ?_)
  refine H.tk (i := 0) (v := .int .i64 v3) (fun _ _ => rfl) hS ?_
  try simp only [Act.put, List.setIfInBounds_toArray, List.set_cons_zero, List.set_cons_succ]
  refine H.tk (i := 1) (v := .agg (cur b p3 b.size false)) (fun W hW => run_loadK shC rfl rfl hW rfl) hS ?_
  try simp only [Act.put, List.setIfInBounds_toArray, List.set_cons_zero, List.set_cons_succ]
  refine H.tk (i := 2) (v := .int .i64 v3) (fun _ _ => rfl) hS ?_
  try simp only [Act.put, List.setIfInBounds_toArray, List.set_cons_zero, List.set_cons_succ]
  refine H.storeRow (i := 3) (g := w.heap.size) (cells := cur b p3 b.size false) (by simp only [List.getElem?_toArray, List.getElem?_cons_succ, List.getElem?_cons_zero]; rfl) (by kernel_rfl) rfl rfl (by kernel_rfl) rfl rfl 61 noC HG.out.res.drew (by kernel_rfl) rfl (cur_one _ _ _ _) (HG.out.cur.drew.row (by have := HG.out.ne; omega) _) ?_
  have hS2 := HG.out.cur.drew.row (g := w.heap.size) (by have := HG.out.ne; omega) (cur b p3 b.size false)
  refine H.tk (i := 4) (v := .int .i64 0) (fun _ _ => rfl) hS2 ?_
  try simp only [Act.put, List.setIfInBounds_toArray, List.set_cons_zero, List.set_cons_succ]
  refine H.tk (i := 5) (v := .int .i64 0) (fun _ _ => rfl) hS2 ?_
  try simp only [Act.put, List.setIfInBounds_toArray, List.set_cons_zero, List.set_cons_succ]
  refine wpAnyH_done (by kernel_rfl) ?_ _
  go_wp2_with fail
  exact bodyPost_ret (v := .tuple #[.int .i64 v3, .agg (cur b p3 b.size false), .int .i64 0, .int .i64 0]) (results_head (ty := 61) rfl _ _ w.heap.size (.agg (cur b p3 b.size false)) (.int .i64 v3) rfl rfl (loadVarK shC (HG.out.res.drew.put (cur b p3 b.size false)) rfl) (.int .i64 0) rfl (.int .i64 0) rfl) rfl ⟨rfl, below_setRow HG.out.bel.drew (Nat.le_refl _) _⟩
/-- The head's first fault, or its number and the cursor behind it. -/
theorem head_any (b : ByteArray) (w : World) (hs : b.size ≤ 1048576) (P : Ending → World → Prop) (hP : P = if b.size < 4 then HeadIs 0 noC b.size 2 w else if ¬ bt b 0 = 42 then HeadIs 0 noC 0 4 w else if ¬ bt b 1 = 2 then HeadIs 0 noC 1 4 w else HeadIs (bodyN b) (cur b (4 : Nat) b.size false) 0 0 w) :
    Calls Tryz.prog 34 #[.string b] w P := by
  by_cases h : b.size < 4
  · obtain ⟨v1, p1, y1, l1, k1, n1⟩ := num_any b 0 false 1 hs (Nat.zero_le _) (by omega) (by omega)
    obtain ⟨v2, p2, y2, l2, k2, n2⟩ := num_any b p1 y1 1 hs l1 (by omega) (by omega)
    obtain ⟨v3, p3, y3, l3, k3, n3⟩ := num_any b p2 y2 2 hs l2 (by omega) (by omega)
    have hy : y3 = true := by
      cases y3 with
      | true => rfl
      | false =>
        obtain ⟨e2, _, _⟩ := k3 rfl
        obtain ⟨e1, _, _⟩ := k2 e2
        obtain ⟨_, _, _⟩ := k1 e1
        omega
    exact head_walk b v1 v2 v3 p1 p2 p3 y1 y2 y3 w hs P (by rw [hP, if_pos h, if_pos hy]) n1 n2 n3
  · have n3 : ∀ w, Calls Tryz.prog 58 #[.agg (cur b (2 : Nat) b.size false), .int .i64 2] w fun e w' => e = .returned (.tuple #[.int .i64 (bodyN b), .agg (cur b (4 : Nat) b.size false)]) ∧ Below w.heap.size w w' := fun w => by
      have := num_yes b 2 b.size 2 w (by unfold maxLen; omega) (by omega) (Nat.le_refl _) (by omega) (by omega) (by omega)
      rw [num_two b 2 (by omega), ← bodyN_eq] at this
      exact this
    exact head_walk b (bt b 0) (bt b 1) (bodyN b) 1 2 4 false false false w hs P (by rw [hP, if_neg h]; exact (if_neg (by simp : ¬ (false = true))).symm) (fun w => num_is b 0 hs (by omega) w) (fun w => num_is b 1 hs (by omega) w) n3

/-- The answer of Body. -/
def BodyIs (o : ByteArray × Int × Int) (w : World) (e : Ending) (w' : World) : Prop := e = .returned (.tuple #[.string o.1, .int .i64 o.2.1, .int .i64 o.2.2]) ∧ Below w.heap.size w w'
theorem out_bad {b : ByteArray} {i x : Int} (h : head b = some (i, x)) : outB b = (⟨#[]⟩, i, x) := by unfold outB; rw [h]
theorem out_good {b : ByteArray} (h : head b = none) : outB b = (b.extract 4 (4 + bodyN b), 0, 0) := by unfold outB; rw [h]
set_option maxHeartbeats 1600000 in
theorem body_bad (b : ByteArray) (i x : Int) (w : World) (hs : b.size ≤ 65535) (hx : ¬ x = 0) (h : ∀ w, Calls Tryz.prog 34 #[.string b] w (HeadIs 0 noC i x w)) :
    Calls Tryz.prog 20 #[.string b] w (BodyIs (⟨#[]⟩, i, x) w) := by
  have PH := Lib.hid h
  have hbs : (b.size : Int) ≤ 65535 := by omega
  clear h hs
  go_enter Tryz.func20, Tryz.ntmps20
  go_wp2_with fail
  refine (PH.out _).mono ?_
  rintro e w1 ⟨rfl, hb⟩
  have C := Lib.hid (Bk.Bk.new 61 w1 noC)
  have HB := Lib.hid (below_setRow (balloc hb (.cells noC 61)) hb.size noC)
  clear hb PH
  go_wp2_with (first | (refine wpList_storeK (b := w1.heap.size) shC rfl _ _ rfl rfl rfl C.out rfl rfl (cur_one _ _ _ _) ?_))
  go_ret3
  exact ⟨rfl, HB.out⟩
set_option maxHeartbeats 3200000 in
theorem body_walk (b : ByteArray) (s : ByteArray) (q : Int) (y : Bool) (w : World) (hs : b.size ≤ 65535) (h : ∀ w, Calls Tryz.prog 34 #[.string b] w (HeadIs (bodyN b) (cur b (4 : Nat) b.size false) 0 0 w))
    (ht : ∀ w, Calls Tryz.prog 35 #[.agg (cur b (4 : Nat) b.size false), .int .i64 (bodyN b)] w fun e w' => e = .returned (.tuple #[.string s, .agg (cur b q b.size y)]) ∧ Below w.heap.size w w')
    (P : Ending → World → Prop) (hP : P = if y = true then BodyIs (⟨#[]⟩, (b.size : Int), 2) w else BodyIs (s, 0, 0) w) :
    Calls Tryz.prog 20 #[.string b] w P := by
  have PH := Lib.hid h
  have PT := Lib.hid ht
  have HP := Lib.hid hP
  have hbs : (b.size : Int) ≤ 65535 := by omega
  clear h ht hs hP
  generalize (bodyN b : Int) = n at *
  go_enter Tryz.func20, Tryz.ntmps20
  go_wp2_with fail
  refine (PH.out _).mono ?_
  rintro e w1 ⟨rfl, hb⟩
  have C := Lib.hid (Bk.Bk.new 61 w1 noC)
  have C1 := Lib.hid (C.out.put (cur b (4 : Nat) b.size false))
  have HB := Lib.hid (below_setRow (balloc hb (.cells noC 61)) hb.size (cur b (4 : Nat) b.size false))
  have hg : Hid (w.heap.size ≤ w1.heap.size) := Lib.hid hb.size
  clear hb PH
  go_upto_region 4 with (first | (refine wpList_storeK (b := w1.heap.size) shC rfl _ _ rfl rfl rfl C.out rfl rfl (cur_one _ _ _ _) ?_))
  change Code.wp _ _ _ _ ((w1.alloc (.cells noC 61)).setRow w1.heap.size (cur b (4 : Nat) b.size false))
  clear C
  generalize (w1.alloc (.cells noC 61)).setRow w1.heap.size (cur b (4 : Nat) b.size false) = W at *
  generalize w1.heap.size = g at *
  go_wp2_with (first | (refine wpList_loadK (b := g) shC rfl _ rfl rfl C1.out rfl ?_))
  refine (PT.out _).mono ?_
  rintro e w2 ⟨rfl, hb⟩
  have C2 := Lib.hid (C1.out.below hb)
  have C3 := Lib.hid (C2.out.put (cur b q b.size y))
  have HB := Lib.hid (below_setRow (bcall HB.out hb) hg.out (cur b q b.size y))
  have c3 := C3.out.cell 3 (.bool y) rfl
  clear hb PT C1
  cases y with
  | true =>
    have HP : P = BodyIs (⟨#[]⟩, (b.size : Int), 2) w := HP.out.trans (if_pos rfl)
    subst HP
    go_wp2_with (first | (refine wpList_storeK (b := g) shC rfl _ _ rfl rfl rfl C2.out rfl rfl (cur_one _ _ _ _) ?_))
    go_ret3
    exact ⟨rfl, HB.out⟩
  | false =>
    have HP : P = BodyIs (s, 0, 0) w := HP.out.trans (if_neg (by simp))
    subst HP
    go_wp2_with (first | (refine wpList_storeK (b := g) shC rfl _ _ rfl rfl rfl C2.out rfl rfl (cur_one _ _ _ _) ?_))
    go_ret3
    exact ⟨rfl, HB.out⟩
theorem head_long {b : ByteArray} (h : 65535 < b.size) : head b = some (65535, 10) := by unfold head; rw [if_pos h]
theorem head_short {b : ByteArray} (h : b.size < 4) : head b = some ((b.size : Int), 2) := by unfold head; rw [if_neg (by omega), if_pos h]
theorem head_kind {b : ByteArray} (h : ¬ 65535 < b.size) (h1 : ¬ b.size < 4) (h2 : ¬ bt b 0 = 42) : head b = some (0, 4) := by unfold head; rw [if_neg h, if_neg h1, if_pos h2]
theorem head_vers {b : ByteArray} (h : ¬ 65535 < b.size) (h1 : ¬ b.size < 4) (h2 : bt b 0 = 42) (h3 : ¬ bt b 1 = 2) : head b = some (1, 4) := by unfold head; rw [if_neg h, if_neg h1, if_neg (by omega), if_pos h3]
theorem head_few {b : ByteArray} (h : ¬ 65535 < b.size) (h1 : ¬ b.size < 4) (h2 : bt b 0 = 42) (h3 : bt b 1 = 2) (h4 : b.size < 4 + bodyN b) : head b = some ((b.size : Int), 2) := by
  have := bodyN_eq b
  unfold head; rw [if_neg h, if_neg h1, if_neg (by omega), if_neg (by omega), if_pos (by omega)]
theorem body_any (b : ByteArray) (w : World) (hs : b.size ≤ maxLen) : Calls Tryz.prog 20 #[.string b] w (BodyIs (outB b) w) := by
  by_cases h : 65535 < b.size
  · rw [out_bad (head_long h)]
    have hb : (65535 : Int) < b.size := by omega
    unfold maxLen at hs
    clear h
    go_enter Tryz.func20, Tryz.ntmps20
    go_wp2
    go_ret3
    exact ⟨rfl, Below.refl _ _⟩
  have hs1 : b.size ≤ 1048576 := by omega
  by_cases h1 : b.size < 4
  · rw [out_bad (head_short h1)]
    exact body_bad b _ _ w (by omega) (by omega) fun w => head_any b w hs1 _ (by rw [if_pos h1])
  by_cases h2 : bt b 0 = 42
  rotate_left
  · rw [out_bad (head_kind h h1 h2)]
    exact body_bad b _ _ w (by omega) (by omega) fun w => head_any b w hs1 _ (by rw [if_neg h1, if_pos h2])
  by_cases h3 : bt b 1 = 2
  rotate_left
  · rw [out_bad (head_vers h h1 h2 h3)]
    exact body_bad b _ _ w (by omega) (by omega) fun w => head_any b w hs1 _ (by rw [if_neg h1, if_neg (by omega), if_pos h3])
  have PH : ∀ w, Calls Tryz.prog 34 #[.string b] w (HeadIs (bodyN b) (cur b (4 : Nat) b.size false) 0 0 w) := fun w => head_any b w hs1 _ (by rw [if_neg h1, if_neg (by omega), if_neg (by omega)])
  by_cases h4 : b.size < 4 + bodyN b
  · rw [out_bad (head_few h h1 h2 h3 h4)]
    exact body_walk b ⟨#[]⟩ (4 : Nat) true w (by omega) PH (fun w => text_no b 4 b.size (bodyN b) false w hs (by omega) (Nat.le_refl _) (by unfold hasB; simp; omega)) _ (by rw [if_pos rfl])
  · rw [out_good (head_yes (by omega) (by omega) h2 h3 (by omega))]
    exact body_walk b _ _ false w (by omega) PH (fun w => text_yes b 4 b.size (bodyN b) w hs (by omega) (Nat.le_refl _) (by omega)) _ (by rw [if_neg (by simp)])
set_option maxHeartbeats 1600000 in
theorem trailer_any (b : ByteArray) (w : World) (hs : b.size ≤ maxLen) (h : head b = none) : Calls Tryz.prog 22 #[.string b] w fun e w' => e = .returned (.string (trail b)) ∧ Below w.heap.size w w' := by
  have PB := Lib.hid (fun V => body_any b V hs)
  rw [out_good h] at PB
  obtain ⟨k1, k2, _, _, k5⟩ := head_no h
  have hz : (b.extract 4 (4 + bodyN b)).size = bodyN b := by simp; omega
  have hn : (bodyN b : Int) ≤ 65535 := bodyN_le b
  have HT := Lib.hid (show b.extract (4 + bodyN b) b.size = trail b from rfl)
  have sl := sl_l b (4 + ((b.extract 4 (4 + bodyN b)).size : Int)) (4 + bodyN b) b.size (by rw [hz]; push_cast; rfl) k5 rfl
  have hzz : ((b.extract 4 (4 + bodyN b)).size : Int) ≤ 65535 := by rw [hz]; exact hn
  rw [HT.out] at sl
  clear h k1 k2 k5 hz hn hs HT
  generalize b.extract 4 (4 + bodyN b) = s at *
  go_enter Tryz.func22, Tryz.ntmps22
  go_wp2_with fail
  refine (PB.out _).mono ?_
  rintro e w1 ⟨rfl, hb⟩
  go_wp2
  go_ret
  exact ⟨rfl, hb⟩

theorem below_drewN {w W : World} (h : Below w.heap.size w W) : ∀ n, Below w.heap.size w (W.drewN n)
  | 0 => h
  | n + 1 => (below_drewN h n).drew
set_option maxHeartbeats 1600000 in
/-- The document's Body. -/
theorem rbody_any (b : ByteArray) (w : World) (hs : b.size ≤ maxLen) : Calls Tryz.prog 13 #[.string b] w (BodyIs (outB b) w) := by
  by_cases h : 65535 < b.size
  · rw [out_bad (head_long h)]
    have hb : (65535 : Int) < b.size := by omega
    unfold maxLen at hs
    clear h
    go_enter Tryz.func13, Tryz.ntmps13
    go_wp2
    go_ret3
    exact ⟨rfl, Below.refl _ _⟩
  have hb : (b.size : Int) ≤ 65535 := by omega
  clear hs
  by_cases h1 : b.size < 4
  · rw [out_bad (head_short h1)]
    have hb4 : (b.size : Int) < 4 := by omega
    clear h
    go_enter Tryz.func13, Tryz.ntmps13
    go_wp2
    go_ret3
    exact ⟨rfl, Below.refl _ _⟩
  have i0 := idx b 0 0 rfl (by omega)
  have hb4 : ¬ (b.size : Int) < 4 := by omega
  by_cases h2 : bt b 0 = 42
  rotate_left
  · rw [out_bad (head_kind h h1 h2)]
    have n0 := bt_nn b 0
    have l0 := bt_lt b 0
    clear h h1
    generalize bt b 0 = x at *
    go_enter Tryz.func13, Tryz.ntmps13
    go_wp2
    go_ret3
    exact ⟨rfl, Below.refl _ _⟩
  have i1 := idx b 1 1 rfl (by omega)
  by_cases h3 : bt b 1 = 2
  rotate_left
  · rw [out_bad (head_vers h h1 h2 h3)]
    rw [h2] at i0
    have n0 := bt_nn b 1
    have l0 := bt_lt b 1
    clear h h1 h2
    generalize bt b 1 = x at *
    go_enter Tryz.func13, Tryz.ntmps13
    go_wp2
    go_ret3
    exact ⟨rfl, Below.refl _ _⟩
  have i2 := idx b 2 2 rfl (by omega)
  have i3 := idx b 3 3 rfl (by omega)
  have v2 := conv8 (bt b 2) (bt_nn _ _) (bt_lt _ _)
  have v3 := conv8 (bt b 3) (bt_nn _ _) (bt_lt _ _)
  have n2 := bt_nn b 2
  have l2 := bt_lt b 2
  have n3 := bt_nn b 3
  have l3 := bt_lt b 3
  have hN := bodyN_eq b
  by_cases h4 : b.size < 4 + bodyN b
  · rw [out_bad (head_few h h1 h2 h3 h4)]
    rw [h2] at i0
    rw [h3] at i1
    have h5 : (b.size : Int) < 4 + (256 * bt b 2 + bt b 3) := by omega
    clear h h1 h2 h3 h4 hN
    generalize bt b 2 = x at *
    generalize bt b 3 = y at *
    go_enter Tryz.func13, Tryz.ntmps13
    go_wp2
    go_quiet (fail)
    go_wp2
    go_ret3
    exact ⟨rfl, below_drewN (Below.refl _ _) _⟩
  · rw [out_good (head_yes (by omega) (by omega) h2 h3 (by omega))]
    rw [h2] at i0
    rw [h3] at i1
    have h5 : ¬ (b.size : Int) < 4 + (256 * bt b 2 + bt b 3) := by omega
    have sl := sl_m b 4 (4 + (256 * bt b 2 + bt b 3)) 4 (4 + bodyN b) rfl (by push_cast; omega) (by omega) (by omega)
    generalize b.extract 4 (4 + bodyN b) = s at *
    clear h h1 h2 h3 h4 hN
    generalize bt b 2 = x at *
    generalize bt b 3 = y at *
    go_enter Tryz.func13, Tryz.ntmps13
    go_wp2
    go_quiet (fail)
    go_wp2
    go_ret3
    exact ⟨rfl, below_drewN (Below.refl _ _) _⟩
set_option maxHeartbeats 1600000 in
theorem rtrailer_any (b : ByteArray) (w : World) (hs : b.size ≤ maxLen) (h : head b = none) : Calls Tryz.prog 15 #[.string b] w fun e w' => e = .returned (.string (trail b)) ∧ Below w.heap.size w w' := by
  have PB := Lib.hid (fun V => rbody_any b V hs)
  rw [out_good h] at PB
  obtain ⟨k1, k2, _, _, k5⟩ := head_no h
  have hz : (b.extract 4 (4 + bodyN b)).size = bodyN b := by simp; omega
  have hn : (bodyN b : Int) ≤ 65535 := bodyN_le b
  have HT := Lib.hid (show b.extract (4 + bodyN b) b.size = trail b from rfl)
  have sl := sl_l b (4 + ((b.extract 4 (4 + bodyN b)).size : Int)) (4 + bodyN b) b.size (by rw [hz]; push_cast; rfl) k5 rfl
  have hzz : ((b.extract 4 (4 + bodyN b)).size : Int) ≤ 65535 := by rw [hz]; exact hn
  rw [HT.out] at sl
  clear h k1 k2 k5 hz hn hs HT
  generalize b.extract 4 (4 + bodyN b) = s at *
  go_enter Tryz.func15, Tryz.ntmps15
  go_wp2_with fail
  refine (PB.out _).mono ?_
  rintro e w1 ⟨rfl, hb⟩
  go_wp2
  go_ret
  exact ⟨rfl, hb⟩
end Go.Proofs.YtpkmpinbpfblfaaGreatDoor.F2
namespace Go.Proofs.YtpkmpinbpfblfaaGreatDoor.J2
open Go.ChangeShapes Go.WideShapes Go.ChangeAt Go.RowKit
open Go.Proofs.YtpkmpinbpfblfaaGreatDoor.Ms
open Go.Proofs.YtpkmpinbpfblfaaGreatDoor.Box
open Go.Proofs.YtpkmpinbpfblfaaGreatDoor.S1
open Go.Proofs.YtpkmpinbpfblfaaGreatDoor.Lk
open Go.Proofs.YtpkmpinbpfblfaaGreatDoor.Nu (text_eq)
open Go.Proofs.YtpkmpinbpfblfaaGreatDoor.J1
open Go.Proofs.YtpkmpinbpfblfaaGreatDoor.An
open Go.Proofs.YtpkmpinbpfblfaaGreatDoor.Tc
open Go.Proofs.YtpkmpinbpfblfaaGreatDoor.Oct (fitsB)
open Go.Proofs.YtpkmpinbpfblfaaGreatDoor.Bits (keepL keepL_length)
open Go.Proofs.YtpkmpinbpfblfaaGreatDoor.Pre (leastN cutL fillL fillL_length rightZ)
open Go.Proofs.YtpkmpinbpfblfaaGreatDoor.Hs
open Go.Proofs.YtpkmpinbpfblfaaGreatDoor.Or (st_yes)
set_option linter.unusedVariables false
set_option maxRecDepth 100000
set_option maxRecDepth 100000
theorem bool_eq {a b : Bool} (h : a = b) : Ending.returned (.bool a) = .returned (.bool b) := by rw [h]
theorem int_eq {a b : Int} (h : a = b) : Ending.returned (.int .i64 a) = .returned (.int .i64 b) := by rw [h]
theorem str_eq {a b : ByteArray} (h : a = b) : Ending.returned (.string a) = .returned (.string b) := by rw [h]
theorem len_is (ae p : Int) : lenB ae p = (decide (0 ≤ ae) && (decide (ae ≤ 3) && (decide (minA ae ≤ p) && decide (p ≤ maxA ae)))) := rfl
theorem size_eq (a : ByteArray) (k : Nat) : ((a.size : Int) == (k : Int)) = decide (a.size = k) := by rw [Bool.eq_iff_iff]; simp; omega
theorem nil_eq (a : ByteArray) : (a.toList == ([] : List UInt8)) = decide (a.size = 0) := by
  rw [Bool.eq_iff_iff, beq_iff_eq, decide_eq_true_eq, ByteArray.toList_eq, ← size_list, List.length_eq_zero_iff]
theorem nil_em (a : ByteArray) : a.toList.isEmpty = decide (a.size = 0) := by rw [← nil_eq]; cases a.toList <;> rfl
theorem ae_any (n : Int) (w : World) : Calls Tryz.prog 74 #[.int .i64 n] w fun e w' => e = .returned (.bool (decide (0 ≤ n ∧ n ≤ 3))) ∧ w = w' := by
  by_cases h0 : 0 ≤ n
  rotate_left
  · rw [decide_eq_false (fun h => h0 h.1)]
    go_enter Tryz.func74, Tryz.ntmps74
    go_wp2
    go_ret
    exact ⟨rfl, rfl⟩
  by_cases h1 : n ≤ 3
  rotate_left
  · rw [decide_eq_false (fun h => h1 h.2)]
    go_enter Tryz.func74, Tryz.ntmps74
    go_wp2
    go_ret
    exact ⟨bool_eq (decide_eq_false (by omega)), rfl⟩
  rw [decide_eq_true ⟨h0, h1⟩]
  go_enter Tryz.func74, Tryz.ntmps74
  go_wp2
  go_ret
  exact ⟨bool_eq (decide_eq_true (by omega)), rfl⟩
set_option maxHeartbeats 1600000 in
theorem length_any (ae p : Int) (w : World) (ht : Tab w) : Calls Tryz.prog 75 #[.int .i64 ae, .int .i64 p] w fun e w' => e = .returned (.bool (lenB ae p)) ∧ w = w' := by
  have PA := Lib.hid (fun V => ae_any ae V)
  by_cases hi : 0 ≤ ae ∧ ae ≤ 3
  rotate_left
  · have HK := Lib.hid (show lenB ae p = false from by
      cases h : lenB ae p
      · rfl
      · exact absurd ⟨(len_range h).1, (len_range h).2.1⟩ hi)
    rw [decide_eq_false hi] at PA
    clear ht hi
    go_enter Tryz.func75, Tryz.ntmps75
    go_wp2_with fail
    refine (PA.out _).mono ?_
    rintro e w' ⟨rfl, rfl⟩
    go_wp2
    go_ret
    exact ⟨bool_eq HK.out.symm, rfl⟩
  rw [decide_eq_true hi] at PA
  obtain ⟨s0, s1, s2, s3, s4, s5, s6, s7⟩ := ht
  rcases (show ae = 0 ∨ ae = 1 ∨ ae = 2 ∨ ae = 3 by omega) with rfl | rfl | rfl | rfl
  · by_cases h0 : 0 ≤ p
    rotate_left
    · have HK := Lib.hid (show lenB 0 p = false from by rw [len_is, decide_eq_false (show ¬ minA 0 ≤ p from h0)]; rfl)
      clear hi
      go_enter Tryz.func75, Tryz.ntmps75
      go_wp2_with fail
      refine (PA.out _).mono ?_
      rintro e w' ⟨rfl, rfl⟩
      go_wp2
      go_ret
      exact ⟨bool_eq HK.out.symm, rfl⟩
    by_cases h1 : p ≤ 0
    rotate_left
    · have HK := Lib.hid (show lenB 0 p = false from by rw [len_is, decide_eq_false (show ¬ p ≤ maxA 0 from h1), Bool.and_false, Bool.and_false, Bool.and_false])
      have hq : decide (p ≤ 0) = false := decide_eq_false h1
      clear hi
      go_enter Tryz.func75, Tryz.ntmps75
      go_wp2_with fail
      refine (PA.out _).mono ?_
      rintro e w' ⟨rfl, rfl⟩
      go_wp2
      go_ret
      exact ⟨bool_eq HK.out.symm, rfl⟩
    have HK := Lib.hid (show lenB 0 p = true from by rw [len_is, decide_eq_true (show minA 0 ≤ p from h0), decide_eq_true (show p ≤ maxA 0 from h1)]; rfl)
    have hq : decide (p ≤ 0) = true := decide_eq_true h1
    clear hi
    go_enter Tryz.func75, Tryz.ntmps75
    go_wp2_with fail
    refine (PA.out _).mono ?_
    rintro e w' ⟨rfl, rfl⟩
    go_wp2
    go_ret
    exact ⟨bool_eq HK.out.symm, rfl⟩
  · by_cases h0 : 0 ≤ p
    rotate_left
    · have HK := Lib.hid (show lenB 1 p = false from by rw [len_is, decide_eq_false (show ¬ minA 1 ≤ p from h0)]; rfl)
      clear hi
      go_enter Tryz.func75, Tryz.ntmps75
      go_wp2_with fail
      refine (PA.out _).mono ?_
      rintro e w' ⟨rfl, rfl⟩
      go_wp2
      go_ret
      exact ⟨bool_eq HK.out.symm, rfl⟩
    by_cases h1 : p ≤ 32
    rotate_left
    · have HK := Lib.hid (show lenB 1 p = false from by rw [len_is, decide_eq_false (show ¬ p ≤ maxA 1 from h1), Bool.and_false, Bool.and_false, Bool.and_false])
      have hq : decide (p ≤ 32) = false := decide_eq_false h1
      clear hi
      go_enter Tryz.func75, Tryz.ntmps75
      go_wp2_with fail
      refine (PA.out _).mono ?_
      rintro e w' ⟨rfl, rfl⟩
      go_wp2
      go_ret
      exact ⟨bool_eq HK.out.symm, rfl⟩
    have HK := Lib.hid (show lenB 1 p = true from by rw [len_is, decide_eq_true (show minA 1 ≤ p from h0), decide_eq_true (show p ≤ maxA 1 from h1)]; rfl)
    have hq : decide (p ≤ 32) = true := decide_eq_true h1
    clear hi
    go_enter Tryz.func75, Tryz.ntmps75
    go_wp2_with fail
    refine (PA.out _).mono ?_
    rintro e w' ⟨rfl, rfl⟩
    go_wp2
    go_ret
    exact ⟨bool_eq HK.out.symm, rfl⟩
  · by_cases h0 : 0 ≤ p
    rotate_left
    · have HK := Lib.hid (show lenB 2 p = false from by rw [len_is, decide_eq_false (show ¬ minA 2 ≤ p from h0)]; rfl)
      clear hi
      go_enter Tryz.func75, Tryz.ntmps75
      go_wp2_with fail
      refine (PA.out _).mono ?_
      rintro e w' ⟨rfl, rfl⟩
      go_wp2
      go_ret
      exact ⟨bool_eq HK.out.symm, rfl⟩
    by_cases h1 : p ≤ 128
    rotate_left
    · have HK := Lib.hid (show lenB 2 p = false from by rw [len_is, decide_eq_false (show ¬ p ≤ maxA 2 from h1), Bool.and_false, Bool.and_false, Bool.and_false])
      have hq : decide (p ≤ 128) = false := decide_eq_false h1
      clear hi
      go_enter Tryz.func75, Tryz.ntmps75
      go_wp2_with fail
      refine (PA.out _).mono ?_
      rintro e w' ⟨rfl, rfl⟩
      go_wp2
      go_ret
      exact ⟨bool_eq HK.out.symm, rfl⟩
    have HK := Lib.hid (show lenB 2 p = true from by rw [len_is, decide_eq_true (show minA 2 ≤ p from h0), decide_eq_true (show p ≤ maxA 2 from h1)]; rfl)
    have hq : decide (p ≤ 128) = true := decide_eq_true h1
    clear hi
    go_enter Tryz.func75, Tryz.ntmps75
    go_wp2_with fail
    refine (PA.out _).mono ?_
    rintro e w' ⟨rfl, rfl⟩
    go_wp2
    go_ret
    exact ⟨bool_eq HK.out.symm, rfl⟩
  · by_cases h0 : 64 ≤ p
    rotate_left
    · have HK := Lib.hid (show lenB 3 p = false from by rw [len_is, decide_eq_false (show ¬ minA 3 ≤ p from h0)]; rfl)
      clear hi
      go_enter Tryz.func75, Tryz.ntmps75
      go_wp2_with fail
      refine (PA.out _).mono ?_
      rintro e w' ⟨rfl, rfl⟩
      go_wp2
      go_ret
      exact ⟨bool_eq HK.out.symm, rfl⟩
    by_cases h1 : p ≤ 128
    rotate_left
    · have HK := Lib.hid (show lenB 3 p = false from by rw [len_is, decide_eq_false (show ¬ p ≤ maxA 3 from h1), Bool.and_false, Bool.and_false, Bool.and_false])
      have hq : decide (p ≤ 128) = false := decide_eq_false h1
      clear hi
      go_enter Tryz.func75, Tryz.ntmps75
      go_wp2_with fail
      refine (PA.out _).mono ?_
      rintro e w' ⟨rfl, rfl⟩
      go_wp2
      go_ret
      exact ⟨bool_eq HK.out.symm, rfl⟩
    have HK := Lib.hid (show lenB 3 p = true from by rw [len_is, decide_eq_true (show minA 3 ≤ p from h0), decide_eq_true (show p ≤ maxA 3 from h1)]; rfl)
    have hq : decide (p ≤ 128) = true := decide_eq_true h1
    clear hi
    go_enter Tryz.func75, Tryz.ntmps75
    go_wp2_with fail
    refine (PA.out _).mono ?_
    rintro e w' ⟨rfl, rfl⟩
    go_wp2
    go_ret
    exact ⟨bool_eq HK.out.symm, rfl⟩
theorem count_any (ae p : Int) (w : World) (h : lenB ae p = true) : Calls Tryz.prog 76 #[.int .i64 ae, .int .i64 p] w fun e w' => e = .returned (.int .i64 (countN ae p : Nat)) ∧ w = w' := by
  have hr := len_range h
  have hc := count_le h
  have P1 := Lib.hid (fun V => Pre.least_any p V (by omega))
  by_cases h3 : ae = 3
  · subst h3
    have HK0 : ((countN 3 p : Nat) : Int) = (leastN p : Int) - 8 := by have : baseN 3 = 8 := rfl; omega
    have hw : wrap64 ((leastN p : Int) - 8) = (leastN p : Int) - 8 := IntWalk.wrap64_in _ ⟨by omega, by have := hc.1; have : baseN 3 = 8 := rfl; omega⟩
    have HK := Lib.hid (hw.trans HK0.symm)
    clear hw HK0
    generalize countN 3 p = c at *
    generalize leastN p = n at *
    clear hr hc h
    go_enter Tryz.func76, Tryz.ntmps76
    go_wp2_with fail
    refine (P1.out _).mono ?_
    rintro r w' ⟨rfl, rfl⟩
    go_wp2
    go_ret
    exact ⟨int_eq HK.out, rfl⟩
  have HK := Lib.hid (show ((countN ae p : Nat) : Int) = (leastN p : Int) from by
    have : baseN ae = 0 := by unfold baseN; rw [if_neg h3]
    omega)
  have e3 : (ae == 3) = false := by simpa using h3
  generalize countN ae p = c at *
  generalize leastN p = n at *
  clear hr hc h
  go_enter Tryz.func76, Tryz.ntmps76
  go_wp2_with fail
  refine (P1.out _).mono ?_
  rintro r w' ⟨rfl, rfl⟩
  go_wp2
  go_ret
  exact ⟨int_eq HK.out.symm, rfl⟩
theorem adr_size {ae : Int} {a : ByteArray} {p : Int} (h : inB ae a p = true) : a.size ≤ 16 := by
  rcases (in_cases h).2 with ⟨_, h0⟩ | ⟨⟨_, h0⟩ | ⟨_, h0⟩ | ⟨_, h0⟩, _⟩
  · omega
  · omega
  · omega
  · have := link_size h0; omega
theorem lay_size {ae : Int} {s : ByteArray} {p : Int} (hl : lenB ae p = true) (hs : s.size = countN ae p) : s.size ≤ 16 := by have := (count_le hl).1; omega
set_option maxHeartbeats 1600000 in
theorem fill_any (ae : Int) (s : ByteArray) (p : Int) (w : World) (hl : lenB ae p = true) (hs : s.size = countN ae p) : Calls Tryz.prog 46 #[.int .i64 ae, .string s, .int .i64 p] w fun e w' => e = .returned (.string (wholeP ae s p)) ∧ Below w.heap.size w w' := by
  have hr := len_range hl
  have hz := lay_size hl hs
  have hc := (count_le hl).2
  have P1 := Lib.hid (fun V => Pre.cut_any s p V (by omega) (by omega))
  have hcl : (cutL s.data.toList p).length ≤ 16 := by
    unfold cutL
    rw [List.length_take, keepL_length, size_list]; omega
  rcases len_cases hl with ⟨rfl, rfl⟩ | ⟨rfl, a, b⟩ | ⟨rfl, a, b⟩ | ⟨rfl, a, b⟩
  · have HK := Lib.hid (show wholeP 0 s 0 = ⟨#[]⟩ from rfl)
    generalize wholeP 0 s 0 = y at *
    clear hr hz hc hl hs hcl
    go_enter Tryz.func46, Tryz.ntmps46
    go_wp2
    go_ret
    exact ⟨str_eq HK.out.symm, Below.refl _ _⟩
  · have hn : s.data.toList.length = leastN p := by rw [size_list]; have : baseN 1 = 0 := rfl; omega
    have HK := Lib.hid (show (⟨(fillL (ByteArray.mk (cutL s.data.toList p).toArray).data.toList (4 : Int).toNat).toArray⟩ : ByteArray) = wholeP 1 s p by
      have : fillL (cutL s.data.toList p) 4 = keepL (fillL s.data.toList 4) p.toNat := cut_fill a (by omega) hn
      show (⟨(fillL (cutL s.data.toList p) 4).toArray⟩ : ByteArray) = _
      rw [this]
      rfl)
    have P2 := Lib.hid (fun V => Pre.fill_any (ByteArray.mk (cutL s.data.toList p).toArray) 4 V (by rw [mk_size]; omega) (by decide))
    rw [HK.out] at P2
    generalize ByteArray.mk (cutL s.data.toList p).toArray = x at *
    generalize wholeP 1 s p = y at *
    clear hr hz hc hl hs hcl HK hn a b
    go_enter Tryz.func46, Tryz.ntmps46
    go_wp2_with fail
    refine (P1.out _).mono ?_
    rintro r w' ⟨rfl, hb⟩
    have HB := Lib.hid hb
    clear hb
    go_wp2_with fail
    refine (P2.out _).mono ?_
    rintro r w2 ⟨rfl, hb⟩
    go_wp2
    go_ret
    exact ⟨rfl, bcall HB.out hb⟩
  · have hn : s.data.toList.length = leastN p := by rw [size_list]; have : baseN 2 = 0 := rfl; omega
    have HK := Lib.hid (show (⟨(fillL (ByteArray.mk (cutL s.data.toList p).toArray).data.toList (16 : Int).toNat).toArray⟩ : ByteArray) = wholeP 2 s p by
      have : fillL (cutL s.data.toList p) 16 = keepL (fillL s.data.toList 16) p.toNat := cut_fill a (by omega) hn
      show (⟨(fillL (cutL s.data.toList p) 16).toArray⟩ : ByteArray) = _
      rw [this]
      rfl)
    have P2 := Lib.hid (fun V => Pre.fill_any (ByteArray.mk (cutL s.data.toList p).toArray) 16 V (by rw [mk_size]; omega) (by decide))
    rw [HK.out] at P2
    generalize ByteArray.mk (cutL s.data.toList p).toArray = x at *
    generalize wholeP 2 s p = y at *
    clear hr hz hc hl hs hcl HK hn a b
    go_enter Tryz.func46, Tryz.ntmps46
    go_wp2_with fail
    refine (P1.out _).mono ?_
    rintro r w' ⟨rfl, hb⟩
    have HB := Lib.hid hb
    clear hb
    go_wp2_with fail
    refine (P2.out _).mono ?_
    rintro r w2 ⟨rfl, hb⟩
    go_wp2
    go_ret
    exact ⟨rfl, bcall HB.out hb⟩
  · have hb8 : baseN 3 = 8 := rfl
    have hcn : leastN p ≤ 16 := by unfold leastN; omega
    have hfl : (fillL s.data.toList 8).length = 8 := fillL_length _ _ (by rw [size_list]; omega)
    have P2 := Lib.hid (fun V => Pre.fill_any s 8 V (by omega) (by decide))
    have HG := Lib.hid (show lgA ⟨(fillL s.data.toList (8 : Int).toNat).toArray⟩ = ⟨(wholeL 3 s).toArray⟩ from by
      have hz8 : (ByteArray.mk (fillL s.data.toList 8).toArray).size = 8 := by rw [mk_size, hfl]
      show lgA ⟨(fillL s.data.toList 8).toArray⟩ = _
      unfold lgA
      rw [if_pos hz8]
      exact text_eq (by show _ = lkH.data.toList ++ fillL s.data.toList 8; simp [ByteArray.data_append]))
    have P3 := Lib.hid (fun V => long_any ⟨(fillL s.data.toList (8 : Int).toNat).toArray⟩ V)
    rw [HG.out] at P3
    have hw16 : (wholeL 3 s).length = 16 := by have := whole_len hl hs; simpa using this
    have P4 := Lib.hid (fun V => Pre.cut_any ⟨(wholeL 3 s).toArray⟩ p V (by rw [mk_size]; omega) (by omega))
    have hcl2 : (cutL (wholeL 3 s) p).length ≤ 16 := by unfold cutL; rw [List.length_take, keepL_length]; omega
    have P5 := Lib.hid (fun V => Pre.fill_any ⟨(cutL (wholeL 3 s) p).toArray⟩ 16 V (by rw [mk_size]; omega) (by decide))
    have HK := Lib.hid (show (⟨(fillL (ByteArray.mk (cutL (wholeL 3 s) p).toArray).data.toList (16 : Int).toNat).toArray⟩ : ByteArray) = wholeP 3 s p by
      show (⟨(fillL (cutL (wholeL 3 s) p) 16).toArray⟩ : ByteArray) = _
      rw [cut_fill16 (by omega) b hw16]
      rfl)
    rw [HK.out] at P5
    have P4 := Lib.hid (show ∀ V, Calls Tryz.prog 81 #[.string ⟨(wholeL 3 s).toArray⟩, .int .i64 p] V fun e w' => e = .returned (.string ⟨(cutL (wholeL 3 s) p).toArray⟩) ∧ Below V.heap.size V w' from P4.out)
    generalize ByteArray.mk (cutL (wholeL 3 s) p).toArray = x at *
    generalize wholeP 3 s p = y at *
    generalize ByteArray.mk (wholeL 3 s).toArray = z at *
    generalize (⟨(fillL s.data.toList (8 : Int).toNat).toArray⟩ : ByteArray) = u at *
    clear hr hz hc hl hs hcl HK HG hb8 hcn hfl hw16 hcl2 a b P1
    go_enter Tryz.func46, Tryz.ntmps46
    go_wp2_with fail
    refine (P2.out _).mono ?_
    rintro r w' ⟨rfl, hb⟩
    have HB := Lib.hid hb
    clear hb
    go_wp2_with fail
    refine (P3.out _).mono ?_
    rintro r w' ⟨rfl, rfl⟩
    go_wp2_with fail
    refine (P4.out _).mono ?_
    rintro r w2 ⟨rfl, hb⟩
    have HB := Lib.hid (bcall HB.out hb)
    clear hb
    go_wp2_with fail
    refine (P5.out _).mono ?_
    rintro r w3 ⟨rfl, hb⟩
    go_wp2
    go_ret
    exact ⟨rfl, bcall HB.out hb⟩
theorem seq_is (m : M) : seqB m = (!decide (m.ae = 0) && (fitsB m.seq 2 && (decide (m.id.size = 8) && (decide (1 ≤ m.hops) && fitsB m.hops 1)))) := rfl
set_option maxHeartbeats 3200000 in
theorem kind_any (m : M) (w : World) : Calls Tryz.prog 45 #[.agg m.cells] w fun e w' => e = .returned (.bool (kindB m)) ∧ Below w.heap.size w w' := by
  have HB := Lib.hid (balloc (Below.refl _ w) (.cells m.cells 43))
  have b0 := Bx.new w m
  by_cases h12 : m.kind = 12
  · have HK := Lib.hid (show kindB m = true by unfold kindB; rw [if_pos h12])
    go_enter Tryz.func45, Tryz.ntmps45
    go_upto_region 1 with fail
    generalize w.alloc (.cells m.cells 43) = V at *
    have c0 := b0.cs.c0
    have c5 := b0.cs.c5
    have c11 := b0.cs.c11
    have c12 := b0.cs.c12
    have c16 := b0.cs.c16
    clear b0
    rw [h12] at c0
    go_wp2
    go_ret
    exact ⟨bool_eq HK.out.symm, HB.out⟩
  by_cases h13 : m.kind = 13
  rotate_left
  · have HK := Lib.hid (show kindB m = false by unfold kindB; rw [if_neg h12, if_neg h13])
    have e12 : (m.kind == 12) = false := by simpa using h12
    have e13 : (m.kind == 13) = false := by simpa using h13
    go_enter Tryz.func45, Tryz.ntmps45
    go_upto_region 1 with fail
    generalize w.alloc (.cells m.cells 43) = V at *
    have c0 := b0.cs.c0
    have c5 := b0.cs.c5
    have c11 := b0.cs.c11
    have c12 := b0.cs.c12
    have c16 := b0.cs.c16
    clear b0
    go_wp2
    go_ret
    exact ⟨bool_eq HK.out.symm, HB.out⟩
  have HK := Lib.hid (show kindB m = (!decide (m.ae = 0) && (fitsB m.seq 2 && (decide (m.id.size = 8) && (decide (1 ≤ m.hops) && fitsB m.hops 1)))) by unfold kindB; rw [if_neg h12, if_pos h13, seq_is])
  have P1 := Lib.hid (fun V => Oct.fits_any m.seq 2 V)
  have P2 := Lib.hid (fun V => Oct.fits_any m.hops 1 V)
  generalize kindB m = y at *
  generalize fitsB m.seq 2 = x1 at *
  generalize fitsB m.hops 1 = x2 at *
  by_cases h0 : m.ae = 0
  · rw [decide_eq_true h0] at HK
    go_enter Tryz.func45, Tryz.ntmps45
    go_upto_region 1 with fail
    generalize w.alloc (.cells m.cells 43) = V at *
    have c0 := b0.cs.c0
    have c5 := b0.cs.c5
    have c11 := b0.cs.c11
    have c12 := b0.cs.c12
    have c16 := b0.cs.c16
    clear b0
    rw [h13] at c0
    rw [h0] at c5
    clear h0 h12 h13
    go_wp2
    go_ret
    exact ⟨bool_eq HK.out.symm, HB.out⟩
  have e0 : (m.ae == 0) = false := by simpa using h0
  have e1 : (m.ae != 0) = true := by rw [bne, e0]; rfl
  rw [decide_eq_false h0] at HK
  cases x1
  · go_enter Tryz.func45, Tryz.ntmps45
    go_upto_region 1 with fail
    generalize w.alloc (.cells m.cells 43) = V at *
    have c0 := b0.cs.c0
    have c5 := b0.cs.c5
    have c11 := b0.cs.c11
    have c12 := b0.cs.c12
    have c16 := b0.cs.c16
    clear b0
    rw [h13] at c0
    clear h0 h12 h13
    go_wp2_with fail
    refine (P1.out _).mono ?_
    rintro r w' ⟨rfl, rfl⟩
    go_wp2
    go_ret
    exact ⟨bool_eq HK.out.symm, HB.out⟩
  have e2 : ((m.id.size : Int) == 8) = decide (m.id.size = 8) := size_eq m.id 8
  by_cases h8 : m.id.size = 8
  rotate_left
  · rw [decide_eq_false h8] at HK e2
    clear h8
    go_enter Tryz.func45, Tryz.ntmps45
    go_upto_region 1 with fail
    generalize w.alloc (.cells m.cells 43) = V at *
    have c0 := b0.cs.c0
    have c5 := b0.cs.c5
    have c11 := b0.cs.c11
    have c12 := b0.cs.c12
    have c16 := b0.cs.c16
    clear b0
    rw [h13] at c0
    clear h0 h12 h13
    go_wp2_with fail
    refine (P1.out _).mono ?_
    rintro r w' ⟨rfl, rfl⟩
    go_wp2
    go_ret
    exact ⟨bool_eq HK.out.symm, HB.out⟩
  rw [decide_eq_true h8] at HK e2
  clear h8
  by_cases h1 : 1 ≤ m.hops
  rotate_left
  · rw [decide_eq_false h1] at HK
    go_enter Tryz.func45, Tryz.ntmps45
    go_upto_region 1 with fail
    generalize w.alloc (.cells m.cells 43) = V at *
    have c0 := b0.cs.c0
    have c5 := b0.cs.c5
    have c11 := b0.cs.c11
    have c12 := b0.cs.c12
    have c16 := b0.cs.c16
    clear b0
    rw [h13] at c0
    clear h0 h12 h13
    go_wp2_with fail
    refine (P1.out _).mono ?_
    rintro r w' ⟨rfl, rfl⟩
    go_wp2
    go_ret
    exact ⟨bool_eq HK.out.symm, HB.out⟩
  rw [decide_eq_true h1] at HK
  go_enter Tryz.func45, Tryz.ntmps45
  go_upto_region 1 with fail
  generalize w.alloc (.cells m.cells 43) = V at *
  have c0 := b0.cs.c0
  have c5 := b0.cs.c5
  have c11 := b0.cs.c11
  have c12 := b0.cs.c12
  have c16 := b0.cs.c16
  clear b0
  rw [h13] at c0
  clear h0 h12 h13
  go_wp2_with fail
  refine (P1.out _).mono ?_
  rintro r w' ⟨rfl, rfl⟩
  go_wp2_with fail
  refine (P2.out _).mono ?_
  rintro r w' ⟨rfl, rfl⟩
  go_wp2
  go_ret
  exact ⟨bool_eq HK.out.symm, HB.out⟩
theorem base_any (ae : Int) (w : World) : Calls Tryz.prog 56 #[.int .i64 ae] w fun e w' => e = .returned (.int .i64 (baseN ae : Nat)) ∧ w = w' := by
  by_cases h3 : ae = 3
  · subst h3
    have HK := Lib.hid (show ((baseN 3 : Nat) : Int) = 8 from rfl)
    go_enter Tryz.func56, Tryz.ntmps56
    go_wp2
    go_ret
    exact ⟨rfl, rfl⟩
  have HK := Lib.hid (show ((baseN ae : Nat) : Int) = 0 by unfold baseN; rw [if_neg h3]; rfl)
  have e3 : (ae == 3) = false := by simpa using h3
  go_enter Tryz.func56, Tryz.ntmps56
  go_wp2
  go_ret
  exact ⟨int_eq HK.out.symm, rfl⟩
set_option maxHeartbeats 1600000 in
theorem great_any (ae p : Int) (w : World) (h0 : 0 ≤ ae) (h3 : ae ≤ 3) (hp : 0 ≤ p) : Calls Tryz.prog 54 #[.int .i64 ae, .int .i64 p] w fun e w' => e = .returned (.bool (!lenB ae p)) ∧ w = w' := by
  rcases (show ae = 0 ∨ ae = 1 ∨ ae = 2 ∨ ae = 3 by omega) with rfl | rfl | rfl | rfl
  · clear h0 h3
    have hl : minA 0 ≤ p := hp
    by_cases hh : p ≤ 0
    rotate_left
    · have HK := Lib.hid (show (!lenB 0 p) = true by rw [len_is, decide_eq_false (show ¬ p ≤ maxA 0 from hh), Bool.and_false, Bool.and_false, Bool.and_false]; rfl)
      generalize (!lenB 0 p) = y at *
      have hq : (p == 0) = false := by simpa using (show ¬ p = 0 by omega)
      have hq2 : (p != 0) = true := by rw [bne, hq]; rfl
      go_enter Tryz.func54, Tryz.ntmps54
      go_wp2
      go_ret
      exact ⟨bool_eq HK.out.symm, rfl⟩
    have HK := Lib.hid (show (!lenB 0 p) = false by rw [len_is, decide_eq_true (show minA 0 ≤ p from hl), decide_eq_true (show p ≤ maxA 0 from hh)]; rfl)
    generalize (!lenB 0 p) = y at *
    obtain rfl : p = 0 := by omega
    go_enter Tryz.func54, Tryz.ntmps54
    go_wp2
    go_ret
    exact ⟨bool_eq HK.out.symm, rfl⟩
  · clear h0 h3
    have hl : minA 1 ≤ p := hp
    by_cases hh : p ≤ 32
    rotate_left
    · have HK := Lib.hid (show (!lenB 1 p) = true by rw [len_is, decide_eq_false (show ¬ p ≤ maxA 1 from hh), Bool.and_false, Bool.and_false, Bool.and_false]; rfl)
      generalize (!lenB 1 p) = y at *
      have hh2 : 32 < p := by omega
      go_enter Tryz.func54, Tryz.ntmps54
      go_wp2
      go_ret
      exact ⟨bool_eq HK.out.symm, rfl⟩
    have HK := Lib.hid (show (!lenB 1 p) = false by rw [len_is, decide_eq_true (show minA 1 ≤ p from hl), decide_eq_true (show p ≤ maxA 1 from hh)]; rfl)
    generalize (!lenB 1 p) = y at *
    have hh2 : ¬ 32 < p := by omega
    go_enter Tryz.func54, Tryz.ntmps54
    go_wp2
    go_ret
    exact ⟨bool_eq HK.out.symm, rfl⟩
  · clear h0 h3
    have hl : minA 2 ≤ p := hp
    by_cases hh : p ≤ 128
    rotate_left
    · have HK := Lib.hid (show (!lenB 2 p) = true by rw [len_is, decide_eq_false (show ¬ p ≤ maxA 2 from hh), Bool.and_false, Bool.and_false, Bool.and_false]; rfl)
      generalize (!lenB 2 p) = y at *
      have hh2 : 128 < p := by omega
      go_enter Tryz.func54, Tryz.ntmps54
      go_wp2
      go_ret
      exact ⟨bool_eq HK.out.symm, rfl⟩
    have HK := Lib.hid (show (!lenB 2 p) = false by rw [len_is, decide_eq_true (show minA 2 ≤ p from hl), decide_eq_true (show p ≤ maxA 2 from hh)]; rfl)
    generalize (!lenB 2 p) = y at *
    have hh2 : ¬ 128 < p := by omega
    go_enter Tryz.func54, Tryz.ntmps54
    go_wp2
    go_ret
    exact ⟨bool_eq HK.out.symm, rfl⟩
  · clear h0 h3
    by_cases hl : 64 ≤ p
    rotate_left
    · have HK := Lib.hid (show (!lenB 3 p) = true by rw [len_is, decide_eq_false (show ¬ minA 3 ≤ p from hl)]; rfl)
      generalize (!lenB 3 p) = y at *
      have hh : ¬ 128 < p := by omega
      go_enter Tryz.func54, Tryz.ntmps54
      go_wp2
      go_ret
      exact ⟨bool_eq HK.out.symm, rfl⟩
    by_cases hh : p ≤ 128
    rotate_left
    · have HK := Lib.hid (show (!lenB 3 p) = true by rw [len_is, decide_eq_false (show ¬ p ≤ maxA 3 from hh), Bool.and_false, Bool.and_false, Bool.and_false]; rfl)
      generalize (!lenB 3 p) = y at *
      have hh2 : 128 < p := by omega
      go_enter Tryz.func54, Tryz.ntmps54
      go_wp2
      go_ret
      exact ⟨bool_eq HK.out.symm, rfl⟩
    have HK := Lib.hid (show (!lenB 3 p) = false by rw [len_is, decide_eq_true (show minA 3 ≤ p from hl), decide_eq_true (show p ≤ maxA 3 from hh)]; rfl)
    generalize (!lenB 3 p) = y at *
    have hh2 : ¬ 128 < p := by omega
    go_enter Tryz.func54, Tryz.ntmps54
    go_wp2
    go_ret
    exact ⟨bool_eq (by rw [HK.out]; exact decide_eq_false (by omega)), rfl⟩
set_option maxHeartbeats 1600000 in
theorem rwhole_any (ae : Int) (s : ByteArray) (p : Int) (w : World) (hl : lenB ae p = true) (hs : s.size = countN ae p) : Calls Tryz.prog 57 #[.int .i64 ae, .string s, .int .i64 p] w fun e w' => e = .returned (.string (wholeP ae s p)) ∧ Below w.heap.size w w' := by
  have hz := lay_size hl hs
  have hwl := whole_len hl hs
  have P2 := Lib.hid (fun V => Bits.rkeep_any ⟨(wholeL ae s).toArray⟩ p V (by rw [mk_size, hwl]; split <;> (try split) <;> omega))
  have P2 := Lib.hid (show ∀ V, Calls Tryz.prog 87 #[.string ⟨(wholeL ae s).toArray⟩, .int .i64 p] V fun e w' => e = .returned (.string (wholeP ae s p)) ∧ Below V.heap.size V w' from P2.out)
  rcases len_cases hl with ⟨rfl, rfl⟩ | ⟨rfl, a, b⟩ | ⟨rfl, a, b⟩ | ⟨rfl, a, b⟩
  · have HK := Lib.hid (show wholeP 0 s 0 = ⟨#[]⟩ from rfl)
    generalize wholeP 0 s 0 = y at *
    clear hz hwl hl hs P2
    go_enter Tryz.func57, Tryz.ntmps57
    go_wp2
    go_ret
    exact ⟨str_eq HK.out.symm, Below.refl _ _⟩
  · have P1 := Lib.hid (fun V => Pre.rfill_any s 4 V (by omega) (by decide))
    have P1 := Lib.hid (show ∀ V, Calls Tryz.prog 88 #[.string s, .int .i64 4] V fun e w' => e = .returned (.string ⟨(wholeL 1 s).toArray⟩) ∧ V = w' from P1.out)
    generalize wholeP 1 s p = y at *
    generalize ByteArray.mk (wholeL 1 s).toArray = x at *
    clear hz hwl hl hs a b
    go_enter Tryz.func57, Tryz.ntmps57
    go_wp2_with fail
    refine (P1.out _).mono ?_
    rintro r w' ⟨rfl, rfl⟩
    go_wp2_with fail
    refine (P2.out _).mono ?_
    rintro r w' ⟨rfl, hb⟩
    go_wp2
    go_ret
    exact ⟨rfl, hb⟩
  · have P1 := Lib.hid (fun V => Pre.rfill_any s 16 V (by omega) (by decide))
    have P1 := Lib.hid (show ∀ V, Calls Tryz.prog 88 #[.string s, .int .i64 16] V fun e w' => e = .returned (.string ⟨(wholeL 2 s).toArray⟩) ∧ V = w' from P1.out)
    generalize wholeP 2 s p = y at *
    generalize ByteArray.mk (wholeL 2 s).toArray = x at *
    clear hz hwl hl hs a b
    go_enter Tryz.func57, Tryz.ntmps57
    go_wp2_with fail
    refine (P1.out _).mono ?_
    rintro r w' ⟨rfl, rfl⟩
    go_wp2_with fail
    refine (P2.out _).mono ?_
    rintro r w' ⟨rfl, hb⟩
    go_wp2
    go_ret
    exact ⟨rfl, hb⟩
  · have P1 := Lib.hid (fun V => Pre.rfill_any s 8 V (by omega) (by decide))
    have hb8 : baseN 3 = 8 := rfl
    have hcn : leastN p ≤ 16 := by unfold leastN; omega
    have hfl : (fillL s.data.toList 8).length = 8 := fillL_length _ _ (by rw [size_list]; have := (count_le hl).2; omega)
    have HG := Lib.hid (show lgA ⟨(fillL s.data.toList (8 : Int).toNat).toArray⟩ = ⟨(wholeL 3 s).toArray⟩ from by
      have hz8 : (ByteArray.mk (fillL s.data.toList 8).toArray).size = 8 := by rw [mk_size, hfl]
      show lgA ⟨(fillL s.data.toList 8).toArray⟩ = _
      unfold lgA
      rw [if_pos hz8]
      exact text_eq (by show _ = lkH.data.toList ++ fillL s.data.toList 8; simp [ByteArray.data_append]))
    have P3 := Lib.hid (fun V => rlong_any ⟨(fillL s.data.toList (8 : Int).toNat).toArray⟩ V)
    rw [HG.out] at P3
    generalize wholeP 3 s p = y at *
    generalize ByteArray.mk (wholeL 3 s).toArray = x at *
    generalize (⟨(fillL s.data.toList (8 : Int).toNat).toArray⟩ : ByteArray) = u at *
    clear hz hwl hl hs a b HG hb8 hcn hfl
    go_enter Tryz.func57, Tryz.ntmps57
    go_wp2_with fail
    refine (P1.out _).mono ?_
    rintro r w' ⟨rfl, rfl⟩
    go_wp2_with fail
    refine (P3.out _).mono ?_
    rintro r w1 ⟨rfl, hb⟩
    have HB := Lib.hid hb
    clear hb
    go_wp2_with fail
    refine (P2.out _).mono ?_
    rintro r w2 ⟨rfl, hb⟩
    go_wp2
    go_ret
    exact ⟨rfl, bcall HB.out hb⟩
end Go.Proofs.YtpkmpinbpfblfaaGreatDoor.J2
namespace Go.Proofs.YtpkmpinbpfblfaaGreatDoor.K2
open Go.ChangeShapes Go.WideShapes Go.ChangeAt Go.RowKit
open Go.Proofs.YtpkmpinbpfblfaaGreatDoor.Ms
open Go.Proofs.YtpkmpinbpfblfaaGreatDoor.Box
open Go.Proofs.YtpkmpinbpfblfaaGreatDoor.S1
open Go.Proofs.YtpkmpinbpfblfaaGreatDoor.Lk (link link_any rlink_bel)
open Go.Proofs.YtpkmpinbpfblfaaGreatDoor.J1
open Go.Proofs.YtpkmpinbpfblfaaGreatDoor.J2 (int_eq str_eq nil_eq nil_em size_eq)
open Go.Proofs.YtpkmpinbpfblfaaGreatDoor.An
open Go.Proofs.YtpkmpinbpfblfaaGreatDoor.Tc
open Go.Proofs.YtpkmpinbpfblfaaGreatDoor.K1
open Go.Proofs.YtpkmpinbpfblfaaGreatDoor.Kb
open Go.Proofs.YtpkmpinbpfblfaaGreatDoor.Oct (fitsB)
open Go.Proofs.YtpkmpinbpfblfaaGreatDoor.Bk (Bk alloc_size)
open Go.Proofs.YtpkmpinbpfblfaaGreatDoor.Hs
open Go.Proofs.YtpkmpinbpfblfaaGreatDoor.Or (st_yes)
set_option linter.unusedVariables false
set_option maxRecDepth 100000
set_option maxRecDepth 100000
theorem fam_any (ae : Int) (w : World) : Calls Tryz.prog 93 #[.int .i64 ae] w fun e w' => e = .returned (.int .i64 (fam ae)) ∧ w = w' := by
  by_cases h1 : ae = 1
  · subst h1
    have HK := Lib.hid (show fam 1 = 0 from rfl)
    go_enter Tryz.func93, Tryz.ntmps93
    go_wp2
    go_ret
    exact ⟨int_eq HK.out.symm, rfl⟩
  by_cases h2 : ae = 2
  · subst h2
    have HK := Lib.hid (show fam 2 = 1 from rfl)
    go_enter Tryz.func93, Tryz.ntmps93
    go_wp2
    go_ret
    exact ⟨int_eq HK.out.symm, rfl⟩
  by_cases h3 : ae = 3
  · subst h3
    have HK := Lib.hid (show fam 3 = 1 from rfl)
    go_enter Tryz.func93, Tryz.ntmps93
    go_wp2
    go_ret
    exact ⟨int_eq HK.out.symm, rfl⟩
  have HK := Lib.hid (show fam ae = -1 by unfold fam; rw [if_neg h1, if_neg (fun h => h.elim h2 h3)])
  have e1 : (ae == 1) = false := by simpa using h1
  have e2 : (ae == 2) = false := by simpa using h2
  have e3 : (ae == 3) = false := by simpa using h3
  go_enter Tryz.func93, Tryz.ntmps93
  go_wp2
  go_ret
  exact ⟨int_eq HK.out.symm, rfl⟩
theorem rfam_any (ae : Int) (w : World) : Calls Tryz.prog 83 #[.int .i64 ae] w fun e w' => e = .returned (.int .i64 (fam ae)) ∧ w = w' := by
  by_cases h1 : ae = 1
  · subst h1
    have HK := Lib.hid (show fam 1 = 0 from rfl)
    go_enter Tryz.func83, Tryz.ntmps83
    go_wp2
    go_ret
    exact ⟨int_eq HK.out.symm, rfl⟩
  by_cases h2 : ae = 2
  · subst h2
    have HK := Lib.hid (show fam 2 = 1 from rfl)
    go_enter Tryz.func83, Tryz.ntmps83
    go_wp2
    go_ret
    exact ⟨int_eq HK.out.symm, rfl⟩
  by_cases h3 : ae = 3
  · subst h3
    have HK := Lib.hid (show fam 3 = 1 from rfl)
    go_enter Tryz.func83, Tryz.ntmps83
    go_wp2
    go_ret
    exact ⟨int_eq HK.out.symm, rfl⟩
  have HK := Lib.hid (show fam ae = -1 by unfold fam; rw [if_neg h1, if_neg (fun h => h.elim h2 h3)])
  have e1 : (ae == 1) = false := by simpa using h1
  have e2 : (ae == 2) = false := by simpa using h2
  have e3 : (ae == 3) = false := by simpa using h3
  go_enter Tryz.func83, Tryz.ntmps83
  go_wp2
  go_ret
  exact ⟨int_eq HK.out.symm, rfl⟩
/-- A part of a block, loaded whole. -/
theorem loadVarAt {P : Program} {w : World} {b off : Nat} {T tb : TypeId} {cs : Array Value} {l : List Value} (hb : Bk tb w b cs) (hl : ∀ j v, l[j]? = some v → cs[off + j]? = some v) (hagg : (isAgg T).run P w = .ok true w) (hsz : (sizeOf T).run P w = .ok l.length w) :
    (loadVar T ⟨b, off, none⟩).run P w = .ok (.agg l.toArray) w := by
  have h2 : (loadCells ⟨b, off, none⟩ l.length).run P w = .ok l.toArray w := run_loadCells_list (P := P) w ⟨b, off, none⟩ l (fun j v hv => by
    rw [Ap.add_at]
    exact hb.cell (off + j) v (hl j v hv))
  simp only [loadVar, Sem.run_bind, hagg, Result.andThen_ok, if_true, hsz, h2, Sem.run_pure]
theorem run_loadAt {P : Program} {o : Oper} {ρ : Operand → Value} {x : Operand} {w : World} {b off : Nat} {T tb : TypeId} {cs : Array Value} {l : List Value} (ho : o.op = .load T x) (hx : ρ x = .pointer (some ⟨b, off, none⟩)) (hb : Bk tb w b cs) (hl : ∀ j v, l[j]? = some v → cs[off + j]? = some v) (hagg : (isAgg T).run P w = .ok true w) (hsz : (sizeOf T).run P w = .ok l.length w) :
    (execOp ρ o).run P w = .ok (.value (.agg l.toArray)) w := by
  unfold execOp
  simp only [ho, hx, Instr.loadAt, Instr.sureAddr, Sem.run_bind, Sem.run_pure, Result.andThen_ok, loadVarAt hb hl hagg hsz]
theorem wpList_loadAt {P : Program} {ops : Array Oper} {rest : List Oper} {o : Oper} {a : Act} {w : World} {Q : Exit → Act → World → Prop} (hgd : o.guard = none) {T tb : TypeId} (x : Operand) (ho : o.op = .load T x) {b off : Nat} (hx : a.eval x = .pointer (some ⟨b, off, none⟩)) {cs : Array Value} {l : List Value} (hb : Bk tb w b cs)
    (hl : ∀ j v, l[j]? = some v → cs[off + j]? = some v) (hagg : (isAgg T).run P w = .ok true w) (hsz : (sizeOf T).run P w = .ok l.length w) (h : wpList P ops Q rest (a.put o.dst (.agg l.toArray)) w) : wpList P ops Q (o :: rest) a w :=
  wpList_plain hgd fun K hK => by
    unfold Oper.wp
    rw [run_loadAt ho hx hb hl hagg hsz]
    exact hK _ _ h
theorem agg4 (w : World) : (isAgg 32).run Tryz.prog w = .ok true w := by go_simp
theorem aggX (w : World) : (isAgg 35).run Tryz.prog w = .ok true w := by go_simp
theorem size4 (w : World) : (sizeOf 32).run Tryz.prog w = .ok 4 w := by go_simp
theorem sizeX (w : World) : (sizeOf 35).run Tryz.prog w = .ok 7 w := by go_simp
theorem four_in (c : Kx) : ∀ j v, ([Value.string c.p0, .string c.p1, .string c.p2, .string c.p3] : List Value)[j]? = some v → c.cells[0 + j]? = some v := by
  intro j v hv
  match j, hv with
  | 0, hv => exact hv
  | 1, hv => exact hv
  | 2, hv => exact hv
  | 3, hv => exact hv
  | j + 4, hv => cases hv
end Go.Proofs.YtpkmpinbpfblfaaGreatDoor.K2
namespace Go.Proofs.YtpkmpinbpfblfaaGreatDoor.Rg
open Go.ChangeShapes Go.WideShapes Go.ChangeAt Go.RowKit
open Go.Proofs.YtpkmpinbpfblfaaGreatDoor.Ms
open Go.Proofs.YtpkmpinbpfblfaaGreatDoor.Box
open Go.Proofs.YtpkmpinbpfblfaaGreatDoor.Cur (numL num_yes num_no text_yes text_no hasB)
open Go.Proofs.YtpkmpinbpfblfaaGreatDoor.Bk (Bk cur cur_one)
set_option linter.unusedVariables false
set_option maxRecDepth 100000
set_option maxRecDepth 100000
/-- May k bytes be taken at a place? -/
def okR (s : ByteArray) (p : Nat × Bool) (k : Nat) : Bool := !p.2 && decide (p.1 + k ≤ s.size)
/-- The place behind; the number, the text there. -/
def nx (s : ByteArray) (k : Nat) (p : Nat × Bool) : Nat × Bool := if okR s p k then (p.1 + k, false) else (p.1, true)
def rdV (s : ByteArray) (p : Nat × Bool) (k : Nat) : Int := if okR s p k then ((numL ((s.data.toList.drop p.1).take k) : Nat) : Int) else 0
def rdT (s : ByteArray) (p : Nat × Bool) (k : Nat) : ByteArray := if okR s p k then s.extract p.1 (p.1 + k) else ⟨#[]⟩
theorem ok_yes {s : ByteArray} {a k : Nat} (h : a + k ≤ s.size) : okR s (a, false) k = true := by unfold okR; simp [h]
theorem ok_no {s : ByteArray} {a k : Nat} (h : ¬ a + k ≤ s.size) : okR s (a, false) k = false := by unfold okR; simp; omega
theorem ok_bad (s : ByteArray) (a k : Nat) : okR s (a, true) k = false := rfl
theorem ok_cases {s : ByteArray} {a k : Nat} {y : Bool} (h : okR s (a, y) k = true) : y = false ∧ a + k ≤ s.size := by unfold okR at h; simpa using h
theorem nx_yes {s : ByteArray} {a k : Nat} (h : a + k ≤ s.size) : nx s k (a, false) = (a + k, false) := by unfold nx; rw [if_pos (ok_yes h)]
theorem nx_no {s : ByteArray} {a k : Nat} (h : ¬ a + k ≤ s.size) : nx s k (a, false) = (a, true) := by unfold nx; rw [ok_no h]; rfl
theorem nx_bad {s : ByteArray} {k : Nat} {p : Nat × Bool} (h : p.2 = true) : (nx s k p).2 = true := by
  obtain ⟨a, y⟩ := p
  simp only [] at h
  subst h
  unfold nx; rw [ok_bad]; rfl
theorem v_yes {s : ByteArray} {a k : Nat} (h : a + k ≤ s.size) : rdV s (a, false) k = ((numL ((s.data.toList.drop a).take k) : Nat) : Int) := by unfold rdV; rw [if_pos (ok_yes h)]
theorem t_yes {s : ByteArray} {a k : Nat} (h : a + k ≤ s.size) : rdT s (a, false) k = s.extract a (a + k) := by unfold rdT; rw [if_pos (ok_yes h)]
theorem v_no {s : ByteArray} {p : Nat × Bool} {k : Nat} (h : okR s p k = false) : rdV s p k = 0 := by unfold rdV; rw [h]; rfl
theorem t_no {s : ByteArray} {p : Nat × Bool} {k : Nat} (h : okR s p k = false) : rdT s p k = ⟨#[]⟩ := by unfold rdT; rw [h]; rfl
theorem nx_le {s : ByteArray} {k : Nat} {p : Nat × Bool} (h : p.1 ≤ s.size) : (nx s k p).1 ≤ s.size := by
  obtain ⟨a, y⟩ := p
  unfold nx
  cases hk : okR s (a, y) k
  · exact h
  · obtain ⟨_, h2⟩ := ok_cases hk
    exact h2
theorem v_range {s : ByteArray} {p : Nat × Bool} {k : Nat} (n : Int) (hn : n = ((256 ^ k : Nat) : Int)) (h : 0 < n) : 0 ≤ rdV s p k ∧ rdV s p k < n := by
  cases hk : okR s p k
  · rw [v_no hk]; exact ⟨by omega, h⟩
  · unfold rdV
    rw [if_pos hk]
    refine ⟨by omega, ?_⟩
    have h1 := Cur.numL_lt ((s.data.toList.drop p.1).take k)
    have h2 : 256 ^ ((s.data.toList.drop p.1).take k).length ≤ 256 ^ k := Nat.pow_le_pow_right (by decide) (by simp; omega)
    rw [hn]
    omega
theorem has_no {s : ByteArray} {a k : Nat} {y : Bool} (hk : okR s (a, y) k = false) : hasB a s.size k y = false := by
  cases y with
  | true => rfl
  | false =>
    have h : ¬ a + k ≤ s.size := fun h => by rw [ok_yes h] at hk; cases hk
    unfold hasB
    simp
    omega
theorem cnum (s : ByteArray) (p : Nat × Bool) (k : Nat) (ki : Int) (hki : ki = k) (hs : s.size ≤ maxLen) (hp : p.1 ≤ s.size) (h1 : 1 ≤ k) (h7 : k ≤ 7) (w : World) :
    Calls Tryz.prog 58 #[.agg #[.string s, .int .i64 (p.1 : Int), .int .i64 (s.size : Int), .bool p.2], .int .i64 ki] w fun e w' => e = .returned (.tuple #[.int .i64 (rdV s p k), .agg #[.string s, .int .i64 ((nx s k p).1 : Int), .int .i64 (s.size : Int), .bool (nx s k p).2]]) ∧ Below w.heap.size w w' := by
  subst hki
  obtain ⟨a, y⟩ := p
  cases hk : okR s (a, y) k
  · have := num_no s a s.size k y w hs hp (Nat.le_refl _) (has_no hk) (by omega) (by omega)
    rw [v_no hk, show nx s k (a, y) = (a, true) by unfold nx; rw [hk]; rfl]
    exact this
  · obtain ⟨rfl, h⟩ := ok_cases hk
    have := num_yes s a s.size k w hs hp (Nat.le_refl _) h h1 h7
    rw [v_yes h, nx_yes h]
    exact this
theorem ctext (s : ByteArray) (p : Nat × Bool) (k : Nat) (ki : Int) (hki : ki = k) (hs : s.size ≤ maxLen) (hp : p.1 ≤ s.size) (w : World) :
    Calls Tryz.prog 35 #[.agg #[.string s, .int .i64 (p.1 : Int), .int .i64 (s.size : Int), .bool p.2], .int .i64 ki] w fun e w' => e = .returned (.tuple #[.string (rdT s p k), .agg #[.string s, .int .i64 ((nx s k p).1 : Int), .int .i64 (s.size : Int), .bool (nx s k p).2]]) ∧ Below w.heap.size w w' := by
  subst hki
  obtain ⟨a, y⟩ := p
  cases hk : okR s (a, y) k
  · have := text_no s a s.size k y w hs hp (Nat.le_refl _) (has_no hk)
    rw [t_no hk, show nx s k (a, y) = (a, true) by unfold nx; rw [hk]; rfl]
    exact this
  · obtain ⟨rfl, h⟩ := ok_cases hk
    have := text_yes s a s.size k w hs hp (Nat.le_refl _) h
    rw [t_yes h, nx_yes h]
    exact this
/-- Nothing below B is changed, but block b. -/
structure Bel (B b : Nat) (w w' : World) : Prop where
  os : w'.os = w.os
  tape : w'.tape = w.tape
  output : w'.output = w.output
  size : w.heap.size ≤ w'.heap.size
  block : ∀ k, k < B → k ≠ b → w'.heap[k]? = w.heap[k]?
section
variable {B b : Nat} {w w' w'' : World}
theorem Bel.trans (h : Bel B b w w') (k : Bel B b w' w'') : Bel B b w w'' := ⟨k.os.trans h.os, k.tape.trans h.tape, k.output.trans h.output, Nat.le_trans h.size k.size, fun i hi hn => (k.block i hi hn).trans (h.block i hi hn)⟩
theorem Bel.mono {B' : Nat} (h : Bel B b w w') (hB : B' ≤ B) : Bel B' b w w' := ⟨h.os, h.tape, h.output, h.size, fun k hk => h.block k (by omega)⟩
theorem Bel.of (h : Below B w w') : Bel B b w w' := ⟨h.os, h.tape, h.output, h.size, fun k hk _ => h.block k hk⟩
theorem Bel.to {C : Nat} (h : Bel B b w w') (hB : C ≤ B) (hb : C ≤ b) : Below C w w' := ⟨h.os, h.tape, h.output, h.size, fun k hk => h.block k (by omega) (by omega)⟩
theorem Bel.rowb (B : Nat) (cs : Array Value) : Bel B b w (w.setRow b cs) := ⟨rfl, rfl, rfl, by simp, fun k _ hn => setRow_other w b k cs hn⟩
theorem Bel.row {g : Nat} (h : Bel B b w w') (hg : B ≤ g) (cs : Array Value) : Bel B b w (w'.setRow g cs) := h.trans ⟨rfl, rfl, rfl, by simp, fun k hk _ => setRow_other w' g k cs (by omega)⟩
theorem Bel.cell {p : Addr} (h : Bel B b w w') (hg : B ≤ p.block) (v : Value) : Bel B b w (w'.setCell p v) := h.trans ⟨rfl, rfl, rfl, by simp [World.setCell], fun k hk _ => heap_setCell_other w' p k v (by omega)⟩
theorem Bel.bx {g : Nat} {m : M} (h : Bel w.heap.size b w w') (hn : g ≠ b) (hm : Bx w g m) : Bx w' g m := (h.block g hm.lt hn).trans hm
theorem Bel.bk {T : TypeId} {g : Nat} {cs : Array Value} (h : Bel w.heap.size b w w') (hn : g ≠ b) (hm : Bk T w g cs) : Bk T w' g cs := (h.block g hm.lt hn).trans hm
end
/-- A reader's cells. -/
def cu (s : ByteArray) (p : Nat × Bool) : Array Value := cur s (p.1 : Int) (s.size : Int) p.2
end Go.Proofs.YtpkmpinbpfblfaaGreatDoor.Rg
namespace Go.Proofs.YtpkmpinbpfblfaaGreatDoor.Rg
open Go.ChangeShapes Go.WideShapes Go.ChangeAt Go.RowKit
open Go.Proofs.YtpkmpinbpfblfaaGreatDoor.Tc
theorem Bel.tab {B b : Nat} {w w' : World} (h : Bel B b w w') (hB : 2 < B) (hb : 2 < b) (ht : Tab w) : Tab w' := ht.under (h.to (C := 3) (by omega) (by omega)) (by omega)
end Go.Proofs.YtpkmpinbpfblfaaGreatDoor.Rg
