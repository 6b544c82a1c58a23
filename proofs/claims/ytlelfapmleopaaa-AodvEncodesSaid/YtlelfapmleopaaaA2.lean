/-
  Datagrams of AODV: whether a message may be, and the message of bytes: the program's answers and the document's. Conditions: at most 200000 bytes; the lists of a message aren't long.
-/
import Derived.Test.YtlelfapmleopaaaA1
import Derived.Test.YtlelfapmleopaaaAp
namespace Go.Proofs.Ytlelfapmleopaaa.A2
open Go.ChangeShapes Go.WideShapes Go.ChangeAt Go.RowKit
open Go.Proofs.Ytlelfapmleopaaa.Ms
open Go.Proofs.Ytlelfapmleopaaa.Box
open Go.Proofs.Ytlelfapmleopaaa.Xv
open Go.Proofs.Ytlelfapmleopaaa.Xc (idx)
open Go.Proofs.Ytlelfapmleopaaa.All
open Go.Proofs.Ytlelfapmleopaaa.Ap (bs_one ex_bs cells_new add_at)
open Go.Proofs.Ytlelfapmleopaaa.Am
open Go.Proofs.Ytlelfapmleopaaa.A1
open Go.Proofs.Ytlelfapmleopaaa.Hs
open Go.Proofs.Ytlelfapmleopaaa.Or (st_yes st_no)
open Go.Proofs.Ytlelfapmleopaaa.Q1 (okQ outQ)
open Go.Proofs.Ytlelfapmleopaaa.Z1 (okP outP)
open Go.Proofs.Ytlelfapmleopaaa.Y1 (okE outE)
open Go.Proofs.Ytlelfapmleopaaa.Bk (wpList_builtK alloc_size)
set_option linter.unusedVariables false
set_option maxRecDepth 100000
/-- l is l', but for where the messages' lists stand. -/
def PlL (l l' : List M) : Prop := l.length = l'.length ∧ ∀ i (h : i < l.length) (h' : i < l'.length), Pl l[i] l'[i]
theorem PlL.nil : PlL [] [] := ⟨rfl, fun i h => absurd h (by simp)⟩
theorem PlL.one {n m : M} (h : Pl n m) : PlL [n] [m] := ⟨rfl, fun i h1 h2 => by
  obtain rfl : i = 0 := by (simp at h1; exact h1)
  exact h⟩
theorem PlL.refl (l : List M) : PlL l l := ⟨rfl, fun i h1 h2 => Pl.refl _⟩
theorem PlL.at_nil {l : List M} (h : PlL l []) : l = [] := List.length_eq_zero_iff.1 h.1
theorem PlL.at_one {l : List M} {m : M} (h : PlL l [m]) : ∃ n, l = [n] ∧ Pl n m := by
  obtain ⟨n, rfl⟩ := List.length_eq_one_iff.1 h.1
  exact ⟨n, rfl, h.2 0 (by simp) (by simp)⟩
theorem PlL.same {x x' y y' : List M} (h : PlL x y) (h' : PlL x' y') : sameL x x' = sameL y y' := by
  unfold sameL
  rw [decide_eq_decide]
  constructor
  · rintro ⟨h1, h2⟩
    refine ⟨by rw [← h.1, ← h'.1]; exact h1, fun i k1 k2 => ?_⟩
    rw [← (h.2 i (by rw [h.1]; exact k1) k1).same (h'.2 i (by rw [h'.1]; exact k2) k2)]
    exact h2 i _ _
  · rintro ⟨h1, h2⟩
    refine ⟨by rw [h.1, h'.1]; exact h1, fun i k1 k2 => ?_⟩
    rw [(h.2 i k1 (by rw [← h.1]; exact k1)).same (h'.2 i k2 (by rw [← h'.1]; exact k2))]
    exact h2 i _ _
theorem PlL.short {x y : List M} (h : PlL x y) (hs : ∀ m ∈ y, Short m) : ∀ m ∈ x, Short m := by
  intro m hm
  obtain ⟨i, hi, rfl⟩ := List.getElem_of_mem hm
  have hy : i < y.length := by rw [← h.1]; exact hi
  have hp := h.2 i hi hy
  have := hs _ (List.getElem_mem hy)
  exact ⟨by rw [hp.ll]; exact this.1, by rw [hp.sl]; exact this.2⟩
/-- The answer: a list of messages (their lists stand where they stand), a place, an error. -/
def AnsL (p : List M × Int × Int) (w : World) (e : Ending) (w' : World) : Prop :=
  ∃ a c l, e = .returned (.tuple #[.slice a l.length c, .int .i64 p.2.1, .int .i64 p.2.2]) ∧ PlL l p.1 ∧ MRow w' a l ∧ Below w.heap.size w w'
theorem AnsL.no {p : List M × Int × Int} {w w' : World} {c d : Int} (h : p = ([], c, d)) (hb : Below w.heap.size w w') : AnsL p w (.returned (.tuple #[.slice none 0 0, .int .i64 c, .int .i64 d])) w' := by
  subst h
  exact ⟨none, 0, [], rfl, PlL.nil, MRow.nil _ _, hb⟩
theorem AnsL.at_nil {w w' : World} {e : Ending} {i x : Int} (h : AnsL ([], i, x) w e w') : ∃ a c, e = .returned (.tuple #[.slice a 0 c, .int .i64 i, .int .i64 x]) ∧ Below w.heap.size w w' := by
  obtain ⟨a, c, l, h1, h2, _, h4⟩ := h
  obtain rfl := h2.at_nil
  exact ⟨a, c, h1, h4⟩
theorem AnsL.at_one {w w' : World} {e : Ending} {m : M} {i x : Int} (h : AnsL ([m], i, x) w e w') : ∃ a c n, e = .returned (.tuple #[.slice a 1 c, .int .i64 i, .int .i64 x]) ∧ Pl n m ∧ MRow w' a [n] ∧ Below w.heap.size w w' := by
  obtain ⟨a, c, l, h1, h2, h3, h4⟩ := h
  obtain ⟨n, rfl, hn⟩ := h2.at_one
  exact ⟨a, c, n, h1, hn, h3, h4⟩
/-- An operation, a guarded one too, that makes memory. -/
theorem st_made {P : Program} {ops : Array Oper} {Q : Exit → Act → World → Prop} {A : Act} {w w' : World} {rest : List Oper} {o : Oper} {d : Nat} {v : Value} (hw : Region.wanted o (yielded ops A.tmps) = true) (hd : o.dst = some d) (hy : (execOp A.eval o).run P w = .ok (.value v) w')
    (h : wpList P ops Q rest (A.put (some d) v) w') : wpList P ops Q (o :: rest) A w :=
  wpList_step fun K hK => by
    rw [if_pos hw]
    unfold Oper.wp
    rw [hy]
    simp only [Oper.upon, hd]
    exact hK _ _ h
theorem row_one {w' : World} {g : Nat} {n : M} (h : n.In w') (hc : ∀ j u, (n.cells.toList)[j]? = some u → w'.cell? ((⟨g, 0, none⟩ : Addr).add j) = some u) (hg : g < w'.heap.size) : MRow w' (some ⟨g, 0, none⟩) [n] := by
  intro i hi
  obtain rfl : i = 0 := by (simp at hi; exact hi)
  refine ⟨_, rfl, hg, fun j v hv => ?_, h.d, h.s⟩
  have := hc j v hv
  rw [add_at] at this
  rw [add_at, add_at, Nat.zero_mul, Nat.add_zero]
  exact this
theorem row_new {w : World} {n : M} (h : n.In w) : MRow (w.alloc (.cells n.cells 34)) (some ⟨w.heap.size, 0, none⟩) [n] :=
  row_one (h.below (balloc (Below.refl _ w) _)) (cells_new n w) (by rw [alloc_size]; exact Nat.lt_succ_self _)
theorem AnsL.one {p : List M × Int × Int} {w w' : World} {m n : M} (h : p = ([m], 0, 0)) (hp : Pl n m) (hn : n.In w') (hb : Below w.heap.size w w') :
    AnsL p w (.returned (.tuple #[.slice (some ⟨w'.heap.size, 0, none⟩) 1 1, .int .i64 0, .int .i64 0])) (w'.alloc (.cells n.cells 34)) := by
  subst h
  exact ⟨_, 1, [n], rfl, PlL.one hp, row_new hn, balloc hb _⟩
theorem boxed (w : World) (m : M) : Bx (w.alloc (.cells m.cells 34)) w.heap.size m ∧ Below w.heap.size w (w.alloc (.cells m.cells 34)) := ⟨Bx.new w m, balloc (Below.refl _ w) _⟩

set_option maxHeartbeats 3200000 in
theorem right_any (m : M) (w : World) (hm : m.In w) (lb : ∀ x ∈ m.sl, x.1.size ≤ 1099511627776) : Calls Try.prog 11 #[.agg m.cells] w fun e w' => e = .returned (.bool (okA m)) ∧ Below w.heap.size w w' := by
  have HF := Lib.hid (Fs.new w m hm)
  have PQ := Lib.hid (fun V (h : m.In V) => Q2.right_any m V h lb)
  have PP := Lib.hid (fun V (h : m.In V) => Z2.right_any m V h lb)
  have PE := Lib.hid (fun V (h : m.In V) => Y2.right_any m V h lb)
  clear lb hm
  have HQ := Lib.hid (fun (h : m.kind = 3) => okA_Q h)
  have HP := Lib.hid (fun (h : m.kind = 4 ∨ m.kind = 6) => okA_P h)
  have HE := Lib.hid (fun (h : m.kind = 5) => okA_E h)
  have HN := Lib.hid (fun h3 h4 h5 h6 => okA_no (m := m) h3 h4 h5 h6)
  go_enter Try.func11, Try.ntmps11
  go_upto_region 1 with fail
  generalize w.alloc (.cells m.cells 34) = V at *
  have c0 := HF.out.m.cs.c0
  by_cases h3 : m.kind = 3
  · have HZ := Lib.hid (HQ.out h3)
    rw [h3] at c0
    clear HQ HP HE HN
    go_wp2_with (first | (refine wpList_loadM (b := w.heap.size) (m := m) rfl _ rfl rfl HF.out.m ?_))
    refine (PQ.out _ HF.out.i).mono ?_
    rintro r w1 ⟨rfl, hb⟩
    have HF := Lib.hid (HF.out.call hb)
    go_wp2
    go_ret
    exact ⟨bool_eq HZ.out.symm, HF.out.bel⟩
  by_cases h4 : m.kind = 4
  · have HZ := Lib.hid (HP.out (.inl h4))
    rw [h4] at c0
    clear HQ HP HE HN
    go_wp2_with (first | (refine wpList_loadM (b := w.heap.size) (m := m) rfl _ rfl rfl HF.out.m ?_))
    refine (PP.out _ HF.out.i).mono ?_
    rintro r w1 ⟨rfl, hb⟩
    have HF := Lib.hid (HF.out.call hb)
    go_wp2
    go_ret
    exact ⟨bool_eq HZ.out.symm, HF.out.bel⟩
  by_cases h6 : m.kind = 6
  · have HZ := Lib.hid (HP.out (.inr h6))
    rw [h6] at c0
    clear HQ HP HE HN
    go_wp2_with (first | (refine wpList_loadM (b := w.heap.size) (m := m) rfl _ rfl rfl HF.out.m ?_))
    refine (PP.out _ HF.out.i).mono ?_
    rintro r w1 ⟨rfl, hb⟩
    have HF := Lib.hid (HF.out.call hb)
    go_wp2
    go_ret
    exact ⟨bool_eq HZ.out.symm, HF.out.bel⟩
  by_cases h5 : m.kind = 5
  · have HZ := Lib.hid (HE.out h5)
    rw [h5] at c0
    clear HQ HP HE HN
    go_wp2_with (first | (refine wpList_loadM (b := w.heap.size) (m := m) rfl _ rfl rfl HF.out.m ?_))
    refine (PE.out _ HF.out.i).mono ?_
    rintro r w1 ⟨rfl, hb⟩
    have HF := Lib.hid (HF.out.call hb)
    go_wp2
    go_ret
    exact ⟨bool_eq HZ.out.symm, HF.out.bel⟩
  have HZ := Lib.hid (HN.out h3 h4 h5 h6)
  have e3 : (m.kind == 3) = false := by simpa using h3
  have e4 : (m.kind == 4) = false := by simpa using h4
  have e5 : (m.kind == 5) = false := by simpa using h5
  have e6 : (m.kind == 6) = false := by simpa using h6
  have bel := Lib.hid HF.out.bel
  clear HQ HP HE HN PQ PP PE HF
  generalize m.kind = k at *
  go_wp2
  go_ret
  exact ⟨bool_eq HZ.out.symm, bel.out⟩
set_option maxHeartbeats 3200000 in
theorem rright_any (m : M) (w : World) (hm : m.In w) (lb : ∀ x ∈ m.sl, x.1.size ≤ 1099511627776) : Calls Try.prog 12 #[.agg m.cells] w fun e w' => e = .returned (.bool (okA m)) ∧ Below w.heap.size w w' := by
  have HF := Lib.hid (Fs.new w m hm)
  have PQ := Lib.hid (fun V (h : m.In V) => Q2.rright_any m V h lb)
  have PP := Lib.hid (fun V (h : m.In V) => Z2.rright_any m V h lb)
  have PE := Lib.hid (fun V (h : m.In V) => Y2.rright_any m V h lb)
  have HZ := Lib.hid (show okA m = (okQ m || (okP m || okE m)) from rfl)
  clear lb hm
  generalize okQ m = x1 at *
  generalize okP m = x2 at *
  generalize okE m = x3 at *
  go_enter Try.func12, Try.ntmps12
  go_upto_region 1 with fail
  generalize w.alloc (.cells m.cells 34) = V at *
  cases x1
  rotate_left
  · go_wp2_with (first | (refine wpList_loadM (b := w.heap.size) (m := m) rfl _ rfl rfl HF.out.m ?_) | (refine st_yes (v := .agg (M.cells m)) (by rfl) rfl (run_loadM (x := .tmp 1) rfl rfl HF.out.m) ?_))
    refine (PQ.out _ HF.out.i).mono ?_
    rintro r w' ⟨rfl, hb⟩
    have HF := Lib.hid (HF.out.call hb)
    clear hb
    go_wp2
    go_ret
    exact ⟨bool_eq HZ.out.symm, HF.out.bel⟩
  cases x2
  rotate_left
  · go_wp2_with (first | (refine wpList_loadM (b := w.heap.size) (m := m) rfl _ rfl rfl HF.out.m ?_) | (refine st_yes (v := .agg (M.cells m)) (by rfl) rfl (run_loadM (x := .tmp 1) rfl rfl HF.out.m) ?_))
    refine (PQ.out _ HF.out.i).mono ?_
    rintro r w' ⟨rfl, hb⟩
    have HF := Lib.hid (HF.out.call hb)
    clear hb
    go_wp2_with (first | (refine wpList_loadM (b := w.heap.size) (m := m) rfl _ rfl rfl HF.out.m ?_) | (refine st_yes (v := .agg (M.cells m)) (by rfl) rfl (run_loadM (x := .tmp 1) rfl rfl HF.out.m) ?_))
    refine (PP.out _ HF.out.i).mono ?_
    rintro r w' ⟨rfl, hb⟩
    have HF := Lib.hid (HF.out.call hb)
    clear hb
    go_wp2
    go_ret
    exact ⟨bool_eq HZ.out.symm, HF.out.bel⟩
  · go_wp2_with (first | (refine wpList_loadM (b := w.heap.size) (m := m) rfl _ rfl rfl HF.out.m ?_) | (refine st_yes (v := .agg (M.cells m)) (by rfl) rfl (run_loadM (x := .tmp 1) rfl rfl HF.out.m) ?_))
    refine (PQ.out _ HF.out.i).mono ?_
    rintro r w' ⟨rfl, hb⟩
    have HF := Lib.hid (HF.out.call hb)
    clear hb
    go_wp2_with (first | (refine wpList_loadM (b := w.heap.size) (m := m) rfl _ rfl rfl HF.out.m ?_) | (refine st_yes (v := .agg (M.cells m)) (by rfl) rfl (run_loadM (x := .tmp 1) rfl rfl HF.out.m) ?_))
    refine (PP.out _ HF.out.i).mono ?_
    rintro r w' ⟨rfl, hb⟩
    have HF := Lib.hid (HF.out.call hb)
    clear hb
    go_wp2_with (first | (refine wpList_loadM (b := w.heap.size) (m := m) rfl _ rfl rfl HF.out.m ?_) | (refine st_yes (v := .agg (M.cells m)) (by rfl) rfl (run_loadM (x := .tmp 1) rfl rfl HF.out.m) ?_))
    refine (PE.out _ HF.out.i).mono ?_
    rintro r w' ⟨rfl, hb⟩
    have HF := Lib.hid (HF.out.call hb)
    clear hb
    go_wp2
    go_ret
    exact ⟨bool_eq HZ.out.symm, HF.out.bel⟩
/-- May it not be? -/
theorem wrong_any (m : M) (w : World) (hm : m.In w) (lb : ∀ x ∈ m.sl, x.1.size ≤ 1099511627776) : Calls Try.prog 27 #[.agg m.cells] w fun e w' => e = .returned (.bool (!okA m)) ∧ Below w.heap.size w w' := by
  have hm1 := hm.below (boxed w m).2
  obtain ⟨b0, bel⟩ := boxed w m
  go_enter Try.func27, Try.ntmps27
  go_upto_region 1 with fail
  generalize w.alloc (.cells m.cells 34) = V at *
  have B0 := Lib.hid b0
  clear b0
  have P1 := Lib.hid (right_any m V hm1 lb)
  clear hm hm1 lb
  go_wp2_with (first | (refine wpList_loadM (b := w.heap.size) (m := m) rfl _ rfl rfl B0.out ?_))
  refine P1.out.mono ?_
  rintro e w2 ⟨rfl, hb⟩
  have bel := bcall bel hb
  clear hb
  go_wp2
  go_ret
  exact ⟨rfl, bel⟩
set_option maxHeartbeats 3200000 in
theorem get_in (b : ByteArray) (w : World) (k : ¬ (bt b 0 < 1 ∨ 4 < bt b 0)) (hs : b.size ≤ 200000) : Calls Try.prog 17 #[.string b] w (AnsM (out1 b) w) := by
  have i0 := idx b 0 0 rfl (by have := bt_some (b := b) (by omega); omega)
  rcases (show bt b 0 = 1 ∨ bt b 0 = 2 ∨ bt b 0 = 4 ∨ bt b 0 = 3 by omega) with h | h | h | h
  · have PG := Lib.hid (fun V => Q4.get_any b V hs)
    have HO : AnsM (outQ b) w = AnsM (out1 b) w := by rw [out1_Q h]
    rw [h] at i0
    rw [← HO]
    clear HO h k hs
    go_enter Try.func17, Try.ntmps17
    go_upto_region 1 with fail
    change Code.wp _ _ _ _ (w.alloc (.cells M.zero.cells 34))
    have R0 := Lib.hid (Bx.new w M.zero)
    have bel := Lib.hid (balloc (Below.refl _ w) (.cells M.zero.cells 34))
    have hlt : w.heap.size < (w.alloc (.cells M.zero.cells 34)).heap.size := by rw [alloc_size]; exact Nat.lt_succ_self _
    generalize w.alloc (.cells M.zero.cells 34) = W at *
    go_wp2_with fail
    refine (PG.out _).mono ?_
    intro r w1 hr
    obtain ⟨n, rfl, hb, ha⟩ := hr.boxed hlt bel.out
    have R1 := Lib.hid (R0.out.below hb)
    have HA := Lib.hid ha
    clear ha hr hb R0 bel PG hlt
    go_wp2_with (first | (refine wpList_storeM (b := w.heap.size) (m := M.zero) (m' := n) rfl _ _ rfl rfl rfl R1.out ?_))
    exact bodyPost_ret (v := .tuple #[.agg n.cells, .int .i64 (outQ b).2.1, .int .i64 (outQ b).2.2]) (ret3 rfl _ _ w.heap.size n rfl (R1.out.put (m' := n)) (.int .i64 (outQ b).2.1) rfl (.int .i64 (outQ b).2.2) rfl) rfl HA.out
  · have PG := Lib.hid (fun V => Z4.get_any b V (.inl h) hs)
    have HO : AnsM (outP b) w = AnsM (out1 b) w := by rw [out1_P (.inl h)]
    rw [h] at i0
    rw [← HO]
    clear HO h k hs
    go_enter Try.func17, Try.ntmps17
    go_upto_region 1 with fail
    change Code.wp _ _ _ _ (w.alloc (.cells M.zero.cells 34))
    have R0 := Lib.hid (Bx.new w M.zero)
    have bel := Lib.hid (balloc (Below.refl _ w) (.cells M.zero.cells 34))
    have hlt : w.heap.size < (w.alloc (.cells M.zero.cells 34)).heap.size := by rw [alloc_size]; exact Nat.lt_succ_self _
    generalize w.alloc (.cells M.zero.cells 34) = W at *
    go_wp2_with fail
    refine (PG.out _).mono ?_
    intro r w1 hr
    obtain ⟨n, rfl, hb, ha⟩ := hr.boxed hlt bel.out
    have R1 := Lib.hid (R0.out.below hb)
    have HA := Lib.hid ha
    clear ha hr hb R0 bel PG hlt
    go_wp2_with (first | (refine wpList_storeM (b := w.heap.size) (m := M.zero) (m' := n) rfl _ _ rfl rfl rfl R1.out ?_))
    exact bodyPost_ret (v := .tuple #[.agg n.cells, .int .i64 (outP b).2.1, .int .i64 (outP b).2.2]) (ret3 rfl _ _ w.heap.size n rfl (R1.out.put (m' := n)) (.int .i64 (outP b).2.1) rfl (.int .i64 (outP b).2.2) rfl) rfl HA.out
  · have PG := Lib.hid (fun V => Z4.get_any b V (.inr h) hs)
    have HO : AnsM (outP b) w = AnsM (out1 b) w := by rw [out1_P (.inr h)]
    rw [h] at i0
    rw [← HO]
    clear HO h k hs
    go_enter Try.func17, Try.ntmps17
    go_upto_region 1 with fail
    change Code.wp _ _ _ _ (w.alloc (.cells M.zero.cells 34))
    have R0 := Lib.hid (Bx.new w M.zero)
    have bel := Lib.hid (balloc (Below.refl _ w) (.cells M.zero.cells 34))
    have hlt : w.heap.size < (w.alloc (.cells M.zero.cells 34)).heap.size := by rw [alloc_size]; exact Nat.lt_succ_self _
    generalize w.alloc (.cells M.zero.cells 34) = W at *
    go_wp2_with fail
    refine (PG.out _).mono ?_
    intro r w1 hr
    obtain ⟨n, rfl, hb, ha⟩ := hr.boxed hlt bel.out
    have R1 := Lib.hid (R0.out.below hb)
    have HA := Lib.hid ha
    clear ha hr hb R0 bel PG hlt
    go_wp2_with (first | (refine wpList_storeM (b := w.heap.size) (m := M.zero) (m' := n) rfl _ _ rfl rfl rfl R1.out ?_))
    exact bodyPost_ret (v := .tuple #[.agg n.cells, .int .i64 (outP b).2.1, .int .i64 (outP b).2.2]) (ret3 rfl _ _ w.heap.size n rfl (R1.out.put (m' := n)) (.int .i64 (outP b).2.1) rfl (.int .i64 (outP b).2.2) rfl) rfl HA.out
  · have PG := Lib.hid (fun V => Y4.get_any b V hs)
    have HO : AnsM (outE b) w = AnsM (out1 b) w := by rw [out1_E h]
    rw [h] at i0
    rw [← HO]
    clear HO h k hs
    go_enter Try.func17, Try.ntmps17
    go_upto_region 1 with fail
    change Code.wp _ _ _ _ (w.alloc (.cells M.zero.cells 34))
    have R0 := Lib.hid (Bx.new w M.zero)
    have bel := Lib.hid (balloc (Below.refl _ w) (.cells M.zero.cells 34))
    have hlt : w.heap.size < (w.alloc (.cells M.zero.cells 34)).heap.size := by rw [alloc_size]; exact Nat.lt_succ_self _
    generalize w.alloc (.cells M.zero.cells 34) = W at *
    go_wp2_with fail
    refine (PG.out _).mono ?_
    intro r w1 hr
    obtain ⟨n, rfl, hb, ha⟩ := hr.boxed hlt bel.out
    have R1 := Lib.hid (R0.out.below hb)
    have HA := Lib.hid ha
    clear ha hr hb R0 bel PG hlt
    go_wp2_with (first | (refine wpList_storeM (b := w.heap.size) (m := M.zero) (m' := n) rfl _ _ rfl rfl rfl R1.out ?_))
    exact bodyPost_ret (v := .tuple #[.agg n.cells, .int .i64 (outE b).2.1, .int .i64 (outE b).2.2]) (ret3 rfl _ _ w.heap.size n rfl (R1.out.put (m' := n)) (.int .i64 (outE b).2.1) rfl (.int .i64 (outE b).2.2) rfl) rfl HA.out
set_option maxHeartbeats 3200000 in
theorem rget_in (b : ByteArray) (w : World) (k : ¬ (bt b 0 < 1 ∨ 4 < bt b 0)) (hs : b.size ≤ 200000) : Calls Try.prog 18 #[.string b] w (AnsM (out1 b) w) := by
  have i0 := idx b 0 0 rfl (by have := bt_some (b := b) (by omega); omega)
  rcases (show bt b 0 = 1 ∨ bt b 0 = 2 ∨ bt b 0 = 4 ∨ bt b 0 = 3 by omega) with h | h | h | h
  · have PG := Lib.hid (fun V => Q4.rget_any b V hs)
    have HO : AnsM (outQ b) w = AnsM (out1 b) w := by rw [out1_Q h]
    rw [h] at i0
    rw [← HO]
    clear HO h k hs
    go_enter Try.func18, Try.ntmps18
    go_upto_region 1 with fail
    change Code.wp _ _ _ _ (w.alloc (.cells M.zero.cells 34))
    have R0 := Lib.hid (Bx.new w M.zero)
    have bel := Lib.hid (balloc (Below.refl _ w) (.cells M.zero.cells 34))
    have hlt : w.heap.size < (w.alloc (.cells M.zero.cells 34)).heap.size := by rw [alloc_size]; exact Nat.lt_succ_self _
    generalize w.alloc (.cells M.zero.cells 34) = W at *
    go_wp2_with fail
    refine (PG.out _).mono ?_
    intro r w1 hr
    obtain ⟨n, rfl, hb, ha⟩ := hr.boxed hlt bel.out
    have R1 := Lib.hid (R0.out.below hb)
    have HA := Lib.hid ha
    clear ha hr hb R0 bel PG hlt
    go_wp2_with (first | (refine wpList_storeM (b := w.heap.size) (m := M.zero) (m' := n) rfl _ _ rfl rfl rfl R1.out ?_))
    exact bodyPost_ret (v := .tuple #[.agg n.cells, .int .i64 (outQ b).2.1, .int .i64 (outQ b).2.2]) (ret3 rfl _ _ w.heap.size n rfl (R1.out.put (m' := n)) (.int .i64 (outQ b).2.1) rfl (.int .i64 (outQ b).2.2) rfl) rfl HA.out
  · have PG := Lib.hid (fun V => Z4.rget_any b V (.inl h) hs)
    have HO : AnsM (outP b) w = AnsM (out1 b) w := by rw [out1_P (.inl h)]
    rw [h] at i0
    rw [← HO]
    clear HO h k hs
    go_enter Try.func18, Try.ntmps18
    go_upto_region 1 with fail
    change Code.wp _ _ _ _ (w.alloc (.cells M.zero.cells 34))
    have R0 := Lib.hid (Bx.new w M.zero)
    have bel := Lib.hid (balloc (Below.refl _ w) (.cells M.zero.cells 34))
    have hlt : w.heap.size < (w.alloc (.cells M.zero.cells 34)).heap.size := by rw [alloc_size]; exact Nat.lt_succ_self _
    generalize w.alloc (.cells M.zero.cells 34) = W at *
    go_wp2_with fail
    refine (PG.out _).mono ?_
    intro r w1 hr
    obtain ⟨n, rfl, hb, ha⟩ := hr.boxed hlt bel.out
    have R1 := Lib.hid (R0.out.below hb)
    have HA := Lib.hid ha
    clear ha hr hb R0 bel PG hlt
    go_wp2_with (first | (refine wpList_storeM (b := w.heap.size) (m := M.zero) (m' := n) rfl _ _ rfl rfl rfl R1.out ?_))
    exact bodyPost_ret (v := .tuple #[.agg n.cells, .int .i64 (outP b).2.1, .int .i64 (outP b).2.2]) (ret3 rfl _ _ w.heap.size n rfl (R1.out.put (m' := n)) (.int .i64 (outP b).2.1) rfl (.int .i64 (outP b).2.2) rfl) rfl HA.out
  · have PG := Lib.hid (fun V => Z4.rget_any b V (.inr h) hs)
    have HO : AnsM (outP b) w = AnsM (out1 b) w := by rw [out1_P (.inr h)]
    rw [h] at i0
    rw [← HO]
    clear HO h k hs
    go_enter Try.func18, Try.ntmps18
    go_upto_region 1 with fail
    change Code.wp _ _ _ _ (w.alloc (.cells M.zero.cells 34))
    have R0 := Lib.hid (Bx.new w M.zero)
    have bel := Lib.hid (balloc (Below.refl _ w) (.cells M.zero.cells 34))
    have hlt : w.heap.size < (w.alloc (.cells M.zero.cells 34)).heap.size := by rw [alloc_size]; exact Nat.lt_succ_self _
    generalize w.alloc (.cells M.zero.cells 34) = W at *
    go_wp2_with fail
    refine (PG.out _).mono ?_
    intro r w1 hr
    obtain ⟨n, rfl, hb, ha⟩ := hr.boxed hlt bel.out
    have R1 := Lib.hid (R0.out.below hb)
    have HA := Lib.hid ha
    clear ha hr hb R0 bel PG hlt
    go_wp2_with (first | (refine wpList_storeM (b := w.heap.size) (m := M.zero) (m' := n) rfl _ _ rfl rfl rfl R1.out ?_))
    exact bodyPost_ret (v := .tuple #[.agg n.cells, .int .i64 (outP b).2.1, .int .i64 (outP b).2.2]) (ret3 rfl _ _ w.heap.size n rfl (R1.out.put (m' := n)) (.int .i64 (outP b).2.1) rfl (.int .i64 (outP b).2.2) rfl) rfl HA.out
  · have PG := Lib.hid (fun V => Y4.rget_any b V hs)
    have HO : AnsM (outE b) w = AnsM (out1 b) w := by rw [out1_E h]
    rw [h] at i0
    rw [← HO]
    clear HO h k hs
    go_enter Try.func18, Try.ntmps18
    go_upto_region 1 with fail
    change Code.wp _ _ _ _ (w.alloc (.cells M.zero.cells 34))
    have R0 := Lib.hid (Bx.new w M.zero)
    have bel := Lib.hid (balloc (Below.refl _ w) (.cells M.zero.cells 34))
    have hlt : w.heap.size < (w.alloc (.cells M.zero.cells 34)).heap.size := by rw [alloc_size]; exact Nat.lt_succ_self _
    generalize w.alloc (.cells M.zero.cells 34) = W at *
    go_wp2_with fail
    refine (PG.out _).mono ?_
    intro r w1 hr
    obtain ⟨n, rfl, hb, ha⟩ := hr.boxed hlt bel.out
    have R1 := Lib.hid (R0.out.below hb)
    have HA := Lib.hid ha
    clear ha hr hb R0 bel PG hlt
    go_wp2_with (first | (refine wpList_storeM (b := w.heap.size) (m := M.zero) (m' := n) rfl _ _ rfl rfl rfl R1.out ?_))
    exact bodyPost_ret (v := .tuple #[.agg n.cells, .int .i64 (outE b).2.1, .int .i64 (outE b).2.2]) (ret3 rfl _ _ w.heap.size n rfl (R1.out.put (m' := n)) (.int .i64 (outE b).2.1) rfl (.int .i64 (outE b).2.2) rfl) rfl HA.out
set_option maxHeartbeats 3200000 in
theorem get_out (b : ByteArray) (w : World) (h0 : ¬ b.size = 0) (k : bt b 0 < 1 ∨ 4 < bt b 0) : Calls Try.prog 17 #[.string b] w fun e w' => e = .returned (.tuple #[.agg M.zero.cells, .int .i64 0, .int .i64 4]) ∧ Below w.heap.size w w' := by
  have i0 := idx b 0 0 rfl (by omega)
  have e1 : (bt b 0 == 1) = false := by rw [beq_eq_false_iff_ne]; omega
  have e2 : (bt b 0 == 2) = false := by rw [beq_eq_false_iff_ne]; omega
  have e3 : (bt b 0 == 3) = false := by rw [beq_eq_false_iff_ne]; omega
  have e4 : (bt b 0 == 4) = false := by rw [beq_eq_false_iff_ne]; omega
  have d1 : ¬ bt b 0 = 1 := by omega
  have d2 : ¬ bt b 0 = 2 := by omega
  have d3 : ¬ bt b 0 = 3 := by omega
  have d4 : ¬ bt b 0 = 4 := by omega
  clear k h0
  generalize bt b 0 = y at *
  go_enter Try.func17, Try.ntmps17
  go_upto_region 1 with fail
  change Code.wp _ _ _ _ (w.alloc (.cells M.zero.cells 34))
  have R0 := Lib.hid (Bx.new w M.zero)
  have bel := Lib.hid (balloc (Below.refl _ w) (.cells M.zero.cells 34))
  generalize w.alloc (.cells M.zero.cells 34) = W at *
  go_wp2_with (first | (refine wpList_builtK rfl 34 _ rfl (M.cells M.zero) (by kernel_rfl) ?_) | (refine wpList_storeM (b := w.heap.size) (m := M.zero) (m' := M.zero) rfl _ _ rfl rfl rfl R0.out ?_))
  exact bodyPost_ret (v := .tuple #[.agg M.zero.cells, .int .i64 0, .int .i64 4]) (ret3 rfl _ _ w.heap.size M.zero rfl (R0.out.put (m' := M.zero)) (.int .i64 0) rfl (.int .i64 4) rfl) rfl ⟨rfl, below_setRow bel.out (Nat.le_refl _) _⟩
theorem not_empty {s : ByteArray} (h : ¬ s.size = 0) : ¬ s.toList = [] := by
  intro hh
  apply h
  have := congrArg List.length hh
  rw [ByteArray.toList_eq] at this
  simpa using this
theorem empty_of {s : ByteArray} (h : s.size = 0) : s = ⟨#[]⟩ := ByteArray.ext (Array.eq_empty_of_size_eq_zero h)
/-- The error of how many bytes there are. -/
def ckS (b : ByteArray) : Int × Int := if 65535 < b.size then (65535, 10) else if b.size = 0 then (0, 2) else (0, 0)
theorem size_any (b : ByteArray) (w : World) (hs : b.size ≤ 200000) : Calls Try.prog 16 #[.string b] w fun e w' => e = .returned (.tuple #[.int .i64 (ckS b).1, .int .i64 (ckS b).2]) ∧ w = w' := by
  by_cases h : 65535 < b.size
  · have HZ : Hid (ckS b = (65535, 10)) := Lib.hid (by unfold ckS; rw [if_pos h])
    have h1 : (65535 : Int) < (b.size : Int) := by omega
    clear h
    go_enter Try.func16, Try.ntmps16
    go_wp2
    go_ret2
    exact ⟨Y3.two_eq HZ.out, rfl⟩
  have h1 : ¬ (65535 : Int) < (b.size : Int) := by omega
  by_cases h0 : b.size = 0
  · have HZ : Hid (ckS b = (0, 2)) := Lib.hid (by unfold ckS; rw [if_neg h, if_pos h0])
    obtain rfl := empty_of h0
    clear h h0 h1
    go_enter Try.func16, Try.ntmps16
    go_wp2
    go_ret2
    exact ⟨Y3.two_eq HZ.out, rfl⟩
  have HZ : Hid (ckS b = (0, 0)) := Lib.hid (by unfold ckS; rw [if_neg h, if_neg h0])
  have f5 := not_empty h0
  have f6 : (b.toList == []) = false := by simpa using f5
  have f7 : b.toList.isEmpty = false := by simpa using f5
  clear h h0
  go_enter Try.func16, Try.ntmps16
  go_wp2
  go_ret2
  exact ⟨Y3.two_eq HZ.out, rfl⟩
set_option maxHeartbeats 6400000 in
theorem parse_any (b : ByteArray) (w : World) (hs : b.size ≤ 200000) : Calls Try.prog 7 #[.string b] w (AnsL (outA b) w) := by
  have PS := Lib.hid (fun V => size_any b V hs)
  by_cases h : 65535 < b.size
  · have HZ := Lib.hid (out_long h)
    have h1 : (65535 : Int) < (b.size : Int) := by omega
    rw [show ckS b = (65535, 10) by unfold ckS; rw [if_pos h]] at PS
    clear h hs
    go_enter Try.func7, Try.ntmps7
    go_wp2_with fail
    refine (PS.out _).mono ?_
    rintro e w1 ⟨rfl, rfl⟩
    go_wp2
    go_ret3
    exact AnsL.no HZ.out (Below.refl _ _)
  have h1 : ¬ (65535 : Int) < (b.size : Int) := by omega
  by_cases h0 : b.size = 0
  · have HZ := Lib.hid (out_none h0)
    rw [show ckS b = (0, 2) by unfold ckS; rw [if_neg h, if_pos h0]] at PS
    have hk0 : (b.size : Int) = 0 := by omega
    clear h hs h0 hk0
    go_enter Try.func7, Try.ntmps7
    go_wp2_with fail
    refine (PS.out _).mono ?_
    rintro e w1 ⟨rfl, rfl⟩
    go_wp2
    go_ret3
    exact AnsL.no HZ.out (Below.refl _ _)
  rw [show ckS b = (0, 0) by unfold ckS; rw [if_neg h, if_neg h0]] at PS
  by_cases k : bt b 0 < 1 ∨ 4 < bt b 0
  · have HZ := Lib.hid (out_kind h h0 k)
    have PG := Lib.hid (fun V => get_out b V h0 k)
    clear h hs h0 k
    go_enter Try.func7, Try.ntmps7
    go_wp2_with fail
    refine (PS.out _).mono ?_
    rintro e w1 ⟨rfl, rfl⟩
    go_wp2_with fail
    refine (PG.out _).mono ?_
    rintro e w1 ⟨rfl, hb⟩
    go_wp2_with (first | (refine wpList_storeM (b := w1.heap.size) (m := M.zero) (m' := M.zero) rfl _ _ rfl rfl rfl (Bx.new w1 M.zero) ?_))
    go_ret3
    exact AnsL.no HZ.out (below_setRow (balloc hb _) hb.size _)
  have PG := Lib.hid (fun V => get_in b V k hs)
  obtain ⟨hl1, hl2⟩ := out1_parts b
  have HL := Lib.hid (show (out1 b).1.ll.length ≤ 1048576 ∧ (out1 b).1.sl.length ≤ 1048576 from ⟨by omega, by omega⟩)
  have HY := Lib.hid (fun m i => out_yes (b := b) (m := m) (i := i) h h0 k)
  have HN := Lib.hid (fun m i e => out_no (b := b) (m := m) (i := i) (e := e) h h0 k)
  obtain ⟨⟨m, i, x⟩, hq⟩ : ∃ p, out1 b = p := ⟨_, rfl⟩
  rw [hq] at PG HL
  by_cases hx : x = 0
  rotate_left
  · have HZ := Lib.hid (HN.out m i x hq hx)
    have e1 : (x == 0) = false := by simpa using hx
    have e2 : (x != 0) = true := by rw [bne, e1]; rfl
    clear h hs h0 k hl1 hl2 HY HN hq hx
    go_enter Try.func7, Try.ntmps7
    go_wp2_with fail
    refine (PS.out _).mono ?_
    rintro e w1 ⟨rfl, rfl⟩
    go_wp2_with fail
    refine (PG.out _).mono ?_
    intro r w1 hr
    obtain ⟨n, rfl, hi, hp, hb⟩ := hr.at HL.out.1 HL.out.2
    clear hr PG
    go_wp2_with (first | (refine wpList_storeM (b := w1.heap.size) (m := M.zero) (m' := n) rfl _ _ rfl rfl rfl (Bx.new w1 M.zero) ?_))
    go_ret3
    exact AnsL.no HZ.out (below_setRow (balloc hb _) hb.size _)
  subst hx
  have HZ := Lib.hid (HY.out m i hq)
  clear h hs h0 k hl1 hl2 HY HN hq
  go_enter Try.func7, Try.ntmps7
  go_wp2_with fail
  refine (PS.out _).mono ?_
  rintro e w1 ⟨rfl, rfl⟩
  go_wp2_with fail
  refine (PG.out _).mono ?_
  intro r w1 hr
  obtain ⟨n, rfl, hi, hp, hb⟩ := hr.at HL.out.1 HL.out.2
  clear hr PG
  go_upto_region 5 with (refine wpList_storeM (b := w1.heap.size) (m := M.zero) (m' := n) rfl _ _ rfl rfl rfl (Bx.new w1 M.zero) ?_)
  change Code.wp _ _ _ _ ((w1.alloc (.cells M.zero.cells 34)).setRow w1.heap.size n.cells)
  rw [World.setRow_alloc_new]
  have I2 := Lib.hid (hi.below (balloc (Below.refl _ w1) (.cells n.cells 34)))
  have HB := Lib.hid (balloc hb (.cells n.cells 34))
  have X2 := Lib.hid (Bx.new w1 n)
  have H2 := Lib.hid hp
  clear hi hp hb
  generalize w1.alloc (.cells n.cells 34) = V2 at *
  generalize w1.heap.size = g2 at *
  go_wp2_with (first | (refine wpList_loadM (b := g2) (m := n) rfl _ rfl rfl X2.out ?_) | (refine bs_one rfl _ rfl (m := n) rfl ?_))
  go_ret3
  exact AnsL.one HZ.out H2.out I2.out HB.out
set_option maxHeartbeats 6400000 in
theorem rparse_any (b : ByteArray) (w : World) (hs : b.size ≤ 200000) : Calls Try.prog 8 #[.string b] w (AnsL (outA b) w) := by
  by_cases h : 65535 < b.size
  · have HZ := Lib.hid (out_long h)
    have h1 : (65535 : Int) < (b.size : Int) := by omega
    clear h hs
    go_enter Try.func8, Try.ntmps8
    go_wp2
    go_ret3
    exact AnsL.no HZ.out (Below.refl _ _)
  have h1 : ¬ (65535 : Int) < (b.size : Int) := by omega
  by_cases h0 : b.size = 0
  · have HZ := Lib.hid (out_none h0)
    have e0 : ((b.size : Int) == 0) = true := by rw [beq_iff_eq]; omega
    have hk0 : (b.size : Int) = 0 := by omega
    clear h hs h0
    go_enter Try.func8, Try.ntmps8
    go_wp2
    go_ret3
    exact AnsL.no HZ.out (Below.refl _ _)
  have e0 : ((b.size : Int) == 0) = false := by rw [beq_eq_false_iff_ne]; omega
  have i0 := idx b 0 0 rfl (by omega)
  by_cases k1 : bt b 0 < 1
  · have HZ := Lib.hid (out_kind h h0 (.inl k1))
    clear h hs h0
    generalize bt b 0 = y at *
    go_enter Try.func8, Try.ntmps8
    go_wp2
    go_ret3
    exact AnsL.no HZ.out (Below.refl _ _)
  by_cases k4 : 4 < bt b 0
  · have HZ := Lib.hid (out_kind h h0 (.inr k4))
    clear h hs h0
    generalize bt b 0 = y at *
    go_enter Try.func8, Try.ntmps8
    go_wp2
    go_ret3
    exact AnsL.no HZ.out (Below.refl _ _)
  have k : ¬ (bt b 0 < 1 ∨ 4 < bt b 0) := by omega
  have PG := Lib.hid (fun V => rget_in b V k hs)
  obtain ⟨hl1, hl2⟩ := out1_parts b
  have HL := Lib.hid (show (out1 b).1.ll.length ≤ 1048576 ∧ (out1 b).1.sl.length ≤ 1048576 from ⟨by omega, by omega⟩)
  have HY := Lib.hid (fun m i => out_yes (b := b) (m := m) (i := i) h h0 k)
  have HN := Lib.hid (fun m i e => out_no (b := b) (m := m) (i := i) (e := e) h h0 k)
  obtain ⟨⟨m, i, x⟩, hq⟩ : ∃ p, out1 b = p := ⟨_, rfl⟩
  rw [hq] at PG HL
  by_cases hx : x = 0
  rotate_left
  · have HZ := Lib.hid (HN.out m i x hq hx)
    have e1 : (x == 0) = false := by simpa using hx
    have e2 : (x != 0) = true := by rw [bne, e1]; rfl
    clear h hs h0 k hl1 hl2 HY HN hq hx
    generalize bt b 0 = y at *
    go_enter Try.func8, Try.ntmps8
    go_wp2_with fail
    refine (PG.out _).mono ?_
    intro r w1 hr
    obtain ⟨n, rfl, hi, hp, hb⟩ := hr.at HL.out.1 HL.out.2
    clear hr PG
    go_wp2_with (first | (refine wpList_storeM (b := w1.heap.size) (m := M.zero) (m' := n) rfl _ _ rfl rfl rfl (Bx.new w1 M.zero) ?_))
    go_ret3
    exact AnsL.no HZ.out (below_setRow (balloc hb _) hb.size _)
  subst hx
  have HZ := Lib.hid (HY.out m i hq)
  clear h hs h0 k hl1 hl2 HY HN hq
  generalize bt b 0 = y at *
  go_enter Try.func8, Try.ntmps8
  go_wp2_with fail
  refine (PG.out _).mono ?_
  intro r w1 hr
  obtain ⟨n, rfl, hi, hp, hb⟩ := hr.at HL.out.1 HL.out.2
  clear hr PG
  go_upto_region 8 with (refine wpList_storeM (b := w1.heap.size) (m := M.zero) (m' := n) rfl _ _ rfl rfl rfl (Bx.new w1 M.zero) ?_)
  change Code.wp _ _ _ _ ((w1.alloc (.cells M.zero.cells 34)).setRow w1.heap.size n.cells)
  rw [World.setRow_alloc_new]
  have I2 := Lib.hid (hi.below (balloc (Below.refl _ w1) (.cells n.cells 34)))
  have HB := Lib.hid (balloc hb (.cells n.cells 34))
  have X2 := Lib.hid (Bx.new w1 n)
  have H2 := Lib.hid hp
  clear hi hp hb
  generalize w1.alloc (.cells n.cells 34) = V2 at *
  generalize w1.heap.size = g2 at *
  go_wp2_with (first | (refine wpList_loadM (b := g2) (m := n) rfl _ rfl rfl X2.out ?_) | (refine bs_one rfl _ rfl (m := n) rfl ?_))
  go_ret3
  exact AnsL.one HZ.out H2.out I2.out HB.out
end Go.Proofs.Ytlelfapmleopaaa.A2
