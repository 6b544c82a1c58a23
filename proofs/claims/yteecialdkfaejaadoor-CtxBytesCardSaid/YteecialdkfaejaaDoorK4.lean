/-
  What an Update's flags say, whether it is told, its message. Conditions: the Update counts; the Subs stand in the world.
-/
import Derived.Test.YteecialdkfaejaaDoorK3
namespace Go.Proofs.YteecialdkfaejaaDoor.K4
open Go.ChangeShapes Go.WideShapes Go.ChangeAt Go.RowKit
open Go.Proofs.YteecialdkfaejaaDoor.Ms
open Go.Proofs.YteecialdkfaejaaDoor.Box
open Go.Proofs.YteecialdkfaejaaDoor.S1
open Go.Proofs.YteecialdkfaejaaDoor.J1
open Go.Proofs.YteecialdkfaejaaDoor.J2 (nil_eq nil_em size_eq)
open Go.Proofs.YteecialdkfaejaaDoor.J4 (shU wpList_loadU wpList_storeU)
open Go.Proofs.YteecialdkfaejaaDoor.An
open Go.Proofs.YteecialdkfaejaaDoor.Tc
open Go.Proofs.YteecialdkfaejaaDoor.K1
open Go.Proofs.YteecialdkfaejaaDoor.Kb
open Go.Proofs.YteecialdkfaejaaDoor.K2
open Go.Proofs.YteecialdkfaejaaDoor.K3
open Go.Proofs.YteecialdkfaejaaDoor.Bk (Bk Sh alloc_size wpList_loadK wpList_storeK run_loadK results_one loadVarK wpList_builtK)
open Go.Proofs.YteecialdkfaejaaDoor.Or (st_yes)
set_option linter.unusedVariables false
set_option maxRecDepth 100000
theorem and_128 (f : Int) (h0 : 0 ≤ f) (h1 : f < 256) : bits BinOp.and IntKind.i64 f 128 = if 128 ≤ f then 128 else 0 := by
  obtain ⟨n, rfl⟩ := Int.eq_ofNat_of_zero_le h0
  have h : ∀ n : Nat, n < 256 → bits BinOp.and IntKind.i64 (n : Int) 128 = if (128 : Int) ≤ (n : Int) then 128 else 0 := by decide +kernel
  exact h n (by omega)
theorem and_64 (f : Int) (h0 : 0 ≤ f) (h1 : f < 256) : bits BinOp.and IntKind.i64 f 64 = if f / 64 % 2 = 1 then 64 else 0 := by
  obtain ⟨n, rfl⟩ := Int.eq_ofNat_of_zero_le h0
  have h : ∀ n : Nat, n < 256 → bits BinOp.and IntKind.i64 (n : Int) 64 = if (n : Int) / 64 % 2 = 1 then 64 else 0 := by decide +kernel
  exact h n (by omega)
/-- An element of a block's array of texts: its address. -/
theorem indexAt4 (b k : Nat) (hk : k < 4) (W : World) : (Instr.indexAt 24 (.pointer (some ⟨b, 0, none⟩)) (.int .i64 (k : Int))).run Tryd.prog W = .ok (.pointer (some ⟨b, k, none⟩)) W := by
  rcases (show k = 0 ∨ k = 1 ∨ k = 2 ∨ k = 3 by omega) with rfl | rfl | rfl | rfl <;> kernel_rfl
theorem indexAt2 (b k : Nat) (hk : k < 2) (W : World) : (Instr.indexAt 25 (.pointer (some ⟨b, 4, none⟩)) (.int .i64 (k : Int))).run Tryd.prog W = .ok (.pointer (some ⟨b, 4 + k, none⟩)) W := by
  rcases (show k = 0 ∨ k = 1 by omega) with rfl | rfl <;> kernel_rfl
theorem ex_indexAt {P : Program} {o : Oper} {ρ : Operand → Value} {T : TypeId} {x y : Operand} {vx vy r : Value} {w : World} (ho : o.op = .indexAddr T x y) (hx : ρ x = vx) (hy : ρ y = vy) (h : (Instr.indexAt T vx vy).run P w = .ok r w) :
    (execOp ρ o).run P w = .ok (.value r) w := by
  unfold execOp
  simp only [ho, hx, hy, Sem.run_bind, h, Result.andThen_ok, Sem.run_pure]
abbrev nilV : Value := .slice none 0 0
set_option maxHeartbeats 12800000 in
theorem flagged_any (c : Kx) (d : ByteArray) (u : Up) (a : ByteArray) (w : World) (g : Cnt d u) (ha : a.size ≤ 1000) :
    Calls Tryd.prog 54 #[.agg (stC c nilV), .agg u.cells, .string a] w fun e w' => e = .returned (.agg (stC (flagC c u a) nilV)) ∧ Below w.heap.size w w' := by
  have PI := Lib.hid (fun V => idOf_any a V ha)
  have hA := and_128 u.flags g.fl0 g.fl1
  have hB := and_64 u.flags g.fl0 g.fl1
  obtain ⟨k, hk⟩ : ∃ k : Nat, u.ae = k := ⟨u.ae.toNat, by have := g.ae0; omega⟩
  have hk4 : k < 4 := by have := g.ae3; omega
  have S0 := Lib.hid (((Bk.Bk.new 47 w (stC c nilV)).old (.cells u.cells 66)).old (.cells (stC Kx.zero nilV) 47))
  have U0 := Bk.Bk.new 66 (w.alloc (.cells (stC c nilV) 47)) u.cells
  rw [alloc_size] at U0
  have U0 := Lib.hid (U0.old (.cells (stC Kx.zero nilV) 47))
  have R0 := Bk.Bk.new 47 ((w.alloc (.cells (stC c nilV) 47)).alloc (.cells u.cells 66)) (stC Kx.zero nilV)
  rw [alloc_size, alloc_size] at R0
  have R0 := Lib.hid R0
  have HB := Lib.hid (balloc (balloc (balloc (Below.refl _ w) (.cells (stC c nilV) 47)) (.cells u.cells 66)) (.cells (stC Kx.zero nilV) 47))
  clear g ha
  by_cases h0 : k = 0
  · subst h0
    have HK := Lib.hid (show flagC c u a = c by unfold flagC; rw [if_pos (show u.ae = 0 from hk)])
    go_enter Tryd.func54, Tryd.ntmps54
    go_upto_region 1 with fail
    change Code.wp _ _ _ _ (((w.alloc (.cells (stC c nilV) 47)).alloc (.cells u.cells 66)).alloc (.cells (stC Kx.zero nilV) 47))
    generalize ((w.alloc (.cells (stC c nilV) 47)).alloc (.cells u.cells 66)).alloc (.cells (stC Kx.zero nilV) 47) = W at *
    have c0 := U0.out.cell 0 (.int .i64 u.ae) rfl
    have c1 := U0.out.cell 1 (.int .i64 u.flags) rfl
    rw [hk] at c0
    clear hA hB hk
    go_wp2_with (first | (refine wpList_loadS (b := w.heap.size) (c := c) (v := nilV) rfl _ rfl rfl S0.out ?_) | (refine wpList_storeS (b := w.heap.size + 1 + 1) (c := Kx.zero) (c' := c) (v := nilV) (q := none) (n := 0) (k := 0) rfl _ _ rfl rfl rfl R0.out ?_))
    exact bodyPost_ret (v := .agg (stC (c) nilV)) (results_one rfl _ _ (w.heap.size + 1 + 1) _ rfl shS (R0.out.put (stC (c) nilV)) rfl) rfl ⟨by rw [HK.out], Box.below_setRow HB.out (by omega) _⟩
  have h02 : ((k : Int) == 0) = false := by simpa using h0
  have hae : ¬ u.ae = 0 := by omega
  by_cases g2 : u.flags / 64 % 2 = 1
  · by_cases g1 : 128 ≤ u.flags
    · have HK := Lib.hid (show flagC c u a = { (c.setP k a) with id := idA a } from by
        unfold flagC
        rw [if_neg hae, if_pos g2, if_pos g1, hk])
      rw [if_pos g1] at hA
      rw [if_pos g2] at hB
      go_enter Tryd.func54, Tryd.ntmps54
      go_upto_region 1 with fail
      change Code.wp _ _ _ _ (((w.alloc (.cells (stC c nilV) 47)).alloc (.cells u.cells 66)).alloc (.cells (stC Kx.zero nilV) 47))
      generalize ((w.alloc (.cells (stC c nilV) 47)).alloc (.cells u.cells 66)).alloc (.cells (stC Kx.zero nilV) 47) = W at *
      have c0 := U0.out.cell 0 (.int .i64 u.ae) rfl
      have c1 := U0.out.cell 1 (.int .i64 u.flags) rfl
      rw [hk] at c0
      clear g1 g2 h0 hae
      have d := pf_cell S0.out hk4
      have fd := S0.out.frozen k
      go_upto_region 5 with (first | (refine st_yes (v := .pointer (some ⟨w.heap.size, k, none⟩)) (by rfl) rfl (ex_indexAt rfl rfl rfl (indexAt4 w.heap.size k hk4 _)) ?_))
      have XS := S0.out.set (i := k) (v := .string a) (cs' := stC (c.setP k a) nilV) (setP_cells c a nilV hk4)
      have XU := U0.out.off (p := ⟨w.heap.size, k, none⟩) (by show w.heap.size + 1 ≠ w.heap.size; omega) (.string a)
      have XR := R0.out.off (p := ⟨w.heap.size, k, none⟩) (by show w.heap.size + 1 + 1 ≠ w.heap.size; omega) (.string a)
      have XB := HB.out.setCell (p := ⟨w.heap.size, k, none⟩) (by show w.heap.size ≤ w.heap.size; omega) (.string a)
      have S0 := Lib.hid XS
      have U0 := Lib.hid XU
      have R0 := Lib.hid XR
      have HB := Lib.hid XB
      clear XS XU XR XB d fd c0 c1
      generalize W.setCell ⟨w.heap.size, k, none⟩ (.string a) = W at *
      have c0 := U0.out.cell 0 (.int .i64 u.ae) rfl
      have c1 := U0.out.cell 1 (.int .i64 u.flags) rfl
      rw [hk] at c0
      go_wp2_with fail
      refine (PI.out _).mono ?_
      rintro e w1 ⟨rfl, hb⟩
      have S0 := Lib.hid (S0.out.below hb)
      have U0 := Lib.hid (U0.out.below hb)
      have R0 := Lib.hid (R0.out.below hb)
      have HB := Lib.hid (bcall HB.out hb)
      clear hb c0 c1 PI
      have d := S0.out.cell 6 _ rfl
      have fd := S0.out.frozen 6
      go_upto_region 7 with fail
      have XS := S0.out.set (i := 6) (v := .string (idA a)) (cs' := stC ({ (c.setP k a) with id := idA a }) nilV) rfl
      have XU := U0.out.off (p := ⟨w.heap.size, 6, none⟩) (by show w.heap.size + 1 ≠ w.heap.size; omega) (.string (idA a))
      have XR := R0.out.off (p := ⟨w.heap.size, 6, none⟩) (by show w.heap.size + 1 + 1 ≠ w.heap.size; omega) (.string (idA a))
      have XB := HB.out.setCell (p := ⟨w.heap.size, 6, none⟩) (by show w.heap.size ≤ w.heap.size; omega) (.string (idA a))
      have S0 := Lib.hid XS
      have U0 := Lib.hid XU
      have R0 := Lib.hid XR
      have HB := Lib.hid XB
      clear XS XU XR XB d fd
      generalize w1.setCell ⟨w.heap.size, 6, none⟩ (.string (idA a)) = W2 at *
      clear hA hB hk h02
      go_wp2_with (first | (refine wpList_loadS (b := w.heap.size) (c := ({ (c.setP k a) with id := idA a })) (v := nilV) rfl _ rfl rfl S0.out ?_) | (refine wpList_storeS (b := w.heap.size + 1 + 1) (c := Kx.zero) (c' := ({ (c.setP k a) with id := idA a })) (v := nilV) (q := none) (n := 0) (k := 0) rfl _ _ rfl rfl rfl R0.out ?_))
      exact bodyPost_ret (v := .agg (stC (({ (c.setP k a) with id := idA a })) nilV)) (results_one rfl _ _ (w.heap.size + 1 + 1) _ rfl shS (R0.out.put (stC (({ (c.setP k a) with id := idA a })) nilV)) rfl) rfl ⟨by rw [HK.out], Box.below_setRow HB.out (by omega) _⟩
    · have HK := Lib.hid (show flagC c u a = { c with id := idA a } from by
        unfold flagC
        rw [if_neg hae, if_pos g2, if_neg g1])
      rw [if_neg g1] at hA
      rw [if_pos g2] at hB
      go_enter Tryd.func54, Tryd.ntmps54
      go_upto_region 1 with fail
      change Code.wp _ _ _ _ (((w.alloc (.cells (stC c nilV) 47)).alloc (.cells u.cells 66)).alloc (.cells (stC Kx.zero nilV) 47))
      generalize ((w.alloc (.cells (stC c nilV) 47)).alloc (.cells u.cells 66)).alloc (.cells (stC Kx.zero nilV) 47) = W at *
      have c0 := U0.out.cell 0 (.int .i64 u.ae) rfl
      have c1 := U0.out.cell 1 (.int .i64 u.flags) rfl
      rw [hk] at c0
      clear g1 g2 h0 hae
      go_wp2_with fail
      refine (PI.out _).mono ?_
      rintro e w1 ⟨rfl, hb⟩
      have S0 := Lib.hid (S0.out.below hb)
      have U0 := Lib.hid (U0.out.below hb)
      have R0 := Lib.hid (R0.out.below hb)
      have HB := Lib.hid (bcall HB.out hb)
      clear hb c0 c1 PI
      have d := S0.out.cell 6 _ rfl
      have fd := S0.out.frozen 6
      go_upto_region 7 with fail
      have XS := S0.out.set (i := 6) (v := .string (idA a)) (cs' := stC ({ c with id := idA a }) nilV) rfl
      have XU := U0.out.off (p := ⟨w.heap.size, 6, none⟩) (by show w.heap.size + 1 ≠ w.heap.size; omega) (.string (idA a))
      have XR := R0.out.off (p := ⟨w.heap.size, 6, none⟩) (by show w.heap.size + 1 + 1 ≠ w.heap.size; omega) (.string (idA a))
      have XB := HB.out.setCell (p := ⟨w.heap.size, 6, none⟩) (by show w.heap.size ≤ w.heap.size; omega) (.string (idA a))
      have S0 := Lib.hid XS
      have U0 := Lib.hid XU
      have R0 := Lib.hid XR
      have HB := Lib.hid XB
      clear XS XU XR XB d fd
      generalize w1.setCell ⟨w.heap.size, 6, none⟩ (.string (idA a)) = W2 at *
      clear hA hB hk h02
      go_wp2_with (first | (refine wpList_loadS (b := w.heap.size) (c := ({ c with id := idA a })) (v := nilV) rfl _ rfl rfl S0.out ?_) | (refine wpList_storeS (b := w.heap.size + 1 + 1) (c := Kx.zero) (c' := ({ c with id := idA a })) (v := nilV) (q := none) (n := 0) (k := 0) rfl _ _ rfl rfl rfl R0.out ?_))
      exact bodyPost_ret (v := .agg (stC (({ c with id := idA a })) nilV)) (results_one rfl _ _ (w.heap.size + 1 + 1) _ rfl shS (R0.out.put (stC (({ c with id := idA a })) nilV)) rfl) rfl ⟨by rw [HK.out], Box.below_setRow HB.out (by omega) _⟩
  · by_cases g1 : 128 ≤ u.flags
    · have HK := Lib.hid (show flagC c u a = c.setP k a from by
        unfold flagC
        rw [if_neg hae, if_neg g2, if_pos g1, hk])
      rw [if_pos g1] at hA
      rw [if_neg g2] at hB
      go_enter Tryd.func54, Tryd.ntmps54
      go_upto_region 1 with fail
      change Code.wp _ _ _ _ (((w.alloc (.cells (stC c nilV) 47)).alloc (.cells u.cells 66)).alloc (.cells (stC Kx.zero nilV) 47))
      generalize ((w.alloc (.cells (stC c nilV) 47)).alloc (.cells u.cells 66)).alloc (.cells (stC Kx.zero nilV) 47) = W at *
      have c0 := U0.out.cell 0 (.int .i64 u.ae) rfl
      have c1 := U0.out.cell 1 (.int .i64 u.flags) rfl
      rw [hk] at c0
      clear g1 g2 h0 hae
      have d := pf_cell S0.out hk4
      have fd := S0.out.frozen k
      go_upto_region 5 with (first | (refine st_yes (v := .pointer (some ⟨w.heap.size, k, none⟩)) (by rfl) rfl (ex_indexAt rfl rfl rfl (indexAt4 w.heap.size k hk4 _)) ?_))
      have XS := S0.out.set (i := k) (v := .string a) (cs' := stC (c.setP k a) nilV) (setP_cells c a nilV hk4)
      have XU := U0.out.off (p := ⟨w.heap.size, k, none⟩) (by show w.heap.size + 1 ≠ w.heap.size; omega) (.string a)
      have XR := R0.out.off (p := ⟨w.heap.size, k, none⟩) (by show w.heap.size + 1 + 1 ≠ w.heap.size; omega) (.string a)
      have XB := HB.out.setCell (p := ⟨w.heap.size, k, none⟩) (by show w.heap.size ≤ w.heap.size; omega) (.string a)
      have S0 := Lib.hid XS
      have U0 := Lib.hid XU
      have R0 := Lib.hid XR
      have HB := Lib.hid XB
      clear XS XU XR XB d fd c0 c1
      generalize W.setCell ⟨w.heap.size, k, none⟩ (.string a) = W at *
      have c0 := U0.out.cell 0 (.int .i64 u.ae) rfl
      have c1 := U0.out.cell 1 (.int .i64 u.flags) rfl
      rw [hk] at c0
      clear PI
      go_wp2_with (first | (refine wpList_loadS (b := w.heap.size) (c := (c.setP k a)) (v := nilV) rfl _ rfl rfl S0.out ?_) | (refine wpList_storeS (b := w.heap.size + 1 + 1) (c := Kx.zero) (c' := (c.setP k a)) (v := nilV) (q := none) (n := 0) (k := 0) rfl _ _ rfl rfl rfl R0.out ?_))
      exact bodyPost_ret (v := .agg (stC ((c.setP k a)) nilV)) (results_one rfl _ _ (w.heap.size + 1 + 1) _ rfl shS (R0.out.put (stC ((c.setP k a)) nilV)) rfl) rfl ⟨by rw [HK.out], Box.below_setRow HB.out (by omega) _⟩
    · have HK := Lib.hid (show flagC c u a = c from by
        unfold flagC
        rw [if_neg hae, if_neg g2, if_neg g1])
      rw [if_neg g1] at hA
      rw [if_neg g2] at hB
      go_enter Tryd.func54, Tryd.ntmps54
      go_upto_region 1 with fail
      change Code.wp _ _ _ _ (((w.alloc (.cells (stC c nilV) 47)).alloc (.cells u.cells 66)).alloc (.cells (stC Kx.zero nilV) 47))
      generalize ((w.alloc (.cells (stC c nilV) 47)).alloc (.cells u.cells 66)).alloc (.cells (stC Kx.zero nilV) 47) = W at *
      have c0 := U0.out.cell 0 (.int .i64 u.ae) rfl
      have c1 := U0.out.cell 1 (.int .i64 u.flags) rfl
      rw [hk] at c0
      clear g1 g2 h0 hae
      clear PI
      go_wp2_with (first | (refine wpList_loadS (b := w.heap.size) (c := c) (v := nilV) rfl _ rfl rfl S0.out ?_) | (refine wpList_storeS (b := w.heap.size + 1 + 1) (c := Kx.zero) (c' := c) (v := nilV) (q := none) (n := 0) (k := 0) rfl _ _ rfl rfl rfl R0.out ?_))
      exact bodyPost_ret (v := .agg (stC (c) nilV)) (results_one rfl _ _ (w.heap.size + 1 + 1) _ rfl shS (R0.out.put (stC (c) nilV)) rfl) rfl ⟨by rw [HK.out], Box.below_setRow HB.out (by omega) _⟩
theorem tell_is (c : Kx) (u : Up) : tellB c u = (!decide (u.hav = 0) && (decide (u.metric = 65535) || (!decide (u.ae = 0) && !decide (c.id.size = 0)))) := rfl
set_option maxHeartbeats 6400000 in
theorem tells_any (c : Kx) (u : Up) (w : World) :
    Calls Tryd.prog 55 #[.agg (stC c nilV), .agg u.cells] w fun e w' => e = .returned (.bool (tellB c u)) ∧ Below w.heap.size w w' := by
  have HK := Lib.hid (tell_is c u)
  have n1 := nil_eq c.id
  have n2 := nil_em c.id
  have S0 := (Bk.Bk.new 47 w (stC c nilV)).old (.cells u.cells 66)
  have U0 := Bk.Bk.new 66 (w.alloc (.cells (stC c nilV) 47)) u.cells
  rw [alloc_size] at U0
  have HB := Lib.hid (balloc (balloc (Below.refl _ w) (.cells (stC c nilV) 47)) (.cells u.cells 66))
  have s6 := S0.cell 6 (.string c.id) rfl
  have c0 := U0.cell 0 (.int .i64 u.ae) rfl
  have c6 := U0.cell 6 (.int .i64 u.metric) rfl
  have c7 := U0.cell 7 (.int .i64 u.hav) rfl
  clear S0 U0
  generalize tellB c u = y at *
  generalize decide (c.id.size = 0) = z at *
  by_cases h7 : u.hav = 0
  · rw [decide_eq_true h7] at HK
    rw [h7] at c7
    clear h7
    go_enter Tryd.func55, Tryd.ntmps55
    go_upto_region 1 with fail
    change Code.wp _ _ _ _ ((w.alloc (.cells (stC c nilV) 47)).alloc (.cells u.cells 66))
    generalize (w.alloc (.cells (stC c nilV) 47)).alloc (.cells u.cells 66) = W at *
    go_wp2
    go_ret
    exact ⟨bool_eq HK.out.symm, HB.out⟩
  have e7 : (u.hav == 0) = false := by simpa using h7
  rw [decide_eq_false h7] at HK
  clear h7
  by_cases h6 : u.metric = 65535
  · rw [decide_eq_true h6] at HK
    rw [h6] at c6
    clear h6
    go_enter Tryd.func55, Tryd.ntmps55
    go_upto_region 1 with fail
    change Code.wp _ _ _ _ ((w.alloc (.cells (stC c nilV) 47)).alloc (.cells u.cells 66))
    generalize (w.alloc (.cells (stC c nilV) 47)).alloc (.cells u.cells 66) = W at *
    go_wp2
    go_ret
    exact ⟨bool_eq HK.out.symm, HB.out⟩
  have e6 : (u.metric == 65535) = false := by simpa using h6
  rw [decide_eq_false h6] at HK
  clear h6
  by_cases h0 : u.ae = 0
  · rw [decide_eq_true h0] at HK
    rw [h0] at c0
    clear h0
    go_enter Tryd.func55, Tryd.ntmps55
    go_upto_region 1 with fail
    change Code.wp _ _ _ _ ((w.alloc (.cells (stC c nilV) 47)).alloc (.cells u.cells 66))
    generalize (w.alloc (.cells (stC c nilV) 47)).alloc (.cells u.cells 66) = W at *
    go_wp2
    go_ret
    exact ⟨bool_eq HK.out.symm, HB.out⟩
  have e0 : (u.ae == 0) = false := by simpa using h0
  have f0 : (u.ae != 0) = true := by rw [bne, e0]; rfl
  rw [decide_eq_false h0] at HK
  clear h0
  cases z
  · go_enter Tryd.func55, Tryd.ntmps55
    go_upto_region 1 with fail
    change Code.wp _ _ _ _ ((w.alloc (.cells (stC c nilV) 47)).alloc (.cells u.cells 66))
    generalize (w.alloc (.cells (stC c nilV) 47)).alloc (.cells u.cells 66) = W at *
    go_wp2
    go_ret
    exact ⟨bool_eq HK.out.symm, HB.out⟩
  go_enter Tryd.func55, Tryd.ntmps55
  go_upto_region 1 with fail
  change Code.wp _ _ _ _ ((w.alloc (.cells (stC c nilV) 47)).alloc (.cells u.cells 66))
  generalize (w.alloc (.cells (stC c nilV) 47)).alloc (.cells u.cells 66) = W at *
  go_wp2
  go_ret
  exact ⟨bool_eq HK.out.symm, HB.out⟩
theorem built_upd (ae plen iv seq met : Int) (a : ByteArray) (sa : Option Addr) (sl : List El) (sc : Nat) : Tryd.prog.built 40 [(0, .int .i64 11), (5, .int .i64 ae), (6, .string a), (7, .int .i64 plen), (14, .int .i64 iv), (12, .int .i64 seq), (10, .int .i64 met), (24, .slice sa sl.length sc)] = some (M.cells { M.zero with kind := 11, ae := ae, pfx := a, plen := plen, interval := iv, seq := seq, metric := met, sa := sa, sl := sl, sc := sc }) := by kernel_rfl
theorem shM' : Sh Tryd.prog 40 25 := ⟨_, Tryd.underlying40, by kernel_rfl⟩
set_option maxHeartbeats 12800000 in
theorem message_any (c : Kx) (d : ByteArray) (u : Up) (a : ByteArray) (w : World) (g : Cnt d u) (ht : u.metric = 65535 ∨ ¬ u.ae = 0) :
    Calls Tryd.prog 56 #[.agg (stC c nilV), .agg u.cells, .string a] w fun e w' => e = .returned (.agg (M.cells { updM c u a with sa := u.sa, sc := u.sc })) ∧ Below w.heap.size w w' := by
  have S0 := Lib.hid (((Bk.Bk.new 47 w (stC c nilV)).old (.cells u.cells 66)).old (.cells M.zero.cells 40))
  have U0 := Bk.Bk.new 66 (w.alloc (.cells (stC c nilV) 47)) u.cells
  rw [alloc_size] at U0
  have U0 := Lib.hid (U0.old (.cells M.zero.cells 40))
  have R0 := Bx.new ((w.alloc (.cells (stC c nilV) 47)).alloc (.cells u.cells 66)) M.zero
  rw [alloc_size, alloc_size] at R0
  have R0 := Lib.hid R0
  have HB := Lib.hid (balloc (balloc (balloc (Below.refl _ w) (.cells (stC c nilV) 47)) (.cells u.cells 66)) (.cells M.zero.cells 40))
  have PF := Lib.hid (fun V => fam_any u.ae V)
  obtain ⟨m0, hm0⟩ : ∃ m : M, m = { M.zero with kind := 11, ae := u.ae, pfx := a, plen := u.plen, interval := u.iv, seq := u.seq, metric := u.metric, sa := u.sa, sl := u.sl, sc := u.sc } := ⟨_, rfl⟩
  by_cases hm : u.metric = 65535
  · have HK := Lib.hid (show ({ updM c u a with sa := u.sa, sc := u.sc } : M) = m0 from by
      rw [hm0]
      unfold updM
      rw [if_pos hm, if_pos hm]
      rfl)
    have HM0 := Lib.hid hm0
    have HMM := Lib.hid hm
    clear hm0 ht g hm
    go_enter Tryd.func56, Tryd.ntmps56
    go_upto_region 1 with fail
    change Code.wp _ _ _ _ (((w.alloc (.cells (stC c nilV) 47)).alloc (.cells u.cells 66)).alloc (.cells M.zero.cells 40))
    generalize ((w.alloc (.cells (stC c nilV) 47)).alloc (.cells u.cells 66)).alloc (.cells M.zero.cells 40) = W at *
    have c0 := U0.out.cell 0 (.int .i64 u.ae) rfl
    have c2 := U0.out.cell 2 (.int .i64 u.plen) rfl
    have c4 := U0.out.cell 4 (.int .i64 u.iv) rfl
    have c5 := U0.out.cell 5 (.int .i64 u.seq) rfl
    have c6 := U0.out.cell 6 (.int .i64 u.metric) rfl
    have c9 := U0.out.cell 9 (.slice u.sa u.sl.length u.sc) rfl
    have hlt := R0.out.lt
    go_upto_region 2 with (first | (refine wpList_builtK rfl 40 _ rfl (M.cells { M.zero with kind := 11, ae := u.ae, pfx := a, plen := u.plen, interval := u.iv, seq := u.seq, metric := u.metric, sa := u.sa, sl := u.sl, sc := u.sc }) (by kernel_rfl) ?_) | (refine wpList_storeM (b := W.heap.size) (m := M.zero) (m' := { M.zero with kind := 11, ae := u.ae, pfx := a, plen := u.plen, interval := u.iv, seq := u.seq, metric := u.metric, sa := u.sa, sl := u.sl, sc := u.sc }) rfl _ _ rfl rfl rfl (Bx.new W M.zero) ?_))
    change Code.wp _ _ _ _ ((W.alloc (.cells M.zero.cells 40)).setRow W.heap.size (M.cells { M.zero with kind := 11, ae := u.ae, pfx := a, plen := u.plen, interval := u.iv, seq := u.seq, metric := u.metric, sa := u.sa, sl := u.sl, sc := u.sc }))
    rw [World.setRow_alloc_new, ← HM0.out]
    have bel := balloc (Below.refl W.heap.size W) (.cells m0.cells 40)
    have S0 := Lib.hid (S0.out.below bel)
    have U0 := Lib.hid (U0.out.below bel)
    have R0 := Lib.hid (R0.out.below bel)
    have HB := Lib.hid (bcall HB.out bel)
    have X0 := Lib.hid (Bx.new W m0)
    clear bel c0 c2 c4 c5 c6 c9
    generalize W.alloc (.cells m0.cells 40) = Y at *
    generalize W.heap.size = gx at *
    have c6 := U0.out.cell 6 (.int .i64 u.metric) rfl
    rw [HMM.out] at c6
    go_wp2_with (first | (refine wpList_loadM (b := gx) (m := m0) rfl _ rfl rfl X0.out ?_) | (refine wpList_storeM (b := w.heap.size + 1 + 1) (m := M.zero) (m' := m0) rfl _ _ rfl rfl rfl R0.out ?_))
    exact bodyPost_ret (v := .agg (M.cells (m0))) (results_one rfl _ _ (w.heap.size + 1 + 1) _ rfl shM' (R0.out.put (m' := m0)) rfl) rfl ⟨by rw [HK.out], Box.below_setRow HB.out (by omega) _⟩
  have hm2 : (u.metric == 65535) = false := by simpa using hm
  have hm3 : (u.metric != 65535) = true := by rw [bne, hm2]; rfl
  obtain ⟨f, hf, hf2⟩ : ∃ f : Nat, fam u.ae = f ∧ f < 2 := by
    have h0 := g.ae0
    have h3 := g.ae3
    have h4 := ht.resolve_left hm
    rcases (show u.ae = 1 ∨ u.ae = 2 ∨ u.ae = 3 by omega) with e | e | e <;> rw [e]
    · exact ⟨0, rfl, by decide⟩
    · exact ⟨1, rfl, by decide⟩
    · exact ⟨1, rfl, by decide⟩
  have HK := Lib.hid (show ({ updM c u a with sa := u.sa, sc := u.sc } : M) = { m0 with id := c.id, next := c.nx f } from by
    rw [hm0]
    unfold updM
    rw [if_neg hm, if_neg hm, hf])
  rw [hf] at PF
  have HM0 := Lib.hid hm0
  clear hm0 ht g hf
  go_enter Tryd.func56, Tryd.ntmps56
  go_upto_region 1 with fail
  change Code.wp _ _ _ _ (((w.alloc (.cells (stC c nilV) 47)).alloc (.cells u.cells 66)).alloc (.cells M.zero.cells 40))
  generalize ((w.alloc (.cells (stC c nilV) 47)).alloc (.cells u.cells 66)).alloc (.cells M.zero.cells 40) = W at *
  have c0 := U0.out.cell 0 (.int .i64 u.ae) rfl
  have c2 := U0.out.cell 2 (.int .i64 u.plen) rfl
  have c4 := U0.out.cell 4 (.int .i64 u.iv) rfl
  have c5 := U0.out.cell 5 (.int .i64 u.seq) rfl
  have c6 := U0.out.cell 6 (.int .i64 u.metric) rfl
  have c9 := U0.out.cell 9 (.slice u.sa u.sl.length u.sc) rfl
  have hlt := R0.out.lt
  go_upto_region 2 with (first | (refine wpList_builtK rfl 40 _ rfl (M.cells { M.zero with kind := 11, ae := u.ae, pfx := a, plen := u.plen, interval := u.iv, seq := u.seq, metric := u.metric, sa := u.sa, sl := u.sl, sc := u.sc }) (by kernel_rfl) ?_) | (refine wpList_storeM (b := W.heap.size) (m := M.zero) (m' := { M.zero with kind := 11, ae := u.ae, pfx := a, plen := u.plen, interval := u.iv, seq := u.seq, metric := u.metric, sa := u.sa, sl := u.sl, sc := u.sc }) rfl _ _ rfl rfl rfl (Bx.new W M.zero) ?_))
  change Code.wp _ _ _ _ ((W.alloc (.cells M.zero.cells 40)).setRow W.heap.size (M.cells { M.zero with kind := 11, ae := u.ae, pfx := a, plen := u.plen, interval := u.iv, seq := u.seq, metric := u.metric, sa := u.sa, sl := u.sl, sc := u.sc }))
  rw [World.setRow_alloc_new, ← HM0.out]
  have bel := balloc (Below.refl W.heap.size W) (.cells m0.cells 40)
  have S0 := Lib.hid (S0.out.below bel)
  have U0 := Lib.hid (U0.out.below bel)
  have R0 := Lib.hid (R0.out.below bel)
  have HB := Lib.hid (bcall HB.out bel)
  have X0 := Lib.hid (Bx.new W m0)
  clear bel c0 c2 c4 c5 c6 c9
  generalize W.alloc (.cells m0.cells 40) = Y at *
  generalize W.heap.size = gx at *
  have c6 := U0.out.cell 6 (.int .i64 u.metric) rfl
  have s6 := S0.out.cell 6 (.string c.id) rfl
  have d := X0.out.cs.c11
  have fd := X0.out.frozen 11
  go_upto_region 4 with fail
  clear c6 s6 hm hm2 hm3
  have X0 := Lib.hid (X0.out.set (i := 11) (v := .string c.id) (m' := { m0 with id := c.id }) rfl)
  have S0 := Lib.hid (S0.out.off (p := ⟨gx, 11, none⟩) (by show w.heap.size ≠ gx; omega) (.string c.id))
  have U0 := Lib.hid (U0.out.off (p := ⟨gx, 11, none⟩) (by show w.heap.size + 1 ≠ gx; omega) (.string c.id))
  have R0 := Lib.hid (R0.out.off (p := ⟨gx, 11, none⟩) (by show w.heap.size + 1 + 1 ≠ gx; omega) (.string c.id))
  have HB := Lib.hid (HB.out.setCell (p := ⟨gx, 11, none⟩) (by show w.heap.size ≤ gx; omega) (.string c.id))
  clear d fd
  generalize Y.setCell ⟨gx, 11, none⟩ (.string c.id) = Y1 at *
  have c0 := U0.out.cell 0 (.int .i64 u.ae) rfl
  go_wp2_with fail
  refine (PF.out _).mono ?_
  rintro e w' ⟨rfl, rfl⟩
  have s4 := nx_cell S0.out hf2
  have d := X0.out.cs.c9
  have fd := X0.out.frozen 9
  go_upto_region 5 with (first | (refine st_yes (v := .pointer (some ⟨w.heap.size, 4 + f, none⟩)) (by rfl) rfl (ex_indexAt rfl rfl rfl (indexAt2 w.heap.size f hf2 _)) ?_))
  clear c0 s4
  have X0 := Lib.hid (X0.out.set (i := 9) (v := .string (c.nx f)) (m' := { m0 with id := c.id, next := c.nx f }) rfl)
  have S0 := Lib.hid (S0.out.off (p := ⟨gx, 9, none⟩) (by show w.heap.size ≠ gx; omega) (.string (c.nx f)))
  have U0 := Lib.hid (U0.out.off (p := ⟨gx, 9, none⟩) (by show w.heap.size + 1 ≠ gx; omega) (.string (c.nx f)))
  have R0 := Lib.hid (R0.out.off (p := ⟨gx, 9, none⟩) (by show w.heap.size + 1 + 1 ≠ gx; omega) (.string (c.nx f)))
  have HB := Lib.hid (HB.out.setCell (p := ⟨gx, 9, none⟩) (by show w.heap.size ≤ gx; omega) (.string (c.nx f)))
  clear d fd
  generalize Y1.setCell ⟨gx, 9, none⟩ (.string (c.nx f)) = Y2 at *
  go_wp2_with (first | (refine wpList_loadM (b := gx) (m := { m0 with id := c.id, next := c.nx f }) rfl _ rfl rfl X0.out ?_) | (refine wpList_storeM (b := w.heap.size + 1 + 1) (m := M.zero) (m' := { m0 with id := c.id, next := c.nx f }) rfl _ _ rfl rfl rfl R0.out ?_))
  exact bodyPost_ret (v := .agg (M.cells ({ m0 with id := c.id, next := c.nx f }))) (results_one rfl _ _ (w.heap.size + 1 + 1) _ rfl shM' (R0.out.put (m' := { m0 with id := c.id, next := c.nx f })) rfl) rfl ⟨by rw [HK.out], Box.below_setRow HB.out (by omega) _⟩
end Go.Proofs.YteecialdkfaejaaDoor.K4
