/-
  The program's calls on what stands ahead of the entries. Condition: at most 2^20 bytes.
-/
import Derived.Test.YtfaobpmbiocafaaCk
import Derived.Test.YtfaobpmbiocafaaHx
namespace Go.Proofs.Ytfaobpmbiocafaa.Hd
open Go.ChangeShapes Go.WideShapes Go.ChangeAt Go.RowKit
open Go.Proofs.Ytfaobpmbiocafaa.Ms
open Go.Proofs.Ytfaobpmbiocafaa.Box
open Go.Proofs.Ytfaobpmbiocafaa.Rp
open Go.Proofs.Ytfaobpmbiocafaa.Ps
open Go.Proofs.Ytfaobpmbiocafaa.Rt
open Go.Proofs.Ytfaobpmbiocafaa.Hs
open Go.Proofs.Ytfaobpmbiocafaa.Ck
open Go.Proofs.Ytfaobpmbiocafaa.Hx
set_option linter.unusedVariables false
set_option maxRecDepth 100000

theorem pair_eq {a c : Int} {p : Int × Int} (h : p = (a, c)) : Ending.returned (.tuple #[.int .i64 a, .int .i64 c]) = .returned (.tuple #[.int .i64 p.1, .int .i64 p.2]) := by rw [h]

set_option maxHeartbeats 1600000 in
theorem head_hd (b : ByteArray) (w : World) (hs : b.size ≤ 1048576) : Calls Try.prog 16 #[.string b] w fun r w' => r = .returned (.tuple #[.int .i64 (hdAt b).1, .int .i64 (hdAt b).2]) ∧ w = w' := by
  have HA := Lib.hid (show hdAt b = if b.size < 4 then ((b.size : Int), 2) else if isCmd (bt b 0) = false then (0, 4) else if isCmd (bt b 1) = false then (1, 4) else if Oct.zeroB (b.extract 2 4).data.toList = false then (2, 5) else (0, 0) from rfl)
  by_cases h4 : b.size < 4
  · have HZ := Lib.hid (show hdAt b = ((b.size : Int), 2) by rw [HA.out, if_pos h4])
    clear HA
    go_enter Try.func16, Try.ntmps16
    go_wp2
    go_ret2
    exact ⟨pair_eq HZ.out, rfl⟩
  have HA := Lib.hid (show hdAt b = if isCmd (bt b 0) = false then (0, 4) else if isCmd (bt b 1) = false then (1, 4) else if Oct.zeroB (b.extract 2 4).data.toList = false then (2, 5) else (0, 0) by rw [HA.out, if_neg h4])
  have k0 : 0 < b.size := by omega
  have k1 : 1 < b.size := by omega
  have P0 : Hid (∀ W, Calls Try.prog 40 #[.int .i64 (b[0].toNat : Int)] W fun e w' => e = .returned (.bool (isCmd (bt b 0))) ∧ W = w') := Lib.hid (fun W => by rw [← bt_eq b 0 k0]; exact cmd_any _ W)
  have P1 : Hid (∀ W, Calls Try.prog 41 #[.int .i64 (b[1].toNat : Int)] W fun e w' => e = .returned (.bool (isCmd (bt b 1))) ∧ W = w') := Lib.hid (fun W => by rw [← bt_eq b 1 k1]; exact ver_any _ W)
  have P2 := Lib.hid (fun W => Oct.zero_any (b.extract 2 4) W (by unfold maxLen; simp; omega))
  generalize isCmd (bt b 0) = x1 at *
  generalize isCmd (bt b 1) = x2 at *
  generalize Oct.zeroB (b.extract 2 4).data.toList = x3 at *
  have u0 := b[0].toNat_lt
  have u1 := b[1].toNat_lt
  cases x1
  · have HZ := Lib.hid (show hdAt b = (0, 4) by rw [HA.out]; rfl)
    clear HA
    go_enter Try.func16, Try.ntmps16
    go_wp2_with fail
    refine (P0.out _).mono ?_
    rintro e w1 ⟨rfl, rfl⟩
    go_wp2
    go_ret2
    exact ⟨pair_eq HZ.out, rfl⟩
  cases x2
  · have HZ := Lib.hid (show hdAt b = (1, 4) by rw [HA.out]; rfl)
    clear HA
    go_enter Try.func16, Try.ntmps16
    go_wp2_with fail
    refine (P0.out _).mono ?_
    rintro e w1 ⟨rfl, rfl⟩
    go_wp2_with fail
    refine (P1.out _).mono ?_
    rintro e w1 ⟨rfl, rfl⟩
    go_wp2
    go_ret2
    exact ⟨pair_eq HZ.out, rfl⟩
  have HZ := Lib.hid (show hdAt b = if x3 = false then (2, 5) else (0, 0) by rw [HA.out]; rfl)
  clear HA
  cases x3
  all_goals
    go_enter Try.func16, Try.ntmps16
    go_wp2_with fail
    refine (P0.out _).mono ?_
    rintro e w1 ⟨rfl, rfl⟩
    go_wp2_with fail
    refine (P1.out _).mono ?_
    rintro e w1 ⟨rfl, rfl⟩
    go_wp2_with fail
    refine (P2.out _).mono ?_
    rintro e w1 ⟨rfl, rfl⟩
    go_wp2
    go_ret2
    exact ⟨pair_eq HZ.out, rfl⟩

set_option maxHeartbeats 1600000 in
theorem count_hd (b : ByteArray) (w : World) (hs : b.size ≤ 1048576) (h4 : 4 ≤ b.size) : Calls Try.prog 17 #[.string b] w fun r w' => r = .returned (.tuple #[.int .i64 (cnAt b).1, .int .i64 (cnAt b).2]) ∧ w = w' := by
  have HA := Lib.hid (show cnAt b = if (b.size - 4) % 20 ≠ 0 then ((b.size : Int), 2) else if b.size - 4 = 0 then ((b.size : Int), 8) else if 500 < b.size - 4 then (504, 8) else (0, 0) from rfl)
  by_cases h1 : (b.size - 4) % 20 ≠ 0
  · have HZ := Lib.hid (show cnAt b = ((b.size : Int), 2) by rw [HA.out, if_pos h1])
    have e1 : (((b.size : Int) - 4) % 20 == 0) = false := by rw [beq_eq_false_iff_ne]; omega
    have e2 : (((b.size : Int) - 4) % 20 != 0) = true := by rw [bne, e1]; rfl
    clear HA h1
    go_enter Try.func17, Try.ntmps17
    go_wp2
    go_ret2
    exact ⟨pair_eq HZ.out, rfl⟩
  have e1 : (((b.size : Int) - 4) % 20 == 0) = true := by rw [beq_iff_eq]; omega
  have e2 : (((b.size : Int) - 4) % 20 != 0) = false := by rw [bne, e1]; rfl
  by_cases h2 : b.size - 4 = 0
  · have HZ := Lib.hid (show cnAt b = ((b.size : Int), 8) by rw [HA.out, if_neg h1, if_pos h2])
    have e3 : ((b.size : Int) == 4) = true := by rw [beq_iff_eq]; omega
    have e4 : ((b.size : Int) - 4 == 0) = true := by rw [beq_iff_eq]; omega
    clear HA h1 h2
    go_enter Try.func17, Try.ntmps17
    go_wp2
    go_ret2
    exact ⟨pair_eq HZ.out, rfl⟩
  have e4 : ((b.size : Int) - 4 == 0) = false := by rw [beq_eq_false_iff_ne]; omega
  by_cases h3 : 500 < b.size - 4
  · have HZ := Lib.hid (show cnAt b = (504, 8) by rw [HA.out, if_neg h1, if_neg h2, if_pos h3])
    clear HA h1 h2
    have h5 : 504 < b.size := by omega
    go_enter Try.func17, Try.ntmps17
    go_wp2
    go_ret2
    exact ⟨pair_eq HZ.out, rfl⟩
  have HZ := Lib.hid (show cnAt b = (0, 0) by rw [HA.out, if_neg h1, if_neg h2, if_neg h3])
  clear HA h1 h2
  have h5 : b.size ≤ 504 := by omega
  go_enter Try.func17, Try.ntmps17
  go_wp2
  go_ret2
  exact ⟨pair_eq HZ.out, rfl⟩

theorem idx (b : ByteArray) (k : Nat) (i : Int) (hi : i = k) (h : k < b.size) (W : World) : (Instr.index 9 (.string b) (.int .i64 i)).run Try.prog W = .ok (.int .u8 (bt b k)) W := by
  subst hi
  rw [run_index_string W 9 b .i64 (k : Int) Try.underlying9, dif_pos ⟨by omega, by omega⟩]
  rw [← bt_eq b k h]
  rfl
set_option maxHeartbeats 3200000 in
theorem read_hd (b : ByteArray) (w : World) (hs : b.size ≤ 1048576) (h4 : 24 ≤ b.size) : Calls Try.prog 18 #[.string b] w fun r w' => r = .returned (.tuple #[.agg (hdM b).cells, .int .i64 (atN b : Nat)]) ∧ Below w.heap.size w w' := by
  have sl := Ent.sl_m b 4 24 4 24 rfl rfl (by omega) (by omega)
  have i0 := idx b 0 0 rfl (by omega)
  have i1 := idx b 1 1 rfl (by omega)
  have v0 := conv8 (bt b 0) (bt_nn _ _) (bt_lt _ _)
  have v1 := conv8 (bt b 1) (bt_nn _ _) (bt_lt _ _)
  have P1 := Lib.hid (fun W => Au.get_any (b.extract 4 24) W)
  have hb : (P : Program) → True := fun _ => trivial
  have b0 := Bx.new w M.zero
  have bel := balloc (Below.refl _ w) (.cells M.zero.cells 34)
  have hlt := b0.lt
  go_enter Try.func18, Try.ntmps18
  go_upto_region 1 with fail
  change Code.wp _ _ _ _ (w.alloc (.cells M.zero.cells 34))
  generalize w.alloc (.cells M.zero.cells 34) = V at *
  have VS := V.drew
  refine wp_region_held_drew (S := fun _ => True) (by kernel_rfl) trivial (fun hS => ?_)
  have b0 : Bx V.drew w.heap.size M.zero := b0
  have bel := bel.drew
  have hlt : w.heap.size < V.drew.heap.size := hlt
  generalize V.drew = W at *
  clear VS
  refine H.take (i := 0) (v := .string b) (by simp only [List.getElem?_toArray, List.getElem?_cons_zero]; rfl) (by kernel_rfl) rfl (by kernel_rfl) (by kernel_rfl) (by kernel_rfl) (fun _ _ _ h => h) ?h0 hS ?_
  case h0 => exact fun w _ => rfl
  try simp only [Act.put, List.setIfInBounds_toArray, List.set_cons_zero, List.set_cons_succ]
  refine H.take (i := 1) (v := .int .u8 (bt b 0)) (by simp only [List.getElem?_toArray, List.getElem?_cons_succ, List.getElem?_cons_zero]; rfl) (by kernel_rfl) rfl (by kernel_rfl) (by kernel_rfl) (by kernel_rfl) (fun _ _ _ h => h) ?h1 hS ?_
  case h1 => (intro w hw; go_simp; first | done | (with_reducible rfl))
  try simp only [Act.put, List.setIfInBounds_toArray, List.set_cons_zero, List.set_cons_succ]
  refine H.take (i := 2) (v := .int .i64 (bt b 0)) (by simp only [List.getElem?_toArray, List.getElem?_cons_succ, List.getElem?_cons_zero]; rfl) (by kernel_rfl) rfl (by kernel_rfl) (by kernel_rfl) (by kernel_rfl) (fun _ _ _ h => h) ?h2 hS ?_
  case h2 => (intro w hw; go_simp; first | done | (with_reducible rfl))
  try simp only [Act.put, List.setIfInBounds_toArray, List.set_cons_zero, List.set_cons_succ]
  refine H.take (i := 3) (v := .string b) (by simp only [List.getElem?_toArray, List.getElem?_cons_succ, List.getElem?_cons_zero]; rfl) (by kernel_rfl) rfl (by kernel_rfl) (by kernel_rfl) (by kernel_rfl) (fun _ _ _ h => h) ?h3 hS ?_
  case h3 => exact fun w _ => rfl
  try simp only [Act.put, List.setIfInBounds_toArray, List.set_cons_zero, List.set_cons_succ]
  refine H.take (i := 4) (v := .int .u8 (bt b 1)) (by simp only [List.getElem?_toArray, List.getElem?_cons_succ, List.getElem?_cons_zero]; rfl) (by kernel_rfl) rfl (by kernel_rfl) (by kernel_rfl) (by kernel_rfl) (fun _ _ _ h => h) ?h4 hS ?_
  case h4 => (intro w hw; go_simp; first | done | (with_reducible rfl))
  try simp only [Act.put, List.setIfInBounds_toArray, List.set_cons_zero, List.set_cons_succ]
  refine H.take (i := 5) (v := .int .i64 (bt b 1)) (by simp only [List.getElem?_toArray, List.getElem?_cons_succ, List.getElem?_cons_zero]; rfl) (by kernel_rfl) rfl (by kernel_rfl) (by kernel_rfl) (by kernel_rfl) (fun _ _ _ h => h) ?h5 hS ?_
  case h5 => (intro w hw; go_simp; first | done | (with_reducible rfl))
  try simp only [Act.put, List.setIfInBounds_toArray, List.set_cons_zero, List.set_cons_succ]
  refine H.take (i := 6) (v := .agg (base b).cells) (by simp only [List.getElem?_toArray, List.getElem?_cons_succ, List.getElem?_cons_zero]; rfl) (by kernel_rfl) rfl (by kernel_rfl) (by kernel_rfl) (by kernel_rfl) (fun _ _ _ h => h) ?h6 hS ?_
  case h6 => (intro w hw; exact ex_built rfl (by kernel_rfl))
  try simp only [Act.put, List.setIfInBounds_toArray, List.set_cons_zero, List.set_cons_succ]
  refine wpAnyH_ready (rs := [7]) (by kernel_rfl) (by simp) ?_
  refine AllReadyH.cons rfl (fun K hK => ?_) AllReadyH.nil
  go_simp
  refine hK.out _ _ trivial (fun _ => ?_)
  clear hK K
  try simp only [Act.put, List.setIfInBounds_toArray, List.set_cons_zero, List.set_cons_succ]
  refine Hx.H.storeRow (i := 8) (by simp only [List.getElem?_toArray, List.getElem?_cons_succ, List.getElem?_cons_zero]; rfl) (by kernel_rfl) rfl rfl (by kernel_rfl) W.heap.size (base b).cells rfl rfl 34 M.zero.cells (heap_alloc_new _ _) infoM rfl (oneM _) trivial ?_
  refine wpAnyH_done (by kernel_rfl) ?_ _
  have B0 : Bx (W.alloc (.cells (base b).cells 34)) w.heap.size M.zero := b0.old _
  have B1 : Bx (W.alloc (.cells (base b).cells 34)) W.heap.size (base b) := Bx.new W _
  have BL := balloc bel (.cells (base b).cells 34)
  change Exit.then _ _ Exit.normal _ ((W.alloc (.cells M.zero.cells 34)).setRow W.heap.size (base b).cells)
  rw [World.setRow_alloc_new]
  clear b0 bel
  generalize W.alloc (.cells (base b).cells 34) = V at *
  generalize W.heap.size = g at *
  have HX : Hid (hdM b = { base b with auth := if bt b 1 == 2 && Au.isA (b.extract 4 24) then Au.getA (b.extract 4 24) else ByteArray.empty }) := Lib.hid rfl
  have HY : Hid (atN b = if bt b 1 == 2 && Au.isA (b.extract 4 24) then 24 else 4) := Lib.hid rfl
  have c2 : V.cell? ⟨g, 2, none⟩ = some (.int .i64 (bt b 1)) := B1.cs.c2
  have HB0 := Lib.hid B0
  have HB1 := Lib.hid B1
  clear B0 B1 i0 i1 v0 v1
  generalize Au.isA (b.extract 4 24) = x1 at *
  generalize Au.getA (b.extract 4 24) = t at *
  go_wp2_with fail
  refine (P1.out _).mono ?_
  rintro e w1 ⟨rfl, rfl⟩
  cases x1
  · have HZ : Hid (hdM b = base b ∧ atN b = 4) := Lib.hid ⟨by rw [HX.out]; simp [base, M.zero], by rw [HY.out]; simp⟩
    clear HX HY
    go_wp2_with (first | (refine wpList_loadM (b := g) (m := base b) rfl _ rfl rfl HB1.out ?_) | (refine wpList_storeM (b := w.heap.size) (m := M.zero) (m' := base b) rfl _ _ rfl rfl rfl HB0.out ?_))
    rw [HZ.out.1, HZ.out.2]
    exact bodyPost_ret (v := .tuple #[.agg (base b).cells, .int .i64 4]) (Own.results_pair (ty := 34) rfl _ _ w.heap.size _ rfl (Own.loadVarM (HB0.out.put (m' := base b))) _ rfl) rfl ⟨rfl, below_setRow BL (Nat.le_refl _) _⟩
  by_cases h2 : bt b 1 = 2
  rotate_left
  · have e2 : (bt b 1 == 2) = false := by simpa using h2
    have HZ : Hid (hdM b = base b ∧ atN b = 4) := Lib.hid ⟨by rw [HX.out, e2]; simp [base, M.zero], by rw [HY.out, e2]; rfl⟩
    have e3 : (bt b 1 != 2) = true := by rw [bne, e2]; rfl
    clear HX HY h2
    go_wp2_with (first | (refine wpList_loadM (b := g) (m := base b) rfl _ rfl rfl HB1.out ?_) | (refine wpList_storeM (b := w.heap.size) (m := M.zero) (m' := base b) rfl _ _ rfl rfl rfl HB0.out ?_))
    rw [HZ.out.1, HZ.out.2]
    exact bodyPost_ret (v := .tuple #[.agg (base b).cells, .int .i64 4]) (Own.results_pair (ty := 34) rfl _ _ w.heap.size _ rfl (Own.loadVarM (HB0.out.put (m' := base b))) _ rfl) rfl ⟨rfl, below_setRow BL (Nat.le_refl _) _⟩
  have e2 : (bt b 1 == 2) = true := by simpa using h2
  have e3 : (bt b 1 != 2) = false := by rw [bne, e2]; rfl
  have HZ : Hid (hdM b = { base b with auth := t } ∧ atN b = 24) := Lib.hid ⟨by rw [HX.out, e2]; rfl, by rw [HY.out, e2]; rfl⟩
  clear HX HY h2
  go_upto_region 5 with fail
  have c3 := HB1.out.cs.c3
  have f3 := HB1.out.frozen 3
  go_upto_region 6 with fail
  have HB2 : Hid (Bx (w1.setCell ⟨g, 3, none⟩ (.string t)) g { base b with auth := t }) := Lib.hid (HB1.out.set rfl)
  have HB3 : Hid (Bx (w1.setCell ⟨g, 3, none⟩ (.string t)) w.heap.size M.zero) := Lib.hid (HB0.out.off (by show w.heap.size ≠ g; omega) _)
  have BL2 := BL.setCell (p := ⟨g, 3, none⟩) (by show w.heap.size ≤ g; omega) (.string t)
  clear HB0 HB1 BL c2 c3 f3
  generalize w1.setCell ⟨g, 3, none⟩ (.string t) = V2 at *
  go_wp2_with (first | (refine wpList_loadM (b := g) (m := { base b with auth := t }) rfl _ rfl rfl HB2.out ?_) | (refine wpList_storeM (b := w.heap.size) (m := M.zero) (m' := { base b with auth := t }) rfl _ _ rfl rfl rfl HB3.out ?_))
  rw [HZ.out.1, HZ.out.2]
  exact bodyPost_ret (v := .tuple #[.agg (M.cells { base b with auth := t }), .int .i64 24]) (Own.results_pair (ty := 34) rfl _ _ w.heap.size _ rfl (Own.loadVarM (HB3.out.put (m' := { base b with auth := t }))) _ rfl) rfl ⟨rfl, below_setRow BL2 (Nat.le_refl _) _⟩
end Go.Proofs.Ytfaobpmbiocafaa.Hd
