/-
  MsgTells, of any two messages and any two numbers: whether the messages are the same, whether the first is bare, how many bytes its Subs have, and whether they may be, are the document's. No condition.
-/
import Derived.Test.YtnjaoccienijbaaOpen
import Derived.Test.YtnjaoccienijbaaAw
import Derived.WalkKit
import Derived.ProofKit
import Derived.OpenShut
import Derived.ShutString
namespace Go.Proofs.Ytnjaoccienijbaa.msgTells
open Go.ChangeShapes Go.WideShapes Go.ChangeAt Go.RowKit
open Go.Proofs.Ytnjaoccienijbaa.Ms
open Go.Proofs.Ytnjaoccienijbaa.Box
open Go.Proofs.Ytnjaoccienijbaa.Same
open Go.Proofs.Ytnjaoccienijbaa.SameP
open Go.Proofs.Ytnjaoccienijbaa.RSame
open Go.Proofs.Ytnjaoccienijbaa.Hs
open Go.Proofs.Ytnjaoccienijbaa.Or
open Go.Proofs.Ytnjaoccienijbaa.Bare
open Go.Proofs.Ytnjaoccienijbaa.Cnt
open Go.Proofs.Ytnjaoccienijbaa.Few
open Go.Proofs.Ytnjaoccienijbaa.All
open Go.Proofs.Ytnjaoccienijbaa.Aw
open Go.Proofs.Ytnjaoccienijbaa.Open
set_option linter.unusedVariables false

theorem own : ownKnob Try.prog.godebug = none := by kernel_rfl

theorem small_le {n : Nat} {l : List El} (h : small n l = true) : ∀ x ∈ l, x.1.size ≤ n := by
  intro x hx
  have := List.all_eq_true.1 h x hx
  simpa using this
theorem bytes_small {n : Nat} : ∀ {l : List El}, small n l = true → bytesN l ≤ (n + 2) * l.length
  | [], _ => by simp [bytesN]
  | x :: l, h => by
    have h1 := small_le h x (by simp)
    have h2 : small n l = true := by
      unfold small at h ⊢
      simp only [List.all_cons, Bool.and_eq_true] at h
      exact h.2
    have ih := bytes_small h2
    have e : bytesN (x :: l) = (2 + x.1.size) + bytesN l := by simp [bytesN]
    rw [e, List.length_cons, Nat.mul_succ]
    omega
theorem few_facts {m : M} (h : fewB m = true) : m.ll.length ≤ 300 ∧ m.sl.length ≤ 60 ∧ small 300 m.sl = true := by
  unfold fewB at h
  simp only [Bool.and_eq_true, decide_eq_true_eq] at h
  exact ⟨h.1.1.1.1.1.1.1, h.1.1.1.1.1.1.2, h.2⟩

/-- What stays: two messages, two numbers. -/
def S4 (w : World) (a b : M) (t u : Int) (W : World) : Prop := Bx W w.heap.size a ∧ Bx W (w.heap.size + 1) b ∧ (W.cell? ⟨w.heap.size + 1 + 1, 0, none⟩ = some (.int .i64 t) ∧ W.cell? ⟨w.heap.size + 1 + 1, 1, none⟩ = some (.int .i64 u) ∧ w.heap.size + 1 + 1 < W.heap.size) ∧ a.In W ∧ b.In W ∧ Below w.heap.size w W
theorem S4.keep {w : World} {a b : M} {t u : Int} (W w1 : World) (h : S4 w a b t u W) (hb : Below W.heap.size W w1) : S4 w a b t u w1 :=
  ⟨h.1.below hb, h.2.1.below hb, ⟨(hb.cell (p := ⟨w.heap.size + 1 + 1, 0, none⟩) h.2.2.1.2.2).trans h.2.2.1.1, (hb.cell (p := ⟨w.heap.size + 1 + 1, 1, none⟩) h.2.2.1.2.2).trans h.2.2.1.2.1, Nat.lt_of_lt_of_le h.2.2.1.2.2 hb.size⟩, h.2.2.2.1.below hb, h.2.2.2.2.1.below hb, bcall h.2.2.2.2.2 hb⟩

theorem start4 (w : World) (a b : M) (t u : Int) :
    Bx (((w.alloc (.cells a.cells 25)).alloc (.cells b.cells 25)).alloc (.cells #[.int .i64 t, .int .i64 u] 26)) w.heap.size a ∧
    Bx (((w.alloc (.cells a.cells 25)).alloc (.cells b.cells 25)).alloc (.cells #[.int .i64 t, .int .i64 u] 26)) (w.heap.size + 1) b ∧
    ((((w.alloc (.cells a.cells 25)).alloc (.cells b.cells 25)).alloc (.cells #[.int .i64 t, .int .i64 u] 26)).cell? ⟨w.heap.size + 1 + 1, 0, none⟩ = some (.int .i64 t) ∧
     (((w.alloc (.cells a.cells 25)).alloc (.cells b.cells 25)).alloc (.cells #[.int .i64 t, .int .i64 u] 26)).cell? ⟨w.heap.size + 1 + 1, 1, none⟩ = some (.int .i64 u) ∧
     w.heap.size + 1 + 1 < (((w.alloc (.cells a.cells 25)).alloc (.cells b.cells 25)).alloc (.cells #[.int .i64 t, .int .i64 u] 26)).heap.size) ∧
    Below w.heap.size w (((w.alloc (.cells a.cells 25)).alloc (.cells b.cells 25)).alloc (.cells #[.int .i64 t, .int .i64 u] 26)) := by
  obtain ⟨h1, h2, h3⟩ := SameP.start w a b
  have hs : ((w.alloc (.cells a.cells 25)).alloc (.cells b.cells 25)).heap.size = w.heap.size + 1 + 1 := by rw [alloc_size, alloc_size]
  have hn := heap_alloc_new ((w.alloc (.cells a.cells 25)).alloc (.cells b.cells 25)) (.cells #[.int .i64 t, .int .i64 u] 26)
  rw [hs] at hn
  exact ⟨h1.old _, h2.old _, ⟨by rw [cell_of_row _ _ 0 _ _ _ hn]; rfl, by rw [cell_of_row _ _ 1 _ _ _ hn]; rfl, by rw [alloc_size, hs]; omega⟩, balloc h3 _⟩

set_option maxHeartbeats 3200000 in
set_option maxRecDepth 100000 in
theorem walk (a b : M) (t u : Int) (w : World) (ad : DRow w a.la a.ll) (asr : SRow w a.sa a.sl) (bd : DRow w b.la b.ll) (bs : SRow w b.sa b.sl) :
    Calls Try.prog 3 #[.agg a.cells, .agg b.cells, .agg #[.int .i64 t, .int .i64 u]] w fun e w' => e = .returned (.bool true) ∧ Below w.heap.size w w' := by
  obtain ⟨b1, b2, b3, bel⟩ := start4 w a b t u
  have PA := Lib.hid (fun W (h : Below w.heap.size w W) => few_any a W (ad.below h) (asr.below h))
  have PB := Lib.hid (fun W (h : Below w.heap.size w W) => few_any b W (bd.below h) (bs.below h))
  have HA := Lib.hid (fun W (h : Below w.heap.size w W) (hf : fewB a = true) => show a.In W from ⟨ad.below h, asr.below h, by have := few_facts hf; omega, by have := few_facts hf; omega⟩)
  have HB := Lib.hid (fun W (h : Below w.heap.size w W) (hf : fewB b = true) => show b.In W from ⟨bd.below h, bs.below h, by have := few_facts hf; omega, by have := few_facts hf; omega⟩)
  clear ad asr bd bs
  go_enter Try.func3, Try.ntmps3
  go_upto_region 1 with fail
  generalize ((w.alloc (.cells a.cells 25)).alloc (.cells b.cells 25)).alloc (.cells #[.int .i64 t, .int .i64 u] 26) = V at *
  have B1 := Lib.hid b1
  have B2 := Lib.hid b2
  have B3 := Lib.hid b3
  clear b1 b2 b3
  cases hfa : fewB a
  · rw [hfa] at PA
    clear hfa
    go_wp2_with (first | (refine wpList_loadM (b := w.heap.size) (m := a) rfl _ rfl rfl B1.out ?_))
    refine (PA.out _ bel).mono ?_
    rintro e w1 ⟨rfl, hb1⟩
    have bel := bcall bel hb1
    clear hb1
    go_wp2_with fail
    refine (awake_any _).mono ?_
    rintro e w2 ⟨rfl, hb2⟩
    have bel := bcall bel hb2
    clear hb2
    go_wp2
    go_ret
    exact ⟨rfl, bel⟩
  have HFA := Lib.hid hfa
  rw [hfa] at PA
  clear hfa
  go_wp2_with (first | (refine wpList_loadM (b := w.heap.size) (m := a) rfl _ rfl rfl B1.out ?_))
  refine (PA.out _ bel).mono ?_
  rintro e w1 ⟨rfl, hb1⟩
  have bel := bcall bel hb1
  have B1 := Lib.hid (B1.out.below hb1)
  have B2 := Lib.hid (B2.out.below hb1)
  have B3 := Lib.hid (show w1.cell? ⟨w.heap.size + 1 + 1, 0, none⟩ = some (.int .i64 t) ∧ w1.cell? ⟨w.heap.size + 1 + 1, 1, none⟩ = some (.int .i64 u) ∧ w.heap.size + 1 + 1 < w1.heap.size from ⟨(hb1.cell (p := ⟨w.heap.size + 1 + 1, 0, none⟩) B3.out.2.2).trans B3.out.1, (hb1.cell (p := ⟨w.heap.size + 1 + 1, 1, none⟩) B3.out.2.2).trans B3.out.2.1, Nat.lt_of_lt_of_le B3.out.2.2 hb1.size⟩)
  clear hb1
  cases hfb : fewB b
  · rw [hfb] at PB
    clear hfb
    go_wp2_with (first | (refine st_yes (v := .agg (M.cells b)) (by rfl) rfl (run_loadM (x := .tmp 4) rfl rfl B2.out) ?_))
    refine (PB.out _ bel).mono ?_
    rintro e w2 ⟨rfl, hb1⟩
    have bel := bcall bel hb1
    clear hb1
    go_wp2_with fail
    refine (awake_any _).mono ?_
    rintro e w2 ⟨rfl, hb2⟩
    have bel := bcall bel hb2
    clear hb2
    go_wp2
    go_ret
    exact ⟨rfl, bel⟩
  have HFB := Lib.hid hfb
  rw [hfb] at PB
  clear hfb
  go_wp2_with (first | (refine st_yes (v := .agg (M.cells b)) (by rfl) rfl (run_loadM (x := .tmp 4) rfl rfl B2.out) ?_))
  refine (PB.out _ bel).mono ?_
  rintro e w2 ⟨rfl, hb1⟩
  have H0 := Lib.hid (S4.keep _ _ (show S4 w a b t u w1 from ⟨B1.out, B2.out, B3.out, HA.out _ bel HFA.out, HB.out _ bel HFB.out, bel⟩) hb1)
  clear hb1 B1 B2 B3 bel PA PB HA HB
  have P0 := Lib.hid (fun W (h : S4 w a b t u W) => heldP (S4 w a b t u) S4.keep (awake_any W) h)
  have P4 := Lib.hid (fun W (h : S4 w a b t u W) => heldP (S4 w a b t u) S4.keep (same_any a b W h.2.2.2.1 h.2.2.2.2.1) h)
  have P7 := Lib.hid (fun W (h : S4 w a b t u W) => heldP (S4 w a b t u) S4.keep (rsame_any a b W h.2.2.2.1 h.2.2.2.2.1) h)
  have P12 := Lib.hid (fun W (h : S4 w a b t u W) => heldP (S4 w a b t u) S4.keep (bare_any a W h.2.2.2.1) h)
  have P14 := Lib.hid (fun W (h : S4 w a b t u W) => heldP (S4 w a b t u) S4.keep (rbare_any a W h.2.2.2.1) h)
  obtain ⟨f1, f2, f3⟩ := few_facts HFA.out
  have f4 := bytes_small f3
  have f5 := small_le f3
  have P20 := Lib.hid (fun W (h : S4 w a b t u W) => heldP (S4 w a b t u) S4.keep (bytes_any a.sa a.sc a.sl W h.2.2.2.1.s h.2.2.2.1.sl (by omega)) h)
  have P23 := Lib.hid (fun W (h : S4 w a b t u W) => heldP (S4 w a b t u) S4.keep (rbytes_any a.sa a.sc a.sl W h.2.2.2.1.s h.2.2.2.1.sl (by omega)) h)
  have P33 := Lib.hid (fun W (h : S4 w a b t u W) => heldP (S4 w a b t u) S4.keep (may_any a.sa a.sc a.sl t u W h.2.2.2.1.s h.2.2.2.1.sl (fun x hx => by have := f5 x hx; omega)) h)
  have P40 := Lib.hid (fun W (h : S4 w a b t u W) => heldP (S4 w a b t u) S4.keep (rmay_any a.sa a.sc a.sl t u W h.2.2.2.1.s h.2.2.2.1.sl (fun x hx => by have := f5 x hx; omega)) h)
  clear f1 f2 f3 f4 f5 HFA HFB
  generalize M.same a b = r1 at *
  generalize bareN a = r2 at *
  generalize bytesN a.sl = r3 at *
  generalize mayB a.sl t u = r4 at *
  go_upto_region 3 with fail
  have H1 := Lib.hid (S4.keep _ _ H0.out (Below.refl _ _).drew)
  refine wp_region_held_drew (S := S4 w a b t u) (by kernel_rfl) H1.out (fun hS => ?_)
  clear H0 H1
  generalize w2.drew = W0 at *
  refine wpAnyH_ready (rs := [0]) (by kernel_rfl) (by simp) ?_
  refine AllReadyH.cons rfl (fun K hK => ?_) AllReadyH.nil
  go_simp
  refine (P0.out _ hS).mono ?_
  rintro e w0 ⟨rfl, hS0⟩
  refine hK.out _ _ hS0 (fun _ => ?_)
  clear hK K hS
  have hS := hS0
  clear hS0
  try simp only [Act.put, List.setIfInBounds_toArray, List.set_cons_zero, List.set_cons_succ]
  refine H.take (i := 1) (v := (.bool true)) (by simp only [List.getElem?_toArray, List.getElem?_cons_succ, List.getElem?_cons_zero]; rfl) (by kernel_rfl) rfl (by kernel_rfl) (by kernel_rfl) (by kernel_rfl) (fun _ _ _ h => h) (fun w _ => rfl) hS ?_
  try simp only [Act.put, List.setIfInBounds_toArray, List.set_cons_zero, List.set_cons_succ]
  refine H.take (i := 2) (v := .agg (M.cells a)) (by simp only [List.getElem?_toArray, List.getElem?_cons_succ, List.getElem?_cons_zero]; rfl) (by kernel_rfl) rfl (by kernel_rfl) (by kernel_rfl) (by kernel_rfl) (fun _ _ _ h => h) ?h2 hS ?_
  case h2 => exact fun w hw => run_loadM (x := .tmp 3) rfl rfl (hw.1)
  try simp only [Act.put, List.setIfInBounds_toArray, List.set_cons_zero, List.set_cons_succ]
  refine H.take (i := 3) (v := .agg (M.cells b)) (by simp only [List.getElem?_toArray, List.getElem?_cons_succ, List.getElem?_cons_zero]; rfl) (by kernel_rfl) rfl (by kernel_rfl) (by kernel_rfl) (by kernel_rfl) (fun _ _ _ h => h) ?h3 hS ?_
  case h3 => exact fun w hw => run_loadM (x := .tmp 4) rfl rfl (hw.2.1)
  try simp only [Act.put, List.setIfInBounds_toArray, List.set_cons_zero, List.set_cons_succ]
  refine H.take (i := 5) (v := .agg (M.cells a)) (by simp only [List.getElem?_toArray, List.getElem?_cons_succ, List.getElem?_cons_zero]; rfl) (by kernel_rfl) rfl (by kernel_rfl) (by kernel_rfl) (by kernel_rfl) (fun _ _ _ h => h) ?h5 hS ?_
  case h5 => exact fun w hw => run_loadM (x := .tmp 3) rfl rfl (hw.1)
  try simp only [Act.put, List.setIfInBounds_toArray, List.set_cons_zero, List.set_cons_succ]
  refine H.take (i := 6) (v := .agg (M.cells b)) (by simp only [List.getElem?_toArray, List.getElem?_cons_succ, List.getElem?_cons_zero]; rfl) (by kernel_rfl) rfl (by kernel_rfl) (by kernel_rfl) (by kernel_rfl) (fun _ _ _ h => h) ?h6 hS ?_
  case h6 => exact fun w hw => run_loadM (x := .tmp 4) rfl rfl (hw.2.1)
  try simp only [Act.put, List.setIfInBounds_toArray, List.set_cons_zero, List.set_cons_succ]
  refine wpAnyH_ready (rs := [4]) (by kernel_rfl) (by simp) ?_
  refine AllReadyH.cons rfl (fun K hK => ?_) AllReadyH.nil
  go_simp
  refine (P4.out _ hS).mono ?_
  rintro e w4 ⟨rfl, hS4⟩
  refine hK.out _ _ hS4 (fun _ => ?_)
  clear hK K hS
  have hS := hS4
  clear hS4
  try simp only [Act.put, List.setIfInBounds_toArray, List.set_cons_zero, List.set_cons_succ]
  refine wpAnyH_ready (rs := [7]) (by kernel_rfl) (by simp) ?_
  refine AllReadyH.cons rfl (fun K hK => ?_) AllReadyH.nil
  go_simp
  refine (P7.out _ hS).mono ?_
  rintro e w7 ⟨rfl, hS7⟩
  refine hK.out _ _ hS7 (fun _ => ?_)
  clear hK K hS
  have hS := hS7
  clear hS7
  try simp only [Act.put, List.setIfInBounds_toArray, List.set_cons_zero, List.set_cons_succ]
  refine H.take (i := 8) (v := .bool true) (by simp only [List.getElem?_toArray, List.getElem?_cons_succ, List.getElem?_cons_zero]; rfl) (by kernel_rfl) rfl (by kernel_rfl) (by kernel_rfl) (by kernel_rfl) (fun _ _ _ h => h) ?h8 hS ?_
  case h8 => exact fun w _ => by go_simp
  try simp only [Act.put, List.setIfInBounds_toArray, List.set_cons_zero, List.set_cons_succ]
  refine H.take (i := 9) (v := (.bool true)) (by simp only [List.getElem?_toArray, List.getElem?_cons_succ, List.getElem?_cons_zero]; rfl) (by kernel_rfl) rfl (by kernel_rfl) (by kernel_rfl) (by kernel_rfl) (fun _ _ _ h => h) (fun w _ => rfl) hS ?_
  try simp only [Act.put, List.setIfInBounds_toArray, List.set_cons_zero, List.set_cons_succ]
  refine H.take (i := 10) (v := (.bool true)) (by simp only [List.getElem?_toArray, List.getElem?_cons_succ, List.getElem?_cons_zero]; rfl) (by kernel_rfl) rfl (by kernel_rfl) (by kernel_rfl) (by kernel_rfl) (fun _ _ _ h => h) (fun w _ => rfl) hS ?_
  try simp only [Act.put, List.setIfInBounds_toArray, List.set_cons_zero, List.set_cons_succ]
  refine H.take (i := 11) (v := .agg (M.cells a)) (by simp only [List.getElem?_toArray, List.getElem?_cons_succ, List.getElem?_cons_zero]; rfl) (by kernel_rfl) rfl (by kernel_rfl) (by kernel_rfl) (by kernel_rfl) (fun _ _ _ h => h) ?h11 hS ?_
  case h11 => exact fun w hw => run_loadM (x := .tmp 3) rfl rfl (hw.1)
  try simp only [Act.put, List.setIfInBounds_toArray, List.set_cons_zero, List.set_cons_succ]
  refine H.take (i := 13) (v := .agg (M.cells a)) (by simp only [List.getElem?_toArray, List.getElem?_cons_succ, List.getElem?_cons_zero]; rfl) (by kernel_rfl) rfl (by kernel_rfl) (by kernel_rfl) (by kernel_rfl) (fun _ _ _ h => h) ?h13 hS ?_
  case h13 => exact fun w hw => run_loadM (x := .tmp 3) rfl rfl (hw.1)
  try simp only [Act.put, List.setIfInBounds_toArray, List.set_cons_zero, List.set_cons_succ]
  refine wpAnyH_ready (rs := [12]) (by kernel_rfl) (by simp) ?_
  refine AllReadyH.cons rfl (fun K hK => ?_) AllReadyH.nil
  go_simp
  refine (P12.out _ hS).mono ?_
  rintro e w12 ⟨rfl, hS12⟩
  refine hK.out _ _ hS12 (fun _ => ?_)
  clear hK K hS
  have hS := hS12
  clear hS12
  try simp only [Act.put, List.setIfInBounds_toArray, List.set_cons_zero, List.set_cons_succ]
  refine wpAnyH_ready (rs := [14]) (by kernel_rfl) (by simp) ?_
  refine AllReadyH.cons rfl (fun K hK => ?_) AllReadyH.nil
  go_simp
  refine (P14.out _ hS).mono ?_
  rintro e w14 ⟨rfl, hS14⟩
  refine hK.out _ _ hS14 (fun _ => ?_)
  clear hK K hS
  have hS := hS14
  clear hS14
  try simp only [Act.put, List.setIfInBounds_toArray, List.set_cons_zero, List.set_cons_succ]
  refine H.take (i := 15) (v := .bool true) (by simp only [List.getElem?_toArray, List.getElem?_cons_succ, List.getElem?_cons_zero]; rfl) (by kernel_rfl) rfl (by kernel_rfl) (by kernel_rfl) (by kernel_rfl) (fun _ _ _ h => h) ?h15 hS ?_
  case h15 => exact fun w _ => by go_simp
  try simp only [Act.put, List.setIfInBounds_toArray, List.set_cons_zero, List.set_cons_succ]
  refine H.take (i := 16) (v := (.bool true)) (by simp only [List.getElem?_toArray, List.getElem?_cons_succ, List.getElem?_cons_zero]; rfl) (by kernel_rfl) rfl (by kernel_rfl) (by kernel_rfl) (by kernel_rfl) (fun _ _ _ h => h) (fun w _ => rfl) hS ?_
  try simp only [Act.put, List.setIfInBounds_toArray, List.set_cons_zero, List.set_cons_succ]
  refine H.take (i := 17) (v := (.bool true)) (by simp only [List.getElem?_toArray, List.getElem?_cons_succ, List.getElem?_cons_zero]; rfl) (by kernel_rfl) rfl (by kernel_rfl) (by kernel_rfl) (by kernel_rfl) (fun _ _ _ h => h) (fun w _ => rfl) hS ?_
  try simp only [Act.put, List.setIfInBounds_toArray, List.set_cons_zero, List.set_cons_succ]
  refine H.take (i := 18) (v := ?v18) (by simp only [List.getElem?_toArray, List.getElem?_cons_succ, List.getElem?_cons_zero]; rfl) (by kernel_rfl) rfl (by kernel_rfl) (by kernel_rfl) (by kernel_rfl) (fun _ _ _ h => h) ?h18 hS ?_
  case h18 => (intro w hw; go_simp; first | done | (with_reducible rfl))
  try simp only [Act.put, List.setIfInBounds_toArray, List.set_cons_zero, List.set_cons_succ]
  refine H.take (i := 19) (v := ?v19) (by simp only [List.getElem?_toArray, List.getElem?_cons_succ, List.getElem?_cons_zero]; rfl) (by kernel_rfl) rfl (by kernel_rfl) (by kernel_rfl) (by kernel_rfl) (fun _ _ _ h => h) ?h19 hS ?_
  case h19 => (intro w hw; have c := (hw.1).cs.c24; go_simp; first | done | (with_reducible rfl))
  try simp only [Act.put, List.setIfInBounds_toArray, List.set_cons_zero, List.set_cons_succ]
  refine H.take (i := 21) (v := ?v21) (by simp only [List.getElem?_toArray, List.getElem?_cons_succ, List.getElem?_cons_zero]; rfl) (by kernel_rfl) rfl (by kernel_rfl) (by kernel_rfl) (by kernel_rfl) (fun _ _ _ h => h) ?h21 hS ?_
  case h21 => (intro w hw; go_simp; first | done | (with_reducible rfl))
  try simp only [Act.put, List.setIfInBounds_toArray, List.set_cons_zero, List.set_cons_succ]
  refine H.take (i := 22) (v := ?v22) (by simp only [List.getElem?_toArray, List.getElem?_cons_succ, List.getElem?_cons_zero]; rfl) (by kernel_rfl) rfl (by kernel_rfl) (by kernel_rfl) (by kernel_rfl) (fun _ _ _ h => h) ?h22 hS ?_
  case h22 => (intro w hw; have c := (hw.1).cs.c24; go_simp; first | done | (with_reducible rfl))
  try simp only [Act.put, List.setIfInBounds_toArray, List.set_cons_zero, List.set_cons_succ]
  refine wpAnyH_ready (rs := [20]) (by kernel_rfl) (by simp) ?_
  refine AllReadyH.cons rfl (fun K hK => ?_) AllReadyH.nil
  go_simp
  refine (P20.out _ hS).mono ?_
  rintro e w20 ⟨rfl, hS20⟩
  refine hK.out _ _ hS20 (fun _ => ?_)
  clear hK K hS
  have hS := hS20
  clear hS20
  try simp only [Act.put, List.setIfInBounds_toArray, List.set_cons_zero, List.set_cons_succ]
  refine wpAnyH_ready (rs := [23]) (by kernel_rfl) (by simp) ?_
  refine AllReadyH.cons rfl (fun K hK => ?_) AllReadyH.nil
  go_simp
  refine (P23.out _ hS).mono ?_
  rintro e w23 ⟨rfl, hS23⟩
  refine hK.out _ _ hS23 (fun _ => ?_)
  clear hK K hS
  have hS := hS23
  clear hS23
  try simp only [Act.put, List.setIfInBounds_toArray, List.set_cons_zero, List.set_cons_succ]
  refine H.take (i := 24) (v := .bool true) (by simp only [List.getElem?_toArray, List.getElem?_cons_succ, List.getElem?_cons_zero]; rfl) (by kernel_rfl) rfl (by kernel_rfl) (by kernel_rfl) (by kernel_rfl) (fun _ _ _ h => h) ?h24 hS ?_
  case h24 => exact fun w _ => by go_simp
  try simp only [Act.put, List.setIfInBounds_toArray, List.set_cons_zero, List.set_cons_succ]
  refine H.take (i := 25) (v := (.bool true)) (by simp only [List.getElem?_toArray, List.getElem?_cons_succ, List.getElem?_cons_zero]; rfl) (by kernel_rfl) rfl (by kernel_rfl) (by kernel_rfl) (by kernel_rfl) (fun _ _ _ h => h) (fun w _ => rfl) hS ?_
  try simp only [Act.put, List.setIfInBounds_toArray, List.set_cons_zero, List.set_cons_succ]
  refine H.take (i := 26) (v := (.bool true)) (by simp only [List.getElem?_toArray, List.getElem?_cons_succ, List.getElem?_cons_zero]; rfl) (by kernel_rfl) rfl (by kernel_rfl) (by kernel_rfl) (by kernel_rfl) (fun _ _ _ h => h) (fun w _ => rfl) hS ?_
  try simp only [Act.put, List.setIfInBounds_toArray, List.set_cons_zero, List.set_cons_succ]
  refine H.take (i := 27) (v := ?v27) (by simp only [List.getElem?_toArray, List.getElem?_cons_succ, List.getElem?_cons_zero]; rfl) (by kernel_rfl) rfl (by kernel_rfl) (by kernel_rfl) (by kernel_rfl) (fun _ _ _ h => h) ?h27 hS ?_
  case h27 => (intro w hw; go_simp; first | done | (with_reducible rfl))
  try simp only [Act.put, List.setIfInBounds_toArray, List.set_cons_zero, List.set_cons_succ]
  refine H.take (i := 28) (v := ?v28) (by simp only [List.getElem?_toArray, List.getElem?_cons_succ, List.getElem?_cons_zero]; rfl) (by kernel_rfl) rfl (by kernel_rfl) (by kernel_rfl) (by kernel_rfl) (fun _ _ _ h => h) ?h28 hS ?_
  case h28 => (intro w hw; have c := (hw.1).cs.c24; go_simp; first | done | (with_reducible rfl))
  try simp only [Act.put, List.setIfInBounds_toArray, List.set_cons_zero, List.set_cons_succ]
  refine H.take (i := 29) (v := ?v29) (by simp only [List.getElem?_toArray, List.getElem?_cons_succ, List.getElem?_cons_zero]; rfl) (by kernel_rfl) rfl (by kernel_rfl) (by kernel_rfl) (by kernel_rfl) (fun _ _ _ h => h) ?h29 hS ?_
  case h29 => (intro w hw; go_simp; first | done | (with_reducible rfl))
  try simp only [Act.put, List.setIfInBounds_toArray, List.set_cons_zero, List.set_cons_succ]
  refine H.take (i := 30) (v := ?v30) (by simp only [List.getElem?_toArray, List.getElem?_cons_succ, List.getElem?_cons_zero]; rfl) (by kernel_rfl) rfl (by kernel_rfl) (by kernel_rfl) (by kernel_rfl) (fun _ _ _ h => h) ?h30 hS ?_
  case h30 => (intro w hw; have c := hw.2.2.1.1; go_simp; first | done | (with_reducible rfl))
  try simp only [Act.put, List.setIfInBounds_toArray, List.set_cons_zero, List.set_cons_succ]
  refine H.take (i := 31) (v := ?v31) (by simp only [List.getElem?_toArray, List.getElem?_cons_succ, List.getElem?_cons_zero]; rfl) (by kernel_rfl) rfl (by kernel_rfl) (by kernel_rfl) (by kernel_rfl) (fun _ _ _ h => h) ?h31 hS ?_
  case h31 => (intro w hw; go_simp; first | done | (with_reducible rfl))
  try simp only [Act.put, List.setIfInBounds_toArray, List.set_cons_zero, List.set_cons_succ]
  refine H.take (i := 32) (v := ?v32) (by simp only [List.getElem?_toArray, List.getElem?_cons_succ, List.getElem?_cons_zero]; rfl) (by kernel_rfl) rfl (by kernel_rfl) (by kernel_rfl) (by kernel_rfl) (fun _ _ _ h => h) ?h32 hS ?_
  case h32 => (intro w hw; have c := hw.2.2.1.2.1; go_simp; first | done | (with_reducible rfl))
  try simp only [Act.put, List.setIfInBounds_toArray, List.set_cons_zero, List.set_cons_succ]
  refine H.take (i := 34) (v := ?v34) (by simp only [List.getElem?_toArray, List.getElem?_cons_succ, List.getElem?_cons_zero]; rfl) (by kernel_rfl) rfl (by kernel_rfl) (by kernel_rfl) (by kernel_rfl) (fun _ _ _ h => h) ?h34 hS ?_
  case h34 => (intro w hw; go_simp; first | done | (with_reducible rfl))
  try simp only [Act.put, List.setIfInBounds_toArray, List.set_cons_zero, List.set_cons_succ]
  refine H.take (i := 35) (v := ?v35) (by simp only [List.getElem?_toArray, List.getElem?_cons_succ, List.getElem?_cons_zero]; rfl) (by kernel_rfl) rfl (by kernel_rfl) (by kernel_rfl) (by kernel_rfl) (fun _ _ _ h => h) ?h35 hS ?_
  case h35 => (intro w hw; have c := (hw.1).cs.c24; go_simp; first | done | (with_reducible rfl))
  try simp only [Act.put, List.setIfInBounds_toArray, List.set_cons_zero, List.set_cons_succ]
  refine H.take (i := 36) (v := ?v36) (by simp only [List.getElem?_toArray, List.getElem?_cons_succ, List.getElem?_cons_zero]; rfl) (by kernel_rfl) rfl (by kernel_rfl) (by kernel_rfl) (by kernel_rfl) (fun _ _ _ h => h) ?h36 hS ?_
  case h36 => (intro w hw; go_simp; first | done | (with_reducible rfl))
  try simp only [Act.put, List.setIfInBounds_toArray, List.set_cons_zero, List.set_cons_succ]
  refine H.take (i := 37) (v := ?v37) (by simp only [List.getElem?_toArray, List.getElem?_cons_succ, List.getElem?_cons_zero]; rfl) (by kernel_rfl) rfl (by kernel_rfl) (by kernel_rfl) (by kernel_rfl) (fun _ _ _ h => h) ?h37 hS ?_
  case h37 => (intro w hw; have c := hw.2.2.1.1; go_simp; first | done | (with_reducible rfl))
  try simp only [Act.put, List.setIfInBounds_toArray, List.set_cons_zero, List.set_cons_succ]
  refine H.take (i := 38) (v := ?v38) (by simp only [List.getElem?_toArray, List.getElem?_cons_succ, List.getElem?_cons_zero]; rfl) (by kernel_rfl) rfl (by kernel_rfl) (by kernel_rfl) (by kernel_rfl) (fun _ _ _ h => h) ?h38 hS ?_
  case h38 => (intro w hw; go_simp; first | done | (with_reducible rfl))
  try simp only [Act.put, List.setIfInBounds_toArray, List.set_cons_zero, List.set_cons_succ]
  refine H.take (i := 39) (v := ?v39) (by simp only [List.getElem?_toArray, List.getElem?_cons_succ, List.getElem?_cons_zero]; rfl) (by kernel_rfl) rfl (by kernel_rfl) (by kernel_rfl) (by kernel_rfl) (fun _ _ _ h => h) ?h39 hS ?_
  case h39 => (intro w hw; have c := hw.2.2.1.2.1; go_simp; first | done | (with_reducible rfl))
  try simp only [Act.put, List.setIfInBounds_toArray, List.set_cons_zero, List.set_cons_succ]
  refine wpAnyH_ready (rs := [33]) (by kernel_rfl) (by simp) ?_
  refine AllReadyH.cons rfl (fun K hK => ?_) AllReadyH.nil
  go_simp
  refine (P33.out _ hS).mono ?_
  rintro e w33 ⟨rfl, hS33⟩
  refine hK.out _ _ hS33 (fun _ => ?_)
  clear hK K hS
  have hS := hS33
  clear hS33
  try simp only [Act.put, List.setIfInBounds_toArray, List.set_cons_zero, List.set_cons_succ]
  refine wpAnyH_ready (rs := [40]) (by kernel_rfl) (by simp) ?_
  refine AllReadyH.cons rfl (fun K hK => ?_) AllReadyH.nil
  go_simp
  refine (P40.out _ hS).mono ?_
  rintro e w40 ⟨rfl, hS40⟩
  refine hK.out _ _ hS40 (fun _ => ?_)
  clear hK K hS
  have hS := hS40
  clear hS40
  try simp only [Act.put, List.setIfInBounds_toArray, List.set_cons_zero, List.set_cons_succ]
  refine H.take (i := 41) (v := .bool true) (by simp only [List.getElem?_toArray, List.getElem?_cons_succ, List.getElem?_cons_zero]; rfl) (by kernel_rfl) rfl (by kernel_rfl) (by kernel_rfl) (by kernel_rfl) (fun _ _ _ h => h) ?h41 hS ?_
  case h41 => exact fun w _ => by go_simp
  try simp only [Act.put, List.setIfInBounds_toArray, List.set_cons_zero, List.set_cons_succ]
  refine H.take (i := 42) (v := (.bool true)) (by simp only [List.getElem?_toArray, List.getElem?_cons_succ, List.getElem?_cons_zero]; rfl) (by kernel_rfl) rfl (by kernel_rfl) (by kernel_rfl) (by kernel_rfl) (fun _ _ _ h => h) (fun w _ => rfl) hS ?_
  try simp only [Act.put, List.setIfInBounds_toArray, List.set_cons_zero, List.set_cons_succ]
  refine H.take (i := 43) (v := (.bool true)) (by simp only [List.getElem?_toArray, List.getElem?_cons_succ, List.getElem?_cons_zero]; rfl) (by kernel_rfl) rfl (by kernel_rfl) (by kernel_rfl) (by kernel_rfl) (fun _ _ _ h => h) (fun w _ => rfl) hS ?_
  try simp only [Act.put, List.setIfInBounds_toArray, List.set_cons_zero, List.set_cons_succ]
  refine wpAnyH_done (by kernel_rfl) ?_ _
  go_wp2
  go_ret
  exact ⟨rfl, hS.2.2.2.2.2⟩

set_option maxRecDepth 100000 in
theorem lifted (os : Os) (started : os.Started) (H : Type) (enc : TypeId × Value → H) :
    ReturnsInHanded {} Try.checked os 3 .any (Rows.msgTellsSpec.pre6 enc Try.prog Try.f3 Rows.msgTellsRow.domain false) (Rows.msgTellsSpec.post enc Try.prog Try.f3 false true false false) := by
  refine returnsInHanded_of_change (C := Try.checked) own started (by kernel_rfl) Try.func3
    (ChangeSpec.witness6 (enc := enc) (C := Try.checked) false ⟨#[], #[.agg M.zero.cells, .agg M.zero.cells, .agg #[.int .i64 0, .int .i64 0]], []⟩ 8 (by kernel_rfl) (by kernel_rfl) (by kernel_rfl) (by kernel_rfl)) ?_
  intro W base args ds gs before hval0 hW hcnd _
  have hval : ∀ (j : Nat) t v, Try.f3.params[j]? = some t → args[j]? = some v → Value.okWide Try.prog W .any base t v := hval0
  have hW' := hW
  have hlt := fun x hx => hW'.lt x hx
  obtain ⟨p, q, hA0, hV, rfl, hfz, hnd⟩ := hW
  have hA : DataW.TrodAll enc Try.prog W 0 (fun _ => true) true Try.f3.params.toList args.toList ds p := hA0
  rw [Try.params3] at hA hval
  obtain ⟨v0, vs0, d0, ds0, p0, q0, hargs, rfl, rfl, h0, r0⟩ := trodAll_cons hA
  obtain ⟨v1, vs1, d1, ds1, p1, q1, rfl, rfl, rfl, h1, r1⟩ := trodAll_cons r0
  obtain ⟨v2, vs2, d2, ds2, p2, q2, rfl, rfl, rfl, h2, r2⟩ := trodAll_cons r1
  obtain ⟨rfl, rfl, rfl⟩ := trodAll_nil r2
  obtain rfl : args = #[v0, v1, v2] := by cases args; simp_all
  obtain ⟨rfl, rfl⟩ := trodVars_none hV
  obtain ⟨a, rfl, ad, asr⟩ := by_value (hval 0 25 v0 rfl rfl) h0
  obtain ⟨b, rfl, bd, bs⟩ := by_value (hval 1 25 v1 rfl rfl) h1
  obtain ⟨t, u, rfl⟩ := by_pair (hval 2 26 v2 rfl rfl) h2
  clear hA0 hval0
  simp only [List.append_nil] at hW' hlt
  refine (walk a b t u W ad asr bd bs).mono fun e W' ⟨he, hg⟩ => ?_
  subst he
  exact ⟨_, rfl, _, _, _, [], _, [], hW', trodAll_mk1 (shut_bool Try.underlying4 _), (trodAll_cons_mk (again (by kernel_rfl) (of_decide_eq_true (by kernel_rfl)) h0 hg fun x hx => hlt x (by simp [hx])) (trodAll_cons_mk (again (by kernel_rfl) (of_decide_eq_true (by kernel_rfl)) h1 hg fun x hx => hlt x (by simp [hx])) (trodAll_cons_mk (again (by kernel_rfl) (of_decide_eq_true (by kernel_rfl)) h2 hg fun x hx => hlt x (by simp [hx])) trodAll_mk0))), rfl, hg.frame _, fun h => by cases h⟩

theorem over : Rows.msgTellsRow.holds Try.pinned (OpenSpec.ofChange Rows.msgTellsSpec) :=
  OpenClaim.holds_of_wide 3 Try.f3 rfl rfl rfl rfl rfl rfl rfl ⟨rfl, rfl, rfl, rfl, rfl⟩ rfl rfl rfl rfl rfl (by kernel_rfl) Try.func3 (by kernel_rfl)
    (of_decide_eq_true (by kernel_rfl)) (by unfold Func.isWrapper; first | (rw [if_pos (by decide +kernel)]; kernel_rfl) | (rw [if_neg (by decide +kernel)]; exact ⟨rfl, rfl⟩))
    (fun os started H enc _ => lifted os started H enc)

theorem proved : Rows.MsgTellsSaid :=
  over
#print axioms proved
end Go.Proofs.Ytnjaoccienijbaa.msgTells
