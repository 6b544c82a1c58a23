/-
  The program's steps: a router-id's TLV, a next hop's, an Update, any of them. Conditions: what is known may be; at most 100000 bytes; the variables have what they are laid with.
-/
import Derived.Test.YteecialdkfaejaaDoorK4
import Derived.Test.YteecialdkfaejaaDoorS5
import Derived.Test.YteecialdkfaejaaDoorF2
namespace Go.Proofs.YteecialdkfaejaaDoor.K5
open Go.ChangeShapes Go.WideShapes Go.ChangeAt Go.RowKit
open Go.Proofs.YteecialdkfaejaaDoor.Ms
open Go.Proofs.YteecialdkfaejaaDoor.Box
open Go.Proofs.YteecialdkfaejaaDoor.S1
open Go.Proofs.YteecialdkfaejaaDoor.J1
open Go.Proofs.YteecialdkfaejaaDoor.J2 (nil_eq nil_em size_eq)
open Go.Proofs.YteecialdkfaejaaDoor.J4 (shU wpList_loadU wpList_storeU)
open Go.Proofs.YteecialdkfaejaaDoor.J6 (AnsU lst_cell)
open Go.Proofs.YteecialdkfaejaaDoor.An
open Go.Proofs.YteecialdkfaejaaDoor.Tc
open Go.Proofs.YteecialdkfaejaaDoor.K1
open Go.Proofs.YteecialdkfaejaaDoor.Kb
open Go.Proofs.YteecialdkfaejaaDoor.K2
open Go.Proofs.YteecialdkfaejaaDoor.K3
open Go.Proofs.YteecialdkfaejaaDoor.K4
open Go.Proofs.YteecialdkfaejaaDoor.F1 (bt bt_nn bt_lt)
open Go.Proofs.YteecialdkfaejaaDoor.F2 (idx sl_m sl_l)
open Go.Proofs.YteecialdkfaejaaDoor.Hx (conv8)
open Go.Proofs.YteecialdkfaejaaDoor.Tl (cellsT)
open Go.Proofs.YteecialdkfaejaaDoor.Bk (Bk Sh alloc_size wpList_loadK wpList_storeK run_loadK results_pair results_one loadVarK wpList_builtK)
open Go.Proofs.YteecialdkfaejaaDoor.Hs
open Go.Proofs.YteecialdkfaejaaDoor.Or (st_yes)
set_option linter.unusedVariables false
set_option maxRecDepth 100000
theorem MOwn.cell {B : Nat} {w : World} {a : Option Addr} {l : List M} (h : MOwn B w a l) {p : Addr} (hp : p.block < B) (x : Value) : MOwn B (w.setCell p x) a l := fun i hi => by
  obtain ⟨q, h1, h2, h3, h4, h5, h6⟩ := h i hi
  refine ⟨q, h1, h2, by simpa using h3, fun j v hv => ?_, h5, lst_cell h6 hp⟩
  have hne : ((q.add (i * 25)).add j).block ≠ p.block := by rw [add_block, add_block]; omega
  have := h4 j v hv
  unfold World.cell? at this ⊢
  rw [heap_setCell_other w p _ x hne]
  exact this
theorem _root_.Go.Proofs.YteecialdkfaejaaDoor.Tc.Tab.row {w : World} (h : Tab w) {g : Nat} (hg : 1 < g) (cs : Array Value) : Tab (w.setRow g cs) := h.under (B := 2) (Box.below_setRow (Below.refl 2 w) hg cs) (by decide)
theorem _root_.Go.Proofs.YteecialdkfaejaaDoor.Tc.Tab.cell {w : World} (h : Tab w) {p : Addr} (hp : 1 < p.block) (x : Value) : Tab (w.setCell p x) := h.under (B := 2) ((Below.refl 2 w).setCell hp x) (by decide)
/-- What a stepper's step answers: the stepper, an error. -/
def AnsSt (p : Kx × List M × Int) (w : World) (e : Ending) (w' : World) : Prop :=
  ∃ a k l, e = .returned (.tuple #[.agg (stC p.1 (.slice a l.length k)), .int .i64 p.2.2]) ∧ PlL l p.2.1 ∧ MOwn w.heap.size w' a l ∧ Below w.heap.size w w'
theorem AnsSt.no {p : Kx × List M × Int} {w w' : World} {c : Kx} {d : Int} (h : p = (c, [], d)) (hb : Below w.heap.size w w') : AnsSt p w (.returned (.tuple #[.agg (stC c nilV), .int .i64 d])) w' := by
  subst h
  exact ⟨none, 0, [], rfl, PlL.nil, MOwn.nil _ _ _, hb⟩
theorem AnsSt.one {p : Kx × List M × Int} {w w' : World} {a : Option Addr} {c : Kx} {m n : M} {k : Nat} (h : p = (c, [m], 0)) (hp : Pl n m) (hn : MOwn w.heap.size w' a [n]) (hb : Below w.heap.size w w') : AnsSt p w (.returned (.tuple #[.agg (stC c (.slice a 1 k)), .int .i64 0])) w' := by
  subst h
  exact ⟨a, k, [n], rfl, PlL.one hp, hn, hb⟩
/-- An answer that the caller stores into a block of its own. -/
theorem AnsSt.boxed {p : Kx × List M × Int} {w W w1 : World} {e : Ending} {g : Nat} (h : AnsSt p W e w1) (hg : w.heap.size ≤ g) (hz : g < W.heap.size) (hb : Below w.heap.size w W) :
    ∃ a n k, e = .returned (.tuple #[.agg (stC p.1 (.slice a n k)), .int .i64 p.2.2]) ∧ Below W.heap.size W w1 ∧ AnsSt p w (.returned (.tuple #[.agg (stC p.1 (.slice a n k)), .int .i64 p.2.2])) (w1.setRow g (stC p.1 (.slice a n k))) := by
  obtain ⟨a, k, l, h1, h2, h3, h4⟩ := h
  exact ⟨a, l.length, k, h1, h4, a, k, l, rfl, h2, (h3.under hz _).mono hb.size, Box.below_setRow (hb.trans (h4.mono hb.size)) hg _⟩
set_option maxHeartbeats 6400000 in
theorem routerId_any (c : Kx) (d : ByteArray) (w : World) (hs : d.size ≤ 100000) :
    Calls Tryd.prog 27 #[.agg (stC c nilV), .string d] w (AnsSt (out6 c d) w) := by
  by_cases hz : d.size < 10
  · have HY := Lib.hid (show out6 c d = (c, [], 2) by unfold out6; rw [fix_short hz, if_neg (fun h => by cases h.2)])
    have hz2 : (d.size : Int) < 10 := by omega
    go_enter Tryd.func27, Tryd.ntmps27
    go_upto_region 1 with fail
    change Code.wp _ _ _ _ ((w.alloc (.cells (stC c nilV) 47)).alloc (.cells (stC Kx.zero nilV) 47))
    have S0 := Lib.hid ((Bk.Bk.new 47 w (stC c nilV)).old (.cells (stC Kx.zero nilV) 47))
    have R0 := Bk.Bk.new 47 (w.alloc (.cells (stC c nilV) 47)) (stC Kx.zero nilV)
    rw [alloc_size] at R0
    have R0 := Lib.hid R0
    have HB := Lib.hid (balloc (balloc (Below.refl _ w) (.cells (stC c nilV) 47)) (.cells (stC Kx.zero nilV) 47))
    generalize (w.alloc (.cells (stC c nilV) 47)).alloc (.cells (stC Kx.zero nilV) 47) = W at *
    go_wp2_with (first | (refine wpList_loadS (b := w.heap.size) (c := c) (v := nilV) rfl _ rfl rfl S0.out ?_) | (refine wpList_storeS (b := w.heap.size + 1) (c := Kx.zero) (c' := c) (v := nilV) (q := none) (n := 0) (k := 0) rfl _ _ rfl rfl rfl R0.out ?_))
    exact bodyPost_ret (v := .tuple #[.agg (stC c nilV), .int .i64 2]) (results_pair rfl _ _ (w.heap.size + 1) _ rfl (loadVarK shS (R0.out.put (stC c nilV)) rfl) (.int .i64 2) rfl) rfl (AnsSt.no HY.out (Box.below_setRow HB.out (by omega) _))
  have hz2 : ¬ (d.size : Int) < 10 := by omega
  have hf := fix_long hz
  have he := fix_err (d := d) (z := 10)
  have PS := Lib.hid (fun V => S5.get_own (d.extract 10 d.size) V (by simp; omega))
  have slt := sl_l d 10 10 d.size rfl (by omega) rfl
  have sla := sl_m d 2 10 2 10 rfl rfl (by omega) (by omega)
  obtain ⟨⟨l, kn, er⟩, ho⟩ : ∃ q, outS (d.extract 10 d.size) = q := ⟨_, rfl⟩
  rw [ho] at PS hf
  cases kn with
  | false =>
    have HY := Lib.hid (show out6 c d = (c, [], er) by unfold out6; rw [hf, if_neg (fun h => by cases h.2)])
    clear hf he ho hz hs sla
    generalize d.extract 10 d.size = ea at *
    go_enter Tryd.func27, Tryd.ntmps27
    go_upto_region 1 with fail
    change Code.wp _ _ _ _ ((w.alloc (.cells (stC c nilV) 47)).alloc (.cells (stC Kx.zero nilV) 47))
    have S0 := Lib.hid ((Bk.Bk.new 47 w (stC c nilV)).old (.cells (stC Kx.zero nilV) 47))
    have R0 := Bk.Bk.new 47 (w.alloc (.cells (stC c nilV) 47)) (stC Kx.zero nilV)
    rw [alloc_size] at R0
    have R0 := Lib.hid R0
    have HB := Lib.hid (balloc (balloc (Below.refl _ w) (.cells (stC c nilV) 47)) (.cells (stC Kx.zero nilV) 47))
    generalize (w.alloc (.cells (stC c nilV) 47)).alloc (.cells (stC Kx.zero nilV) 47) = W at *
    go_wp2_with fail
    refine (PS.out _).mono ?_
    rintro e w1 ⟨qa, qc, rfl, hl, hb⟩
    have S0 := Lib.hid (S0.out.below hb)
    have R0 := Lib.hid (R0.out.below hb)
    have HB := Lib.hid (bcall HB.out hb)
    clear hb hl PS
    go_wp2_with (first | (refine wpList_loadS (b := w.heap.size) (c := c) (v := nilV) rfl _ rfl rfl S0.out ?_) | (refine wpList_storeS (b := w.heap.size + 1) (c := Kx.zero) (c' := c) (v := nilV) (q := none) (n := 0) (k := 0) rfl _ _ rfl rfl rfl R0.out ?_))
    exact bodyPost_ret (v := .tuple #[.agg (stC c nilV), .int .i64 er]) (results_pair rfl _ _ (w.heap.size + 1) _ rfl (loadVarK shS (R0.out.put (stC c nilV)) rfl) (.int .i64 er) rfl) rfl (AnsSt.no HY.out (Box.below_setRow HB.out (by omega) _))
  | true =>
    obtain rfl : er = 0 := by
      by_cases h : er = 0
      · exact h
      · have := he (by rw [hf]; exact h)
        rw [hf] at this
        cases this
    have HY := Lib.hid (show out6 c d = ({ c with id := d.extract 2 10 }, [], 0) by unfold out6; rw [hf, if_pos ⟨rfl, rfl⟩])
    clear hf he ho hz hs
    generalize d.extract 10 d.size = ea at *
    generalize d.extract 2 10 = eb at *
    go_enter Tryd.func27, Tryd.ntmps27
    go_upto_region 1 with fail
    change Code.wp _ _ _ _ ((w.alloc (.cells (stC c nilV) 47)).alloc (.cells (stC Kx.zero nilV) 47))
    have S0 := Lib.hid ((Bk.Bk.new 47 w (stC c nilV)).old (.cells (stC Kx.zero nilV) 47))
    have R0 := Bk.Bk.new 47 (w.alloc (.cells (stC c nilV) 47)) (stC Kx.zero nilV)
    rw [alloc_size] at R0
    have R0 := Lib.hid R0
    have HB := Lib.hid (balloc (balloc (Below.refl _ w) (.cells (stC c nilV) 47)) (.cells (stC Kx.zero nilV) 47))
    generalize (w.alloc (.cells (stC c nilV) 47)).alloc (.cells (stC Kx.zero nilV) 47) = W at *
    go_wp2_with fail
    refine (PS.out _).mono ?_
    rintro e w1 ⟨qa, qc, rfl, hl, hb⟩
    have S0 := Lib.hid (S0.out.below hb)
    have R0 := Lib.hid (R0.out.below hb)
    have HB := Lib.hid (bcall HB.out hb)
    clear hb hl PS
    have d0 := S0.out.cell 6 _ rfl
    have fd := S0.out.frozen 6
    go_upto_region 6 with fail
    have XS := S0.out.set (i := 6) (v := .string eb) (cs' := stC { c with id := eb } nilV) rfl
    have XR := R0.out.off (p := ⟨w.heap.size, 6, none⟩) (by show w.heap.size + 1 ≠ w.heap.size; omega) (.string eb)
    have XB := HB.out.setCell (p := ⟨w.heap.size, 6, none⟩) (by show w.heap.size ≤ w.heap.size; omega) (.string eb)
    have S0 := Lib.hid XS
    have R0 := Lib.hid XR
    have HB := Lib.hid XB
    clear XS XR XB d0 fd
    generalize w1.setCell ⟨w.heap.size, 6, none⟩ (.string eb) = W2 at *
    go_wp2_with (first | (refine wpList_loadS (b := w.heap.size) (c := ({ c with id := eb } : Kx)) (v := nilV) rfl _ rfl rfl S0.out ?_) | (refine wpList_storeS (b := w.heap.size + 1) (c := Kx.zero) (c' := ({ c with id := eb } : Kx)) (v := nilV) (q := none) (n := 0) (k := 0) rfl _ _ rfl rfl rfl R0.out ?_))
    exact bodyPost_ret (v := .tuple #[.agg (stC ({ c with id := eb } : Kx) nilV), .int .i64 0]) (results_pair rfl _ _ (w.heap.size + 1) _ rfl (loadVarK shS (R0.out.put (stC ({ c with id := eb } : Kx) nilV)) rfl) (.int .i64 0) rfl) rfl (AnsSt.no HY.out (Box.below_setRow HB.out (by omega) _))
set_option maxHeartbeats 12800000 in
theorem nextHop_any (c : Kx) (d : ByteArray) (w : World) (hs : d.size ≤ 100000) (ht : Tab w) :
    Calls Tryd.prog 28 #[.agg (stC c nilV), .string d] w (AnsSt (out7 c d) w) := by
  by_cases hz : d.size < 2
  · have HY := Lib.hid (show out7 c d = (c, [], 2) by unfold out7; rw [if_pos hz])
    have hz2 : (d.size : Int) < 2 := by omega
    go_enter Tryd.func28, Tryd.ntmps28
    go_upto_region 1 with fail
    change Code.wp _ _ _ _ ((w.alloc (.cells (stC c nilV) 47)).alloc (.cells (stC Kx.zero nilV) 47))
    have S0 := Lib.hid ((Bk.Bk.new 47 w (stC c nilV)).old (.cells (stC Kx.zero nilV) 47))
    have R0 := Bk.Bk.new 47 (w.alloc (.cells (stC c nilV) 47)) (stC Kx.zero nilV)
    rw [alloc_size] at R0
    have R0 := Lib.hid R0
    have HB := Lib.hid (balloc (balloc (Below.refl _ w) (.cells (stC c nilV) 47)) (.cells (stC Kx.zero nilV) 47))
    generalize (w.alloc (.cells (stC c nilV) 47)).alloc (.cells (stC Kx.zero nilV) 47) = W at *
    go_wp2_with (first | (refine wpList_loadS (b := w.heap.size) (c := c) (v := nilV) rfl _ rfl rfl S0.out ?_) | (refine wpList_storeS (b := w.heap.size + 1) (c := Kx.zero) (c' := c) (v := nilV) (q := none) (n := 0) (k := 0) rfl _ _ rfl rfl rfl R0.out ?_))
    exact bodyPost_ret (v := .tuple #[.agg (stC c nilV), .int .i64 2]) (results_pair rfl _ _ (w.heap.size + 1) _ rfl (loadVarK shS (R0.out.put (stC c nilV)) rfl) (.int .i64 2) rfl) rfl (AnsSt.no HY.out (Box.below_setRow HB.out (by omega) _))
  have hz2 : ¬ (d.size : Int) < 2 := by omega
  have i0 := idx d 0 0 rfl (by omega)
  have b0 := bt_nn d 0
  have b1 := bt_lt d 0
  have v0 := conv8 (bt d 0) b0 b1
  have PF := Lib.hid (fun V => fam_any (bt d 0) V)
  by_cases hn : bt d 0 = 0 ∨ 3 < bt d 0
  · have HY := Lib.hid (show out7 c d = (c, [], 0) by unfold out7; rw [if_neg hz, if_pos hn])
    have hf : fam (bt d 0) = -1 := by unfold fam; rw [if_neg (by omega), if_neg (by omega)]
    rw [hf] at PF
    clear hn hf hz hs b0 b1
    generalize bt d 0 = y0 at *
    go_enter Tryd.func28, Tryd.ntmps28
    go_upto_region 1 with fail
    change Code.wp _ _ _ _ ((w.alloc (.cells (stC c nilV) 47)).alloc (.cells (stC Kx.zero nilV) 47))
    have S0 := Lib.hid ((Bk.Bk.new 47 w (stC c nilV)).old (.cells (stC Kx.zero nilV) 47))
    have R0 := Bk.Bk.new 47 (w.alloc (.cells (stC c nilV) 47)) (stC Kx.zero nilV)
    rw [alloc_size] at R0
    have R0 := Lib.hid R0
    have HB := Lib.hid (balloc (balloc (Below.refl _ w) (.cells (stC c nilV) 47)) (.cells (stC Kx.zero nilV) 47))
    generalize (w.alloc (.cells (stC c nilV) 47)).alloc (.cells (stC Kx.zero nilV) 47) = W at *
    go_wp2_with fail
    refine (PF.out _).mono ?_
    rintro r w' ⟨rfl, rfl⟩
    go_wp2_with (first | (refine wpList_loadS (b := w.heap.size) (c := c) (v := nilV) rfl _ rfl rfl S0.out ?_) | (refine wpList_storeS (b := w.heap.size + 1) (c := Kx.zero) (c' := c) (v := nilV) (q := none) (n := 0) (k := 0) rfl _ _ rfl rfl rfl R0.out ?_))
    exact bodyPost_ret (v := .tuple #[.agg (stC c nilV), .int .i64 0]) (results_pair rfl _ _ (w.heap.size + 1) _ rfl (loadVarK shS (R0.out.put (stC c nilV)) rfl) (.int .i64 0) rfl) rfl (AnsSt.no HY.out (Box.below_setRow HB.out (by omega) _))
  have HT := Lib.hid ht
  rcases (show bt d 0 = 1 ∨ bt d 0 = 2 ∨ bt d 0 = 3 by omega) with e | e | e
  · rw [e] at i0 v0 PF hn
    have PF := Lib.hid (show ∀ V, Calls Tryd.prog 13 #[.int .i64 1] V fun e w' => e = .returned (.int .i64 0) ∧ V = w' from PF.out)
    have hsz : sizeA (bt d 0) = 4 := by rw [e]; rfl
    by_cases hy : d.size < 6
    · have HY := Lib.hid (show out7 c d = (c, [], 2) by unfold out7; rw [if_neg hz, if_neg (by rw [e]; exact hn), hsz, fix_short hy, if_neg (fun h => by cases h.2)])
      have hy2 : (d.size : Int) < 6 := by omega
      clear hz hs b0 b1 hn e hsz hy
      go_enter Tryd.func28, Tryd.ntmps28
      go_upto_region 1 with fail
      change Code.wp _ _ _ _ ((w.alloc (.cells (stC c nilV) 47)).alloc (.cells (stC Kx.zero nilV) 47))
      have S0 := Lib.hid ((Bk.Bk.new 47 w (stC c nilV)).old (.cells (stC Kx.zero nilV) 47))
      have R0 := Bk.Bk.new 47 (w.alloc (.cells (stC c nilV) 47)) (stC Kx.zero nilV)
      rw [alloc_size] at R0
      have R0 := Lib.hid R0
      have HB := Lib.hid (balloc (balloc (Below.refl _ w) (.cells (stC c nilV) 47)) (.cells (stC Kx.zero nilV) 47))
      have HT := Lib.hid (HT.out.below HB.out)
      have tz := HT.out.z1
      generalize (w.alloc (.cells (stC c nilV) 47)).alloc (.cells (stC Kx.zero nilV) 47) = W at *
      go_wp2_with fail
      refine (PF.out _).mono ?_
      rintro r w' ⟨rfl, rfl⟩
      go_wp2_with (first | (refine wpList_loadS (b := w.heap.size) (c := c) (v := nilV) rfl _ rfl rfl S0.out ?_) | (refine wpList_storeS (b := w.heap.size + 1) (c := Kx.zero) (c' := c) (v := nilV) (q := none) (n := 0) (k := 0) rfl _ _ rfl rfl rfl R0.out ?_))
      exact bodyPost_ret (v := .tuple #[.agg (stC c nilV), .int .i64 2]) (results_pair rfl _ _ (w.heap.size + 1) _ rfl (loadVarK shS (R0.out.put (stC c nilV)) rfl) (.int .i64 2) rfl) rfl (AnsSt.no HY.out (Box.below_setRow HB.out (by omega) _))
    have hy2 : ¬ (d.size : Int) < 6 := by omega
    have hf := fix_long hy
    have he := fix_err (d := d) (z := 6)
    have PS := Lib.hid (fun V => S5.get_own (d.extract 6 d.size) V (by simp; omega))
    have slt := sl_l d 6 6 d.size rfl (by omega) rfl
    have sla := sl_m d 2 6 2 6 rfl rfl (by omega) (by omega)
    have PL := Lib.hid (fun V => long_any 1 (d.extract 2 6) V)
    have HH := Lib.hid (show lgC 1 (d.extract 2 6) = hopA (bt d 0) d by rw [e]; rfl)
    obtain ⟨⟨l, kn, er⟩, ho⟩ : ∃ q, outS (d.extract 6 d.size) = q := ⟨_, rfl⟩
    rw [ho] at PS hf
    cases kn with
    | false =>
      have HY := Lib.hid (show out7 c d = (c, [], er) by unfold out7; rw [if_neg hz, if_neg (by rw [e]; exact hn), hsz, hf, if_neg (fun h => by cases h.2)])
      clear hf he ho hz hs b0 b1 hn e hsz hy sla PL HH
      generalize d.extract 6 d.size = ea at *
      go_enter Tryd.func28, Tryd.ntmps28
      go_upto_region 1 with fail
      change Code.wp _ _ _ _ ((w.alloc (.cells (stC c nilV) 47)).alloc (.cells (stC Kx.zero nilV) 47))
      have S0 := Lib.hid ((Bk.Bk.new 47 w (stC c nilV)).old (.cells (stC Kx.zero nilV) 47))
      have R0 := Bk.Bk.new 47 (w.alloc (.cells (stC c nilV) 47)) (stC Kx.zero nilV)
      rw [alloc_size] at R0
      have R0 := Lib.hid R0
      have HB := Lib.hid (balloc (balloc (Below.refl _ w) (.cells (stC c nilV) 47)) (.cells (stC Kx.zero nilV) 47))
      have HT := Lib.hid (HT.out.below HB.out)
      have tz := HT.out.z1
      generalize (w.alloc (.cells (stC c nilV) 47)).alloc (.cells (stC Kx.zero nilV) 47) = W at *
      go_wp2_with fail
      refine (PF.out _).mono ?_
      rintro r w' ⟨rfl, rfl⟩
      go_wp2_with fail
      refine (PS.out _).mono ?_
      rintro e w1 ⟨qa, qc, rfl, hl, hb⟩
      have S0 := Lib.hid (S0.out.below hb)
      have R0 := Lib.hid (R0.out.below hb)
      have HB := Lib.hid (bcall HB.out hb)
      clear hb hl PS
      go_wp2_with (first | (refine wpList_loadS (b := w.heap.size) (c := c) (v := nilV) rfl _ rfl rfl S0.out ?_) | (refine wpList_storeS (b := w.heap.size + 1) (c := Kx.zero) (c' := c) (v := nilV) (q := none) (n := 0) (k := 0) rfl _ _ rfl rfl rfl R0.out ?_))
      exact bodyPost_ret (v := .tuple #[.agg (stC c nilV), .int .i64 er]) (results_pair rfl _ _ (w.heap.size + 1) _ rfl (loadVarK shS (R0.out.put (stC c nilV)) rfl) (.int .i64 er) rfl) rfl (AnsSt.no HY.out (Box.below_setRow HB.out (by omega) _))
    | true =>
      obtain rfl : er = 0 := by
        by_cases h : er = 0
        · exact h
        · have := he (by rw [hf]; exact h)
          rw [hf] at this
          cases this
      have HY := Lib.hid (show out7 c d = (c.setN (fam (bt d 0)) (hopA (bt d 0) d), [], 0) by unfold out7; rw [if_neg hz, if_neg (by rw [e]; exact hn), hsz, hf, if_pos ⟨rfl, rfl⟩])
      rw [← HH.out, e] at HY
      have HY := Lib.hid (show out7 c d = ({ c with n0 := lgC 1 (d.extract 2 6) }, [], 0) from HY.out)
      clear hf he ho hz hs b0 b1 hn e hsz hy HH
      generalize d.extract 6 d.size = ea at *
      generalize d.extract 2 6 = es at *
      generalize lgC 1 es = eb at *
      go_enter Tryd.func28, Tryd.ntmps28
      go_upto_region 1 with fail
      change Code.wp _ _ _ _ ((w.alloc (.cells (stC c nilV) 47)).alloc (.cells (stC Kx.zero nilV) 47))
      have S0 := Lib.hid ((Bk.Bk.new 47 w (stC c nilV)).old (.cells (stC Kx.zero nilV) 47))
      have R0 := Bk.Bk.new 47 (w.alloc (.cells (stC c nilV) 47)) (stC Kx.zero nilV)
      rw [alloc_size] at R0
      have R0 := Lib.hid R0
      have HB := Lib.hid (balloc (balloc (Below.refl _ w) (.cells (stC c nilV) 47)) (.cells (stC Kx.zero nilV) 47))
      have HT := Lib.hid (HT.out.below HB.out)
      have tz := HT.out.z1
      generalize (w.alloc (.cells (stC c nilV) 47)).alloc (.cells (stC Kx.zero nilV) 47) = W at *
      go_wp2_with fail
      refine (PF.out _).mono ?_
      rintro r w' ⟨rfl, rfl⟩
      go_wp2_with fail
      refine (PS.out _).mono ?_
      rintro e w1 ⟨qa, qc, rfl, hl, hb⟩
      have S0 := Lib.hid (S0.out.below hb)
      have R0 := Lib.hid (R0.out.below hb)
      have HB := Lib.hid (bcall HB.out hb)
      clear hb hl PS
      go_wp2_with fail
      refine (PL.out _).mono ?_
      rintro r w' ⟨rfl, rfl⟩
      have d0 := S0.out.cell 4 _ rfl
      have fd := S0.out.frozen 4
      go_upto_region 13 with fail
      have XS := S0.out.set (i := 4) (v := .string eb) (cs' := stC { c with n0 := eb } nilV) rfl
      have XR := R0.out.off (p := ⟨w.heap.size, 4, none⟩) (by show w.heap.size + 1 ≠ w.heap.size; omega) (.string eb)
      have XB := HB.out.setCell (p := ⟨w.heap.size, 4, none⟩) (by show w.heap.size ≤ w.heap.size; omega) (.string eb)
      have S0 := Lib.hid XS
      have R0 := Lib.hid XR
      have HB := Lib.hid XB
      clear XS XR XB d0 fd
      generalize w1.setCell ⟨w.heap.size, 4, none⟩ (.string eb) = W2 at *
      go_wp2_with (first | (refine wpList_loadS (b := w.heap.size) (c := ({ c with n0 := eb } : Kx)) (v := nilV) rfl _ rfl rfl S0.out ?_) | (refine wpList_storeS (b := w.heap.size + 1) (c := Kx.zero) (c' := ({ c with n0 := eb } : Kx)) (v := nilV) (q := none) (n := 0) (k := 0) rfl _ _ rfl rfl rfl R0.out ?_))
      exact bodyPost_ret (v := .tuple #[.agg (stC ({ c with n0 := eb } : Kx) nilV), .int .i64 0]) (results_pair rfl _ _ (w.heap.size + 1) _ rfl (loadVarK shS (R0.out.put (stC ({ c with n0 := eb } : Kx) nilV)) rfl) (.int .i64 0) rfl) rfl (AnsSt.no HY.out (Box.below_setRow HB.out (by omega) _))
  · rw [e] at i0 v0 PF hn
    have PF := Lib.hid (show ∀ V, Calls Tryd.prog 13 #[.int .i64 2] V fun e w' => e = .returned (.int .i64 1) ∧ V = w' from PF.out)
    have hsz : sizeA (bt d 0) = 16 := by rw [e]; rfl
    by_cases hy : d.size < 18
    · have HY := Lib.hid (show out7 c d = (c, [], 2) by unfold out7; rw [if_neg hz, if_neg (by rw [e]; exact hn), hsz, fix_short hy, if_neg (fun h => by cases h.2)])
      have hy2 : (d.size : Int) < 18 := by omega
      clear hz hs b0 b1 hn e hsz hy
      go_enter Tryd.func28, Tryd.ntmps28
      go_upto_region 1 with fail
      change Code.wp _ _ _ _ ((w.alloc (.cells (stC c nilV) 47)).alloc (.cells (stC Kx.zero nilV) 47))
      have S0 := Lib.hid ((Bk.Bk.new 47 w (stC c nilV)).old (.cells (stC Kx.zero nilV) 47))
      have R0 := Bk.Bk.new 47 (w.alloc (.cells (stC c nilV) 47)) (stC Kx.zero nilV)
      rw [alloc_size] at R0
      have R0 := Lib.hid R0
      have HB := Lib.hid (balloc (balloc (Below.refl _ w) (.cells (stC c nilV) 47)) (.cells (stC Kx.zero nilV) 47))
      have HT := Lib.hid (HT.out.below HB.out)
      have tz := HT.out.z2
      generalize (w.alloc (.cells (stC c nilV) 47)).alloc (.cells (stC Kx.zero nilV) 47) = W at *
      go_wp2_with fail
      refine (PF.out _).mono ?_
      rintro r w' ⟨rfl, rfl⟩
      go_wp2_with (first | (refine wpList_loadS (b := w.heap.size) (c := c) (v := nilV) rfl _ rfl rfl S0.out ?_) | (refine wpList_storeS (b := w.heap.size + 1) (c := Kx.zero) (c' := c) (v := nilV) (q := none) (n := 0) (k := 0) rfl _ _ rfl rfl rfl R0.out ?_))
      exact bodyPost_ret (v := .tuple #[.agg (stC c nilV), .int .i64 2]) (results_pair rfl _ _ (w.heap.size + 1) _ rfl (loadVarK shS (R0.out.put (stC c nilV)) rfl) (.int .i64 2) rfl) rfl (AnsSt.no HY.out (Box.below_setRow HB.out (by omega) _))
    have hy2 : ¬ (d.size : Int) < 18 := by omega
    have hf := fix_long hy
    have he := fix_err (d := d) (z := 18)
    have PS := Lib.hid (fun V => S5.get_own (d.extract 18 d.size) V (by simp; omega))
    have slt := sl_l d 18 18 d.size rfl (by omega) rfl
    have sla := sl_m d 2 18 2 18 rfl rfl (by omega) (by omega)
    have PL := Lib.hid (fun V => long_any 2 (d.extract 2 18) V)
    have HH := Lib.hid (show lgC 2 (d.extract 2 18) = hopA (bt d 0) d by rw [e]; rfl)
    obtain ⟨⟨l, kn, er⟩, ho⟩ : ∃ q, outS (d.extract 18 d.size) = q := ⟨_, rfl⟩
    rw [ho] at PS hf
    cases kn with
    | false =>
      have HY := Lib.hid (show out7 c d = (c, [], er) by unfold out7; rw [if_neg hz, if_neg (by rw [e]; exact hn), hsz, hf, if_neg (fun h => by cases h.2)])
      clear hf he ho hz hs b0 b1 hn e hsz hy sla PL HH
      generalize d.extract 18 d.size = ea at *
      go_enter Tryd.func28, Tryd.ntmps28
      go_upto_region 1 with fail
      change Code.wp _ _ _ _ ((w.alloc (.cells (stC c nilV) 47)).alloc (.cells (stC Kx.zero nilV) 47))
      have S0 := Lib.hid ((Bk.Bk.new 47 w (stC c nilV)).old (.cells (stC Kx.zero nilV) 47))
      have R0 := Bk.Bk.new 47 (w.alloc (.cells (stC c nilV) 47)) (stC Kx.zero nilV)
      rw [alloc_size] at R0
      have R0 := Lib.hid R0
      have HB := Lib.hid (balloc (balloc (Below.refl _ w) (.cells (stC c nilV) 47)) (.cells (stC Kx.zero nilV) 47))
      have HT := Lib.hid (HT.out.below HB.out)
      have tz := HT.out.z2
      generalize (w.alloc (.cells (stC c nilV) 47)).alloc (.cells (stC Kx.zero nilV) 47) = W at *
      go_wp2_with fail
      refine (PF.out _).mono ?_
      rintro r w' ⟨rfl, rfl⟩
      go_wp2_with fail
      refine (PS.out _).mono ?_
      rintro e w1 ⟨qa, qc, rfl, hl, hb⟩
      have S0 := Lib.hid (S0.out.below hb)
      have R0 := Lib.hid (R0.out.below hb)
      have HB := Lib.hid (bcall HB.out hb)
      clear hb hl PS
      go_wp2_with (first | (refine wpList_loadS (b := w.heap.size) (c := c) (v := nilV) rfl _ rfl rfl S0.out ?_) | (refine wpList_storeS (b := w.heap.size + 1) (c := Kx.zero) (c' := c) (v := nilV) (q := none) (n := 0) (k := 0) rfl _ _ rfl rfl rfl R0.out ?_))
      exact bodyPost_ret (v := .tuple #[.agg (stC c nilV), .int .i64 er]) (results_pair rfl _ _ (w.heap.size + 1) _ rfl (loadVarK shS (R0.out.put (stC c nilV)) rfl) (.int .i64 er) rfl) rfl (AnsSt.no HY.out (Box.below_setRow HB.out (by omega) _))
    | true =>
      obtain rfl : er = 0 := by
        by_cases h : er = 0
        · exact h
        · have := he (by rw [hf]; exact h)
          rw [hf] at this
          cases this
      have HY := Lib.hid (show out7 c d = (c.setN (fam (bt d 0)) (hopA (bt d 0) d), [], 0) by unfold out7; rw [if_neg hz, if_neg (by rw [e]; exact hn), hsz, hf, if_pos ⟨rfl, rfl⟩])
      rw [← HH.out, e] at HY
      have HY := Lib.hid (show out7 c d = ({ c with n1 := lgC 2 (d.extract 2 18) }, [], 0) from HY.out)
      clear hf he ho hz hs b0 b1 hn e hsz hy HH
      generalize d.extract 18 d.size = ea at *
      generalize d.extract 2 18 = es at *
      generalize lgC 2 es = eb at *
      go_enter Tryd.func28, Tryd.ntmps28
      go_upto_region 1 with fail
      change Code.wp _ _ _ _ ((w.alloc (.cells (stC c nilV) 47)).alloc (.cells (stC Kx.zero nilV) 47))
      have S0 := Lib.hid ((Bk.Bk.new 47 w (stC c nilV)).old (.cells (stC Kx.zero nilV) 47))
      have R0 := Bk.Bk.new 47 (w.alloc (.cells (stC c nilV) 47)) (stC Kx.zero nilV)
      rw [alloc_size] at R0
      have R0 := Lib.hid R0
      have HB := Lib.hid (balloc (balloc (Below.refl _ w) (.cells (stC c nilV) 47)) (.cells (stC Kx.zero nilV) 47))
      have HT := Lib.hid (HT.out.below HB.out)
      have tz := HT.out.z2
      generalize (w.alloc (.cells (stC c nilV) 47)).alloc (.cells (stC Kx.zero nilV) 47) = W at *
      go_wp2_with fail
      refine (PF.out _).mono ?_
      rintro r w' ⟨rfl, rfl⟩
      go_wp2_with fail
      refine (PS.out _).mono ?_
      rintro e w1 ⟨qa, qc, rfl, hl, hb⟩
      have S0 := Lib.hid (S0.out.below hb)
      have R0 := Lib.hid (R0.out.below hb)
      have HB := Lib.hid (bcall HB.out hb)
      clear hb hl PS
      go_wp2_with fail
      refine (PL.out _).mono ?_
      rintro r w' ⟨rfl, rfl⟩
      have d0 := S0.out.cell 5 _ rfl
      have fd := S0.out.frozen 5
      go_upto_region 13 with fail
      have XS := S0.out.set (i := 5) (v := .string eb) (cs' := stC { c with n1 := eb } nilV) rfl
      have XR := R0.out.off (p := ⟨w.heap.size, 5, none⟩) (by show w.heap.size + 1 ≠ w.heap.size; omega) (.string eb)
      have XB := HB.out.setCell (p := ⟨w.heap.size, 5, none⟩) (by show w.heap.size ≤ w.heap.size; omega) (.string eb)
      have S0 := Lib.hid XS
      have R0 := Lib.hid XR
      have HB := Lib.hid XB
      clear XS XR XB d0 fd
      generalize w1.setCell ⟨w.heap.size, 5, none⟩ (.string eb) = W2 at *
      go_wp2_with (first | (refine wpList_loadS (b := w.heap.size) (c := ({ c with n1 := eb } : Kx)) (v := nilV) rfl _ rfl rfl S0.out ?_) | (refine wpList_storeS (b := w.heap.size + 1) (c := Kx.zero) (c' := ({ c with n1 := eb } : Kx)) (v := nilV) (q := none) (n := 0) (k := 0) rfl _ _ rfl rfl rfl R0.out ?_))
      exact bodyPost_ret (v := .tuple #[.agg (stC ({ c with n1 := eb } : Kx) nilV), .int .i64 0]) (results_pair rfl _ _ (w.heap.size + 1) _ rfl (loadVarK shS (R0.out.put (stC ({ c with n1 := eb } : Kx) nilV)) rfl) (.int .i64 0) rfl) rfl (AnsSt.no HY.out (Box.below_setRow HB.out (by omega) _))
  · rw [e] at i0 v0 PF hn
    have PF := Lib.hid (show ∀ V, Calls Tryd.prog 13 #[.int .i64 3] V fun e w' => e = .returned (.int .i64 1) ∧ V = w' from PF.out)
    have hsz : sizeA (bt d 0) = 8 := by rw [e]; rfl
    by_cases hy : d.size < 10
    · have HY := Lib.hid (show out7 c d = (c, [], 2) by unfold out7; rw [if_neg hz, if_neg (by rw [e]; exact hn), hsz, fix_short hy, if_neg (fun h => by cases h.2)])
      have hy2 : (d.size : Int) < 10 := by omega
      clear hz hs b0 b1 hn e hsz hy
      go_enter Tryd.func28, Tryd.ntmps28
      go_upto_region 1 with fail
      change Code.wp _ _ _ _ ((w.alloc (.cells (stC c nilV) 47)).alloc (.cells (stC Kx.zero nilV) 47))
      have S0 := Lib.hid ((Bk.Bk.new 47 w (stC c nilV)).old (.cells (stC Kx.zero nilV) 47))
      have R0 := Bk.Bk.new 47 (w.alloc (.cells (stC c nilV) 47)) (stC Kx.zero nilV)
      rw [alloc_size] at R0
      have R0 := Lib.hid R0
      have HB := Lib.hid (balloc (balloc (Below.refl _ w) (.cells (stC c nilV) 47)) (.cells (stC Kx.zero nilV) 47))
      have HT := Lib.hid (HT.out.below HB.out)
      have tz := HT.out.z3
      generalize (w.alloc (.cells (stC c nilV) 47)).alloc (.cells (stC Kx.zero nilV) 47) = W at *
      go_wp2_with fail
      refine (PF.out _).mono ?_
      rintro r w' ⟨rfl, rfl⟩
      go_wp2_with (first | (refine wpList_loadS (b := w.heap.size) (c := c) (v := nilV) rfl _ rfl rfl S0.out ?_) | (refine wpList_storeS (b := w.heap.size + 1) (c := Kx.zero) (c' := c) (v := nilV) (q := none) (n := 0) (k := 0) rfl _ _ rfl rfl rfl R0.out ?_))
      exact bodyPost_ret (v := .tuple #[.agg (stC c nilV), .int .i64 2]) (results_pair rfl _ _ (w.heap.size + 1) _ rfl (loadVarK shS (R0.out.put (stC c nilV)) rfl) (.int .i64 2) rfl) rfl (AnsSt.no HY.out (Box.below_setRow HB.out (by omega) _))
    have hy2 : ¬ (d.size : Int) < 10 := by omega
    have hf := fix_long hy
    have he := fix_err (d := d) (z := 10)
    have PS := Lib.hid (fun V => S5.get_own (d.extract 10 d.size) V (by simp; omega))
    have slt := sl_l d 10 10 d.size rfl (by omega) rfl
    have sla := sl_m d 2 10 2 10 rfl rfl (by omega) (by omega)
    have PL := Lib.hid (fun V => long_any 3 (d.extract 2 10) V)
    have HH := Lib.hid (show lgC 3 (d.extract 2 10) = hopA (bt d 0) d by rw [e]; rfl)
    obtain ⟨⟨l, kn, er⟩, ho⟩ : ∃ q, outS (d.extract 10 d.size) = q := ⟨_, rfl⟩
    rw [ho] at PS hf
    cases kn with
    | false =>
      have HY := Lib.hid (show out7 c d = (c, [], er) by unfold out7; rw [if_neg hz, if_neg (by rw [e]; exact hn), hsz, hf, if_neg (fun h => by cases h.2)])
      clear hf he ho hz hs b0 b1 hn e hsz hy sla PL HH
      generalize d.extract 10 d.size = ea at *
      go_enter Tryd.func28, Tryd.ntmps28
      go_upto_region 1 with fail
      change Code.wp _ _ _ _ ((w.alloc (.cells (stC c nilV) 47)).alloc (.cells (stC Kx.zero nilV) 47))
      have S0 := Lib.hid ((Bk.Bk.new 47 w (stC c nilV)).old (.cells (stC Kx.zero nilV) 47))
      have R0 := Bk.Bk.new 47 (w.alloc (.cells (stC c nilV) 47)) (stC Kx.zero nilV)
      rw [alloc_size] at R0
      have R0 := Lib.hid R0
      have HB := Lib.hid (balloc (balloc (Below.refl _ w) (.cells (stC c nilV) 47)) (.cells (stC Kx.zero nilV) 47))
      have HT := Lib.hid (HT.out.below HB.out)
      have tz := HT.out.z3
      generalize (w.alloc (.cells (stC c nilV) 47)).alloc (.cells (stC Kx.zero nilV) 47) = W at *
      go_wp2_with fail
      refine (PF.out _).mono ?_
      rintro r w' ⟨rfl, rfl⟩
      go_wp2_with fail
      refine (PS.out _).mono ?_
      rintro e w1 ⟨qa, qc, rfl, hl, hb⟩
      have S0 := Lib.hid (S0.out.below hb)
      have R0 := Lib.hid (R0.out.below hb)
      have HB := Lib.hid (bcall HB.out hb)
      clear hb hl PS
      go_wp2_with (first | (refine wpList_loadS (b := w.heap.size) (c := c) (v := nilV) rfl _ rfl rfl S0.out ?_) | (refine wpList_storeS (b := w.heap.size + 1) (c := Kx.zero) (c' := c) (v := nilV) (q := none) (n := 0) (k := 0) rfl _ _ rfl rfl rfl R0.out ?_))
      exact bodyPost_ret (v := .tuple #[.agg (stC c nilV), .int .i64 er]) (results_pair rfl _ _ (w.heap.size + 1) _ rfl (loadVarK shS (R0.out.put (stC c nilV)) rfl) (.int .i64 er) rfl) rfl (AnsSt.no HY.out (Box.below_setRow HB.out (by omega) _))
    | true =>
      obtain rfl : er = 0 := by
        by_cases h : er = 0
        · exact h
        · have := he (by rw [hf]; exact h)
          rw [hf] at this
          cases this
      have HY := Lib.hid (show out7 c d = (c.setN (fam (bt d 0)) (hopA (bt d 0) d), [], 0) by unfold out7; rw [if_neg hz, if_neg (by rw [e]; exact hn), hsz, hf, if_pos ⟨rfl, rfl⟩])
      rw [← HH.out, e] at HY
      have HY := Lib.hid (show out7 c d = ({ c with n1 := lgC 3 (d.extract 2 10) }, [], 0) from HY.out)
      clear hf he ho hz hs b0 b1 hn e hsz hy HH
      generalize d.extract 10 d.size = ea at *
      generalize d.extract 2 10 = es at *
      generalize lgC 3 es = eb at *
      go_enter Tryd.func28, Tryd.ntmps28
      go_upto_region 1 with fail
      change Code.wp _ _ _ _ ((w.alloc (.cells (stC c nilV) 47)).alloc (.cells (stC Kx.zero nilV) 47))
      have S0 := Lib.hid ((Bk.Bk.new 47 w (stC c nilV)).old (.cells (stC Kx.zero nilV) 47))
      have R0 := Bk.Bk.new 47 (w.alloc (.cells (stC c nilV) 47)) (stC Kx.zero nilV)
      rw [alloc_size] at R0
      have R0 := Lib.hid R0
      have HB := Lib.hid (balloc (balloc (Below.refl _ w) (.cells (stC c nilV) 47)) (.cells (stC Kx.zero nilV) 47))
      have HT := Lib.hid (HT.out.below HB.out)
      have tz := HT.out.z3
      generalize (w.alloc (.cells (stC c nilV) 47)).alloc (.cells (stC Kx.zero nilV) 47) = W at *
      go_wp2_with fail
      refine (PF.out _).mono ?_
      rintro r w' ⟨rfl, rfl⟩
      go_wp2_with fail
      refine (PS.out _).mono ?_
      rintro e w1 ⟨qa, qc, rfl, hl, hb⟩
      have S0 := Lib.hid (S0.out.below hb)
      have R0 := Lib.hid (R0.out.below hb)
      have HB := Lib.hid (bcall HB.out hb)
      clear hb hl PS
      go_wp2_with fail
      refine (PL.out _).mono ?_
      rintro r w' ⟨rfl, rfl⟩
      have d0 := S0.out.cell 5 _ rfl
      have fd := S0.out.frozen 5
      go_upto_region 13 with fail
      have XS := S0.out.set (i := 5) (v := .string eb) (cs' := stC { c with n1 := eb } nilV) rfl
      have XR := R0.out.off (p := ⟨w.heap.size, 5, none⟩) (by show w.heap.size + 1 ≠ w.heap.size; omega) (.string eb)
      have XB := HB.out.setCell (p := ⟨w.heap.size, 5, none⟩) (by show w.heap.size ≤ w.heap.size; omega) (.string eb)
      have S0 := Lib.hid XS
      have R0 := Lib.hid XR
      have HB := Lib.hid XB
      clear XS XR XB d0 fd
      generalize w1.setCell ⟨w.heap.size, 5, none⟩ (.string eb) = W2 at *
      go_wp2_with (first | (refine wpList_loadS (b := w.heap.size) (c := ({ c with n1 := eb } : Kx)) (v := nilV) rfl _ rfl rfl S0.out ?_) | (refine wpList_storeS (b := w.heap.size + 1) (c := Kx.zero) (c' := ({ c with n1 := eb } : Kx)) (v := nilV) (q := none) (n := 0) (k := 0) rfl _ _ rfl rfl rfl R0.out ?_))
      exact bodyPost_ret (v := .tuple #[.agg (stC ({ c with n1 := eb } : Kx) nilV), .int .i64 0]) (results_pair rfl _ _ (w.heap.size + 1) _ rfl (loadVarK shS (R0.out.put (stC ({ c with n1 := eb } : Kx) nilV)) rfl) (.int .i64 0) rfl) rfl (AnsSt.no HY.out (Box.below_setRow HB.out (by omega) _))
theorem cnt_with {d : ByteArray} {u : Up} (g : Cnt d u) (a : Option Addr) (k : Nat) : Cnt d { u with sa := a, sc := k } := ⟨g.ae0, g.ae3, g.len, g.om0, g.omle, g.size, g.subs, g.iv, g.seq, g.metric, g.fl0, g.fl1⟩
set_option maxHeartbeats 25600000 in
theorem update_any (c : Kx) (a : Int) (d : ByteArray) (w : World) (hc : okC c = true) (hs : d.size ≤ 100000) (ht : Tab w) :
    Calls Tryd.prog 29 #[.agg (stC c nilV), .agg (cellsT (a, (d, 8)))] w (AnsSt (out8 c d) w) := by
  have ho := (okc_iff c).1 hc
  rcases outK_two d with ⟨er, hq⟩ | ⟨u, g, hq⟩
  · have HY := Lib.hid (out8_no (c := c) hq)
    obtain ⟨q, hqq⟩ : ∃ q : Up, q = Up.zero := ⟨_, rfl⟩
    have P1 := Lib.hid (fun V (y : Tab V) => show Calls Tryd.prog 52 #[.agg (cellsT (a, (d, 8)))] V (fun e w' => ∃ sa sc, e = .returned (.tuple #[.agg (Up.cells { q with sa := sa, sc := sc }), .bool false, .int .i64 er]) ∧ Below V.heap.size V w') from
      (J6.take_own a d V hs y).mono (fun e w' h => by
        rw [hq] at h
        obtain ⟨sa, sc, h1, _, h3⟩ := h
        rw [hqq]
        exact ⟨sa, sc, h1, h3⟩))
    clear hq hqq ho hc hs
    go_enter Tryd.func29, Tryd.ntmps29
    go_upto_region 1 with fail
    change Code.wp _ _ _ _ (((w.alloc (.cells (stC c nilV) 47)).alloc (.cells (cellsT (a, (d, 8))) 29)).alloc (.cells (stC Kx.zero nilV) 47))
    have S0 := Lib.hid (((Bk.Bk.new 47 w (stC c nilV)).old (.cells (cellsT (a, (d, 8))) 29)).old (.cells (stC Kx.zero nilV) 47))
    have T0 := Bk.Bk.new 29 (w.alloc (.cells (stC c nilV) 47)) (cellsT (a, (d, 8)))
    rw [alloc_size] at T0
    have T0 := Lib.hid (T0.old (.cells (stC Kx.zero nilV) 47))
    have R0 := Bk.Bk.new 47 ((w.alloc (.cells (stC c nilV) 47)).alloc (.cells (cellsT (a, (d, 8))) 29)) (stC Kx.zero nilV)
    rw [alloc_size, alloc_size] at R0
    have R0 := Lib.hid R0
    have HB := Lib.hid (balloc (balloc (balloc (Below.refl _ w) (.cells (stC c nilV) 47)) (.cells (cellsT (a, (d, 8))) 29)) (.cells (stC Kx.zero nilV) 47))
    have HT := Lib.hid (ht.below HB.out)
    have h1 := ht.pos
    have hlt := R0.out.lt
    clear ht
    generalize ((w.alloc (.cells (stC c nilV) 47)).alloc (.cells (cellsT (a, (d, 8))) 29)).alloc (.cells (stC Kx.zero nilV) 47) = W at *
    go_wp2_with (first | (refine Bk.wpList_loadK (b := w.heap.size + 1) Tl.shT rfl _ rfl rfl T0.out rfl ?_))
    refine (P1.out _ HT.out).mono ?_
    rintro e w1 ⟨sa, sc, rfl, hb⟩
    have S0 := Lib.hid (S0.out.below hb)
    have R0 := Lib.hid (R0.out.below hb)
    have HT := Lib.hid (HT.out.below hb)
    have HB := Lib.hid (bcall HB.out hb)
    go_upto_region 2 with (refine wpList_storeU (b := w1.heap.size) (m := Up.zero) (m' := { q with sa := sa, sc := sc }) rfl _ _ rfl rfl rfl (Bk.Bk.new 66 w1 Up.zero.cells) ?_)
    change Code.wp _ _ _ _ ((w1.alloc (.cells Up.zero.cells 66)).setRow w1.heap.size (Up.cells { q with sa := sa, sc := sc }))
    rw [World.setRow_alloc_new]
    have bel := balloc (Below.refl w1.heap.size w1) (.cells (Up.cells { q with sa := sa, sc := sc }) 66)
    have hlt1 := R0.out.lt
    have S0 := Lib.hid (S0.out.below bel)
    have R0 := Lib.hid (R0.out.below bel)
    have HT := Lib.hid (HT.out.below bel)
    have HB := Lib.hid (bcall HB.out bel)
    clear hb bel T0 P1
    generalize w1.alloc (.cells (Up.cells { q with sa := sa, sc := sc }) 66) = V1 at *
    generalize w1.heap.size = g1 at *
    go_wp2_with (first | (refine wpList_loadS (b := w.heap.size) (c := c) (v := nilV) rfl _ rfl rfl S0.out ?_) | (refine wpList_storeS (b := w.heap.size + 1 + 1) (c := Kx.zero) (c' := c) (v := nilV) (q := none) (n := 0) (k := 0) rfl _ _ rfl rfl rfl R0.out ?_))
    exact bodyPost_ret (v := .tuple #[.agg (stC c nilV), .int .i64 er]) (results_pair rfl _ _ (w.heap.size + 1 + 1) _ rfl (loadVarK shS (R0.out.put (stC c nilV)) rfl) (.int .i64 er) rfl) rfl (AnsSt.no HY.out (Box.below_setRow HB.out (by omega) _))
  have P1 := Lib.hid (fun V (y : Tab V) => show Calls Tryd.prog 52 #[.agg (cellsT (a, (d, 8)))] V (fun e w' => ∃ v : Up, Cnt d v ∧ out8 c d = stU c v ∧ e = .returned (.tuple #[.agg v.cells, .bool true, .int .i64 0]) ∧ Sx.Lst V.heap.size w' (.slice v.sa v.sl.length v.sc) v.sl ∧ Below V.heap.size V w') from
    (J6.take_own a d V hs y).mono (fun e w' h => by
      rw [hq] at h
      obtain ⟨sa, sc, h1, h2, h3⟩ := h
      exact ⟨{ u with sa := sa, sc := sc }, cnt_with g sa sc, (out8_yes hq).trans rfl, h1, h2, h3⟩))
  clear hq g u
  go_enter Tryd.func29, Tryd.ntmps29
  go_upto_region 1 with fail
  change Code.wp _ _ _ _ (((w.alloc (.cells (stC c nilV) 47)).alloc (.cells (cellsT (a, (d, 8))) 29)).alloc (.cells (stC Kx.zero nilV) 47))
  have S0 := Lib.hid (((Bk.Bk.new 47 w (stC c nilV)).old (.cells (cellsT (a, (d, 8))) 29)).old (.cells (stC Kx.zero nilV) 47))
  have T0 := Bk.Bk.new 29 (w.alloc (.cells (stC c nilV) 47)) (cellsT (a, (d, 8)))
  rw [alloc_size] at T0
  have T0 := Lib.hid (T0.old (.cells (stC Kx.zero nilV) 47))
  have R0 := Bk.Bk.new 47 ((w.alloc (.cells (stC c nilV) 47)).alloc (.cells (cellsT (a, (d, 8))) 29)) (stC Kx.zero nilV)
  rw [alloc_size, alloc_size] at R0
  have R0 := Lib.hid R0
  have HB := Lib.hid (balloc (balloc (balloc (Below.refl _ w) (.cells (stC c nilV) 47)) (.cells (cellsT (a, (d, 8))) 29)) (.cells (stC Kx.zero nilV) 47))
  have HT := Lib.hid (ht.below HB.out)
  have h1 := ht.pos
  have hlt := R0.out.lt
  clear ht
  generalize ((w.alloc (.cells (stC c nilV) 47)).alloc (.cells (cellsT (a, (d, 8))) 29)).alloc (.cells (stC Kx.zero nilV) 47) = W at *
  go_wp2_with (first | (refine Bk.wpList_loadK (b := w.heap.size + 1) Tl.shT rfl _ rfl rfl T0.out rfl ?_))
  refine (P1.out _ HT.out).mono ?_
  rintro e w1 ⟨v, g, hy, rfl, hl, hb⟩
  have S0 := Lib.hid (S0.out.below hb)
  have R0 := Lib.hid (R0.out.below hb)
  have HT := Lib.hid (HT.out.below hb)
  have HB := Lib.hid (bcall HB.out hb)
  go_upto_region 2 with (refine wpList_storeU (b := w1.heap.size) (m := Up.zero) (m' := v) rfl _ _ rfl rfl rfl (Bk.Bk.new 66 w1 Up.zero.cells) ?_)
  change Code.wp _ _ _ _ ((w1.alloc (.cells Up.zero.cells 66)).setRow w1.heap.size (Up.cells v))
  rw [World.setRow_alloc_new]
  have bel := balloc (Below.refl w1.heap.size w1) (.cells (Up.cells v) 66)
  have hlt1 := R0.out.lt
  have S0 := Lib.hid (S0.out.below bel)
  have R0 := Lib.hid (R0.out.below bel)
  have HT := Lib.hid (HT.out.below bel)
  have HB := Lib.hid (bcall HB.out bel)
  have HL := Lib.hid (hl.below bel)
  have U0 := Lib.hid (Bk.Bk.new 66 w1 v.cells)
  obtain ⟨B1, hB1⟩ : ∃ B, W.heap.size = B := ⟨_, rfl⟩
  rw [hB1] at HL hlt
  have hg1 : B1 ≤ w1.heap.size := by rw [← hB1]; exact hb.size
  have hwB : w.heap.size ≤ B1 := by omega
  clear hb hl bel T0 P1 hB1
  generalize w1.alloc (.cells v.cells 66) = V1 at *
  generalize w1.heap.size = g1 at *
  obtain ⟨k, hk⟩ : ∃ k : Nat, v.ae = k := ⟨v.ae.toNat, by have := g.ae0; omega⟩
  have hk4 : k < 4 := by have := g.ae3; omega
  have c3 := U0.out.cell 3 (.int .i64 v.om) rfl
  by_cases h0 : 0 < v.om
  rotate_left
  · have e0 : v.om = 0 := by have := g.om0; omega
    have hx : ¬ (0 < v.om ∧ (c.pf v.ae).size = 0) := fun h => h0 h.1
    rw [e0] at c3
    clear h0 e0
    go_upto_region 6 with fail
    clear c3 hk hk4
    have HY := Lib.hid (hy.trans (stU_yes hx))
    have hi := adr_in ho g hx
    have hz16 : (adrC c v).size ≤ 1000 := by have := J2.adr_size hi; omega
    have P2 := Lib.hid (fun V (y : Tab V) => address_any c nilV d v V ho g hx y)
    have P3 := Lib.hid (fun V => flagged_any c d v (adrC c v) V g hz16)
    have P4 := Lib.hid (fun V => tells_any (flagC c v (adrC c v)) v V)
    have P5 := Lib.hid (fun V h => message_any (flagC c v (adrC c v)) d v (adrC c v) V g h)
    have HTE := Lib.hid (tell_is (flagC c v (adrC c v)) v)
    clear hx hi hz16 ho hc hy
    generalize adrC c v = ad at *
    generalize flagC c v ad = cf at *
    go_wp2_with (first | (refine wpList_loadS (b := w.heap.size) (c := c) (v := nilV) rfl _ rfl rfl S0.out ?_) | (refine wpList_loadU (b := g1) (m := v) rfl _ rfl rfl U0.out ?_))
    refine (P2.out _ HT.out).mono ?_
    rintro e w2 ⟨rfl, hb⟩
    have S0 := Lib.hid (S0.out.below hb)
    have U0 := Lib.hid (U0.out.below hb)
    have R0 := Lib.hid (R0.out.below hb)
    have HT := Lib.hid (HT.out.below hb)
    have HL := Lib.hid (HL.out.below hb)
    have HB := Lib.hid (bcall HB.out hb)
    clear hb P2
    go_wp2_with (first | (refine wpList_loadS (b := w.heap.size) (c := c) (v := nilV) rfl _ rfl rfl S0.out ?_) | (refine wpList_loadU (b := g1) (m := v) rfl _ rfl rfl U0.out ?_))
    refine (P3.out _).mono ?_
    rintro e w3 ⟨rfl, hb⟩
    have S0 := Lib.hid (S0.out.below hb)
    have U0 := Lib.hid (U0.out.below hb)
    have R0 := Lib.hid (R0.out.below hb)
    have HT := Lib.hid (HT.out.below hb)
    have HL := Lib.hid (HL.out.below hb)
    have HB := Lib.hid (bcall HB.out hb)
    clear hb P3
    have hlt3 := R0.out.lt
    go_upto_region 8 with (refine wpList_storeS (b := w.heap.size) (c := c) (c' := cf) (v := nilV) (q := none) (n := 0) (k := 0) rfl _ _ rfl rfl rfl S0.out ?_)
    have HL := Lib.hid (lst_under HL.out (g := w.heap.size) (by omega) (stC cf nilV))
    have HT := Lib.hid (HT.out.row (g := w.heap.size) h1 (stC cf nilV))
    have U0 := Lib.hid (U0.out.row (g := w.heap.size) (by omega) (stC cf nilV))
    have R0 := Lib.hid (R0.out.row (g := w.heap.size) (by omega) (stC cf nilV))
    have S0 := Lib.hid (S0.out.put (stC cf nilV))
    have HB := Lib.hid (Box.below_setRow HB.out (Nat.le_refl _) (stC cf nilV))
    generalize w3.setRow w.heap.size (stC cf nilV) = V4 at *
    go_wp2_with (first | (refine wpList_loadS (b := w.heap.size) (c := cf) (v := nilV) rfl _ rfl rfl S0.out ?_) | (refine wpList_loadU (b := g1) (m := v) rfl _ rfl rfl U0.out ?_))
    refine (P4.out _).mono ?_
    rintro e w5 ⟨rfl, hb⟩
    have S0 := Lib.hid (S0.out.below hb)
    have U0 := Lib.hid (U0.out.below hb)
    have R0 := Lib.hid (R0.out.below hb)
    have HT := Lib.hid (HT.out.below hb)
    have HL := Lib.hid (HL.out.below hb)
    have HB := Lib.hid (bcall HB.out hb)
    clear hb P4
    cases htb : tellB cf v with
    | false =>
      rw [htb] at HY
      have HY := Lib.hid (show out8 c d = (cf, [], 0) from HY.out)
      clear htb P5 HTE
      go_wp2_with (first | (refine wpList_loadS (b := w.heap.size) (c := cf) (v := nilV) rfl _ rfl rfl S0.out ?_) | (refine wpList_storeS (b := w.heap.size + 1 + 1) (c := Kx.zero) (c' := cf) (v := nilV) (q := none) (n := 0) (k := 0) rfl _ _ rfl rfl rfl R0.out ?_))
      exact bodyPost_ret (v := .tuple #[.agg (stC cf nilV), .int .i64 0]) (results_pair rfl _ _ (w.heap.size + 1 + 1) _ rfl (loadVarK shS (R0.out.put (stC cf nilV)) rfl) (.int .i64 0) rfl) rfl (AnsSt.no HY.out (Box.below_setRow HB.out (by omega) _))
    | true =>
      have HY := Lib.hid (show out8 c d = (cf, [updM cf v ad], 0) by rw [HY.out, htb]; rfl)
      have hm : v.metric = 65535 ∨ ¬ v.ae = 0 := by
        have := HTE.out
        rw [htb] at this
        by_cases h : v.metric = 65535
        · exact .inl h
        · refine .inr (fun h0 => ?_)
          rw [decide_eq_false h, decide_eq_true h0] at this
          simp at this
      have P5 := Lib.hid (fun V => P5.out V hm)
      clear htb HTE hm
      go_wp2_with (first | (refine wpList_loadS (b := w.heap.size) (c := cf) (v := nilV) rfl _ rfl rfl S0.out ?_) | (refine wpList_loadU (b := g1) (m := v) rfl _ rfl rfl U0.out ?_))
      refine (P5.out _).mono ?_
      rintro e w6 ⟨rfl, hb⟩
      have S0 := Lib.hid (S0.out.below hb)
      have U0 := Lib.hid (U0.out.below hb)
      have R0 := Lib.hid (R0.out.below hb)
      have HT := Lib.hid (HT.out.below hb)
      have HL := Lib.hid (HL.out.below hb)
      have HB := Lib.hid (bcall HB.out hb)
      clear hb P5
      obtain ⟨nm, hnm⟩ : ∃ m : M, m = { updM cf v ad with sa := v.sa, sc := v.sc } := ⟨_, rfl⟩
      have hll : nm.ll = [] := by rw [hnm]; rfl
      have HP := Lib.hid (show Pl nm (updM cf v ad) by rw [hnm]; rfl)
      have HO := Lib.hid (one_new (n := nm) hll (show Sx.Lst B1 w6 (.slice nm.sa nm.sl.length nm.sc) nm.sl by rw [hnm]; exact HL.out) (by have := R0.out.lt; have := U0.out.lt; omega))
      have bel := balloc (Below.refl w6.heap.size w6) (.cells nm.cells 40)
      have S7 := S0.out.below bel
      have d7 := S7.cell 7 _ rfl
      have fd := S7.frozen 7
      rw [← hnm]
      clear hnm hll
      go_upto_region 10 with (first | (refine Ap.bs_one (m := nm) rfl _ rfl rfl ?_))
      have S0 := Lib.hid (S0.out.below bel)
      have R0 := Lib.hid (R0.out.below bel)
      have HB := Lib.hid (bcall HB.out bel)
      have HO := Lib.hid (MOwn.cell HO.out (p := ⟨w.heap.size, 7, none⟩) (by show w.heap.size < B1; omega) (.slice (some ⟨w6.heap.size, 0, none⟩) 1 1))
      have S0 := Lib.hid (S0.out.set (i := 7) (v := .slice (some ⟨w6.heap.size, 0, none⟩) 1 1) (cs' := stC cf (.slice (some ⟨w6.heap.size, 0, none⟩) 1 1)) rfl)
      have R0 := Lib.hid (R0.out.off (p := ⟨w.heap.size, 7, none⟩) (by show w.heap.size + 1 + 1 ≠ w.heap.size; omega) (.slice (some ⟨w6.heap.size, 0, none⟩) 1 1))
      have HB := Lib.hid (HB.out.setCell (p := ⟨w.heap.size, 7, none⟩) (by show w.heap.size ≤ w.heap.size; omega) (.slice (some ⟨w6.heap.size, 0, none⟩) 1 1))
      clear d7 fd bel S7 U0 HT HL
      generalize (w6.alloc (.cells nm.cells 40)).setCell ⟨w.heap.size, 7, none⟩ (.slice (some ⟨w6.heap.size, 0, none⟩) 1 1) = V7 at *
      generalize w6.heap.size = g6 at *
      go_wp2_with (first | (refine wpList_loadS (b := w.heap.size) (c := cf) (v := (.slice (some ⟨g6, 0, none⟩) 1 1)) rfl _ rfl rfl S0.out ?_) | (refine wpList_storeS (b := w.heap.size + 1 + 1) (c := Kx.zero) (c' := cf) (v := nilV) (q := some ⟨g6, 0, none⟩) (n := 1) (k := 1) rfl _ _ rfl rfl rfl R0.out ?_))
      exact bodyPost_ret (v := .tuple #[.agg (stC cf (.slice (some ⟨g6, 0, none⟩) 1 1)), .int .i64 0]) (results_pair rfl _ _ (w.heap.size + 1 + 1) _ rfl (loadVarK shS (R0.out.put (stC cf (.slice (some ⟨g6, 0, none⟩) 1 1))) rfl) (.int .i64 0) rfl) rfl (AnsSt.one HY.out HP.out ((MOwn.under HO.out (by omega) _).mono hwB) (Box.below_setRow HB.out (by omega) _))
  have n1 := nil_eq (c.pf k)
  have n2 := nil_em (c.pf k)
  have c0 := U0.out.cell 0 (.int .i64 v.ae) rfl
  rw [hk] at c0
  have p0 := pf_cell S0.out hk4
  by_cases hz : (c.pf k).size = 0
  · have HY := Lib.hid (hy.trans (stU_err ⟨h0, by rw [hk]; exact hz⟩))
    rw [decide_eq_true hz] at n1 n2
    clear hz hy hk ho hc g
    go_wp2_with (first | (refine st_yes (v := .pointer (some ⟨w.heap.size, k, none⟩)) (by rfl) rfl (ex_indexAt rfl rfl rfl (indexAt4 w.heap.size k hk4 _)) ?_) | (refine wpList_loadS (b := w.heap.size) (c := c) (v := nilV) rfl _ rfl rfl S0.out ?_) | (refine wpList_storeS (b := w.heap.size + 1 + 1) (c := Kx.zero) (c' := c) (v := nilV) (q := none) (n := 0) (k := 0) rfl _ _ rfl rfl rfl R0.out ?_))
    exact bodyPost_ret (v := .tuple #[.agg (stC c nilV), .int .i64 9]) (results_pair rfl _ _ (w.heap.size + 1 + 1) _ rfl (loadVarK shS (R0.out.put (stC c nilV)) rfl) (.int .i64 9) rfl) rfl (AnsSt.no HY.out (Box.below_setRow HB.out (by omega) _))
  have hx : ¬ (0 < v.om ∧ (c.pf v.ae).size = 0) := fun h => hz (by rw [← hk]; exact h.2)
  rw [decide_eq_false hz] at n1 n2
  clear hz hk
  go_upto_region 6 with (first | (refine st_yes (v := .pointer (some ⟨w.heap.size, k, none⟩)) (by rfl) rfl (ex_indexAt rfl rfl rfl (indexAt4 w.heap.size k hk4 _)) ?_))
  clear c3 c0 p0 n1 n2 h0 hk4
  have HY := Lib.hid (hy.trans (stU_yes hx))
  have hi := adr_in ho g hx
  have hz16 : (adrC c v).size ≤ 1000 := by have := J2.adr_size hi; omega
  have P2 := Lib.hid (fun V (y : Tab V) => address_any c nilV d v V ho g hx y)
  have P3 := Lib.hid (fun V => flagged_any c d v (adrC c v) V g hz16)
  have P4 := Lib.hid (fun V => tells_any (flagC c v (adrC c v)) v V)
  have P5 := Lib.hid (fun V h => message_any (flagC c v (adrC c v)) d v (adrC c v) V g h)
  have HTE := Lib.hid (tell_is (flagC c v (adrC c v)) v)
  clear hx hi hz16 ho hc hy
  generalize adrC c v = ad at *
  generalize flagC c v ad = cf at *
  go_wp2_with (first | (refine wpList_loadS (b := w.heap.size) (c := c) (v := nilV) rfl _ rfl rfl S0.out ?_) | (refine wpList_loadU (b := g1) (m := v) rfl _ rfl rfl U0.out ?_))
  refine (P2.out _ HT.out).mono ?_
  rintro e w2 ⟨rfl, hb⟩
  have S0 := Lib.hid (S0.out.below hb)
  have U0 := Lib.hid (U0.out.below hb)
  have R0 := Lib.hid (R0.out.below hb)
  have HT := Lib.hid (HT.out.below hb)
  have HL := Lib.hid (HL.out.below hb)
  have HB := Lib.hid (bcall HB.out hb)
  clear hb P2
  go_wp2_with (first | (refine wpList_loadS (b := w.heap.size) (c := c) (v := nilV) rfl _ rfl rfl S0.out ?_) | (refine wpList_loadU (b := g1) (m := v) rfl _ rfl rfl U0.out ?_))
  refine (P3.out _).mono ?_
  rintro e w3 ⟨rfl, hb⟩
  have S0 := Lib.hid (S0.out.below hb)
  have U0 := Lib.hid (U0.out.below hb)
  have R0 := Lib.hid (R0.out.below hb)
  have HT := Lib.hid (HT.out.below hb)
  have HL := Lib.hid (HL.out.below hb)
  have HB := Lib.hid (bcall HB.out hb)
  clear hb P3
  have hlt3 := R0.out.lt
  go_upto_region 8 with (refine wpList_storeS (b := w.heap.size) (c := c) (c' := cf) (v := nilV) (q := none) (n := 0) (k := 0) rfl _ _ rfl rfl rfl S0.out ?_)
  have HL := Lib.hid (lst_under HL.out (g := w.heap.size) (by omega) (stC cf nilV))
  have HT := Lib.hid (HT.out.row (g := w.heap.size) h1 (stC cf nilV))
  have U0 := Lib.hid (U0.out.row (g := w.heap.size) (by omega) (stC cf nilV))
  have R0 := Lib.hid (R0.out.row (g := w.heap.size) (by omega) (stC cf nilV))
  have S0 := Lib.hid (S0.out.put (stC cf nilV))
  have HB := Lib.hid (Box.below_setRow HB.out (Nat.le_refl _) (stC cf nilV))
  generalize w3.setRow w.heap.size (stC cf nilV) = V4 at *
  go_wp2_with (first | (refine wpList_loadS (b := w.heap.size) (c := cf) (v := nilV) rfl _ rfl rfl S0.out ?_) | (refine wpList_loadU (b := g1) (m := v) rfl _ rfl rfl U0.out ?_))
  refine (P4.out _).mono ?_
  rintro e w5 ⟨rfl, hb⟩
  have S0 := Lib.hid (S0.out.below hb)
  have U0 := Lib.hid (U0.out.below hb)
  have R0 := Lib.hid (R0.out.below hb)
  have HT := Lib.hid (HT.out.below hb)
  have HL := Lib.hid (HL.out.below hb)
  have HB := Lib.hid (bcall HB.out hb)
  clear hb P4
  cases htb : tellB cf v with
  | false =>
    rw [htb] at HY
    have HY := Lib.hid (show out8 c d = (cf, [], 0) from HY.out)
    clear htb P5 HTE
    go_wp2_with (first | (refine wpList_loadS (b := w.heap.size) (c := cf) (v := nilV) rfl _ rfl rfl S0.out ?_) | (refine wpList_storeS (b := w.heap.size + 1 + 1) (c := Kx.zero) (c' := cf) (v := nilV) (q := none) (n := 0) (k := 0) rfl _ _ rfl rfl rfl R0.out ?_))
    exact bodyPost_ret (v := .tuple #[.agg (stC cf nilV), .int .i64 0]) (results_pair rfl _ _ (w.heap.size + 1 + 1) _ rfl (loadVarK shS (R0.out.put (stC cf nilV)) rfl) (.int .i64 0) rfl) rfl (AnsSt.no HY.out (Box.below_setRow HB.out (by omega) _))
  | true =>
    have HY := Lib.hid (show out8 c d = (cf, [updM cf v ad], 0) by rw [HY.out, htb]; rfl)
    have hm : v.metric = 65535 ∨ ¬ v.ae = 0 := by
      have := HTE.out
      rw [htb] at this
      by_cases h : v.metric = 65535
      · exact .inl h
      · refine .inr (fun h0 => ?_)
        rw [decide_eq_false h, decide_eq_true h0] at this
        simp at this
    have P5 := Lib.hid (fun V => P5.out V hm)
    clear htb HTE hm
    go_wp2_with (first | (refine wpList_loadS (b := w.heap.size) (c := cf) (v := nilV) rfl _ rfl rfl S0.out ?_) | (refine wpList_loadU (b := g1) (m := v) rfl _ rfl rfl U0.out ?_))
    refine (P5.out _).mono ?_
    rintro e w6 ⟨rfl, hb⟩
    have S0 := Lib.hid (S0.out.below hb)
    have U0 := Lib.hid (U0.out.below hb)
    have R0 := Lib.hid (R0.out.below hb)
    have HT := Lib.hid (HT.out.below hb)
    have HL := Lib.hid (HL.out.below hb)
    have HB := Lib.hid (bcall HB.out hb)
    clear hb P5
    obtain ⟨nm, hnm⟩ : ∃ m : M, m = { updM cf v ad with sa := v.sa, sc := v.sc } := ⟨_, rfl⟩
    have hll : nm.ll = [] := by rw [hnm]; rfl
    have HP := Lib.hid (show Pl nm (updM cf v ad) by rw [hnm]; rfl)
    have HO := Lib.hid (one_new (n := nm) hll (show Sx.Lst B1 w6 (.slice nm.sa nm.sl.length nm.sc) nm.sl by rw [hnm]; exact HL.out) (by have := R0.out.lt; have := U0.out.lt; omega))
    have bel := balloc (Below.refl w6.heap.size w6) (.cells nm.cells 40)
    have S7 := S0.out.below bel
    have d7 := S7.cell 7 _ rfl
    have fd := S7.frozen 7
    rw [← hnm]
    clear hnm hll
    go_upto_region 10 with (first | (refine Ap.bs_one (m := nm) rfl _ rfl rfl ?_))
    have S0 := Lib.hid (S0.out.below bel)
    have R0 := Lib.hid (R0.out.below bel)
    have HB := Lib.hid (bcall HB.out bel)
    have HO := Lib.hid (MOwn.cell HO.out (p := ⟨w.heap.size, 7, none⟩) (by show w.heap.size < B1; omega) (.slice (some ⟨w6.heap.size, 0, none⟩) 1 1))
    have S0 := Lib.hid (S0.out.set (i := 7) (v := .slice (some ⟨w6.heap.size, 0, none⟩) 1 1) (cs' := stC cf (.slice (some ⟨w6.heap.size, 0, none⟩) 1 1)) rfl)
    have R0 := Lib.hid (R0.out.off (p := ⟨w.heap.size, 7, none⟩) (by show w.heap.size + 1 + 1 ≠ w.heap.size; omega) (.slice (some ⟨w6.heap.size, 0, none⟩) 1 1))
    have HB := Lib.hid (HB.out.setCell (p := ⟨w.heap.size, 7, none⟩) (by show w.heap.size ≤ w.heap.size; omega) (.slice (some ⟨w6.heap.size, 0, none⟩) 1 1))
    clear d7 fd bel S7 U0 HT HL
    generalize (w6.alloc (.cells nm.cells 40)).setCell ⟨w.heap.size, 7, none⟩ (.slice (some ⟨w6.heap.size, 0, none⟩) 1 1) = V7 at *
    generalize w6.heap.size = g6 at *
    go_wp2_with (first | (refine wpList_loadS (b := w.heap.size) (c := cf) (v := (.slice (some ⟨g6, 0, none⟩) 1 1)) rfl _ rfl rfl S0.out ?_) | (refine wpList_storeS (b := w.heap.size + 1 + 1) (c := Kx.zero) (c' := cf) (v := nilV) (q := some ⟨g6, 0, none⟩) (n := 1) (k := 1) rfl _ _ rfl rfl rfl R0.out ?_))
    exact bodyPost_ret (v := .tuple #[.agg (stC cf (.slice (some ⟨g6, 0, none⟩) 1 1)), .int .i64 0]) (results_pair rfl _ _ (w.heap.size + 1 + 1) _ rfl (loadVarK shS (R0.out.put (stC cf (.slice (some ⟨g6, 0, none⟩) 1 1))) rfl) (.int .i64 0) rfl) rfl (AnsSt.one HY.out HP.out ((MOwn.under HO.out (by omega) _).mono hwB) (Box.below_setRow HB.out (by omega) _))
end Go.Proofs.YteecialdkfaejaaDoor.K5
