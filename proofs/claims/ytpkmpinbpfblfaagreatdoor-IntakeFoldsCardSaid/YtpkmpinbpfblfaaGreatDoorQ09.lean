/-
  The program's steps: a router-id's TLV, a next hop's, an Update, any of them. Conditions: what is known may be; at most 100000 bytes; the variables have what they are laid with.
  The program's step over any TLV of the types 6 to 8. Conditions: what is known may be; at most 100000 bytes; the variables have what they are laid with.
  What a fold over TLVs answers; a TLV of a list, loaded; what stands while it goes on. No conditions.
  Padding, parts of a body, a message that nobody knows put between: what Babel's fold makes of them: facts on values alone. No conditions.
  Whether a message may be: the program's answer and the document's. Conditions: the message's lists stand in the world, and aren't long; the variable has what it is laid with.
-/
import Derived.Test.YtpkmpinbpfblfaaGreatDoorQ02
import Derived.Test.YtpkmpinbpfblfaaGreatDoorQ03
import Derived.Test.YtpkmpinbpfblfaaGreatDoorQ04
import Derived.Test.YtpkmpinbpfblfaaGreatDoorQ05
import Derived.Test.YtpkmpinbpfblfaaGreatDoorQ06
import Derived.Test.YtpkmpinbpfblfaaGreatDoorQ08
namespace Go.Proofs.YtpkmpinbpfblfaaGreatDoor.K5
open Go.ChangeShapes Go.WideShapes Go.ChangeAt Go.RowKit
open Go.Proofs.YtpkmpinbpfblfaaGreatDoor.Ms
open Go.Proofs.YtpkmpinbpfblfaaGreatDoor.Box
open Go.Proofs.YtpkmpinbpfblfaaGreatDoor.S1
open Go.Proofs.YtpkmpinbpfblfaaGreatDoor.J1
open Go.Proofs.YtpkmpinbpfblfaaGreatDoor.J2 (nil_eq nil_em size_eq)
open Go.Proofs.YtpkmpinbpfblfaaGreatDoor.J4 (shU wpList_loadU wpList_storeU)
open Go.Proofs.YtpkmpinbpfblfaaGreatDoor.J6 (AnsU lst_cell)
open Go.Proofs.YtpkmpinbpfblfaaGreatDoor.An
open Go.Proofs.YtpkmpinbpfblfaaGreatDoor.Tc
open Go.Proofs.YtpkmpinbpfblfaaGreatDoor.K1
open Go.Proofs.YtpkmpinbpfblfaaGreatDoor.Kb
open Go.Proofs.YtpkmpinbpfblfaaGreatDoor.K2
open Go.Proofs.YtpkmpinbpfblfaaGreatDoor.K3
open Go.Proofs.YtpkmpinbpfblfaaGreatDoor.K4
open Go.Proofs.YtpkmpinbpfblfaaGreatDoor.F1 (bt bt_nn bt_lt)
open Go.Proofs.YtpkmpinbpfblfaaGreatDoor.F2 (idx sl_m sl_l)
open Go.Proofs.YtpkmpinbpfblfaaGreatDoor.Hx (conv8)
open Go.Proofs.YtpkmpinbpfblfaaGreatDoor.Tl (cellsT)
open Go.Proofs.YtpkmpinbpfblfaaGreatDoor.Bk (Bk Sh alloc_size wpList_loadK wpList_storeK run_loadK results_pair results_one loadVarK wpList_builtK)
open Go.Proofs.YtpkmpinbpfblfaaGreatDoor.Hs
open Go.Proofs.YtpkmpinbpfblfaaGreatDoor.Or (st_yes)
set_option linter.unusedVariables false
set_option maxRecDepth 100000
set_option maxRecDepth 100000
theorem MOwn.cell {B : Nat} {w : World} {a : Option Addr} {l : List M} (h : MOwn B w a l) {p : Addr} (hp : p.block < B) (x : Value) : MOwn B (w.setCell p x) a l := fun i hi => by
  obtain ⟨q, h1, h2, h3, h4, h5, h6⟩ := h i hi
  refine ⟨q, h1, h2, by simpa using h3, fun j v hv => ?_, h5, lst_cell h6 hp⟩
  have hne : ((q.add (i * 25)).add j).block ≠ p.block := by rw [add_block, add_block]; omega
  have := h4 j v hv
  unfold World.cell? at this ⊢
  rw [heap_setCell_other w p _ x hne]
  exact this
theorem _root_.Go.Proofs.YtpkmpinbpfblfaaGreatDoor.Tc.Tab.row {w : World} (h : Tab w) {g : Nat} (hg : 2 < g) (cs : Array Value) : Tab (w.setRow g cs) := h.under (B := 3) (Box.below_setRow (Below.refl 3 w) hg cs) (by decide)
/-- What a stepper's step answers: the stepper, an error. -/
def AnsSt (p : Kx × List M × Int) (w : World) (e : Ending) (w' : World) : Prop :=
  ∃ a k l, e = .returned (.tuple #[.agg (stC p.1 (.slice a l.length k)), .int .i64 p.2.2]) ∧ PlL l p.2.1 ∧ MOwn w.heap.size w' a l ∧ Below w.heap.size w w'
theorem AnsSt.no {p : Kx × List M × Int} {w w' : World} {c : Kx} {d : Int} (h : p = (c, [], d)) (hb : Below w.heap.size w w') : AnsSt p w (.returned (.tuple #[.agg (stC c nilV), .int .i64 d])) w' := by
  subst h
  exact ⟨none, 0, [], rfl, PlL.nil, MOwn.nil _ _ _, hb⟩
theorem AnsSt.one {p : Kx × List M × Int} {w w' : World} {a : Option Addr} {c : Kx} {m n : M} {k : Nat} (h : p = (c, [m], 0)) (hp : Pl n m) (hn : MOwn w.heap.size w' a [n]) (hb : Below w.heap.size w w') : AnsSt p w (.returned (.tuple #[.agg (stC c (.slice a 1 k)), .int .i64 0])) w' := by
  subst h
  exact ⟨a, k, [n], rfl, PlL.one hp, hn, hb⟩
/-- An answer that the caller stores into a block of its own. -/
theorem AnsSt.boxed {p : Kx × List M × Int} {w W w1 : World} {e : Ending} {g : Nat} (h : AnsSt p W e w1) (hg : w.heap.size ≤ g) (hz : g < W.heap.size) (hb : Below w.heap.size w W) :
    ∃ a n k, e = .returned (.tuple #[.agg (stC p.1 (.slice a n k)), .int .i64 p.2.2]) ∧ Below W.heap.size W w1 ∧ AnsSt p w (.returned (.tuple #[.agg (stC p.1 (.slice a n k)), .int .i64 p.2.2])) (w1.setRow g (stC p.1 (.slice a n k))) := by
  obtain ⟨a, k, l, h1, h2, h3, h4⟩ := h
  exact ⟨a, l.length, k, h1, h4, a, k, l, rfl, h2, (h3.under hz _).mono hb.size, Box.below_setRow (hb.trans (h4.mono hb.size)) hg _⟩
set_option maxHeartbeats 6400000 in
theorem routerId_any (c : Kx) (d : ByteArray) (w : World) (hs : d.size ≤ 100000) :
    Calls Tryz.prog 69 #[.agg (stC c nilV), .string d] w (AnsSt (out6 c d) w) := by
  by_cases hz : d.size < 10
  · have HY := Lib.hid (show out6 c d = (c, [], 2) by unfold out6; rw [fix_short hz, if_neg (fun h => by cases h.2)])
    have hz2 : (d.size : Int) < 10 := by omega
    go_enter Tryz.func69, Tryz.ntmps69
    go_upto_region 1 with fail
    change Code.wp _ _ _ _ ((w.alloc (.cells (stC c nilV) 81)).alloc (.cells (stC Kx.zero nilV) 81))
    have S0 := Lib.hid ((Bk.Bk.new 81 w (stC c nilV)).old (.cells (stC Kx.zero nilV) 81))
    have R0 := Bk.Bk.new 81 (w.alloc (.cells (stC c nilV) 81)) (stC Kx.zero nilV)
    rw [alloc_size] at R0
    have R0 := Lib.hid R0
    have HB := Lib.hid (balloc (balloc (Below.refl _ w) (.cells (stC c nilV) 81)) (.cells (stC Kx.zero nilV) 81))
    generalize (w.alloc (.cells (stC c nilV) 81)).alloc (.cells (stC Kx.zero nilV) 81) = W at *
    go_wp2_with (first | (refine wpList_loadS (b := w.heap.size) (c := c) (v := nilV) rfl _ rfl rfl S0.out ?_) | (refine wpList_storeS (b := w.heap.size + 1) (c := Kx.zero) (c' := c) (v := nilV) (q := none) (n := 0) (k := 0) rfl _ _ rfl rfl rfl R0.out ?_))
    exact bodyPost_ret (v := .tuple #[.agg (stC c nilV), .int .i64 2]) (results_pair rfl _ _ (w.heap.size + 1) _ rfl (loadVarK shS (R0.out.put (stC c nilV)) rfl) (.int .i64 2) rfl) rfl (AnsSt.no HY.out (Box.below_setRow HB.out (by omega) _))
  have hz2 : ¬ (d.size : Int) < 10 := by omega
  have hf := fix_long hz
  have he := fix_err (d := d) (z := 10)
  have PS := Lib.hid (fun V => S5.get_own (d.extract 10 d.size) V (by simp; omega))
  have slt := sl_l d 10 10 d.size rfl (by omega) rfl
  have sla := sl_m d 2 10 2 10 rfl rfl (by omega) (by omega)
  obtain ⟨⟨l, kn, er⟩, ho⟩ : ∃ q, outS (d.extract 10 d.size) = q := ⟨_, rfl⟩
  rw [ho] at PS hf
  cases kn with
  | false =>
    have HY := Lib.hid (show out6 c d = (c, [], er) by unfold out6; rw [hf, if_neg (fun h => by cases h.2)])
    clear hf he ho hz hs sla
    generalize d.extract 10 d.size = ea at *
    go_enter Tryz.func69, Tryz.ntmps69
    go_upto_region 1 with fail
    change Code.wp _ _ _ _ ((w.alloc (.cells (stC c nilV) 81)).alloc (.cells (stC Kx.zero nilV) 81))
    have S0 := Lib.hid ((Bk.Bk.new 81 w (stC c nilV)).old (.cells (stC Kx.zero nilV) 81))
    have R0 := Bk.Bk.new 81 (w.alloc (.cells (stC c nilV) 81)) (stC Kx.zero nilV)
    rw [alloc_size] at R0
    have R0 := Lib.hid R0
    have HB := Lib.hid (balloc (balloc (Below.refl _ w) (.cells (stC c nilV) 81)) (.cells (stC Kx.zero nilV) 81))
    generalize (w.alloc (.cells (stC c nilV) 81)).alloc (.cells (stC Kx.zero nilV) 81) = W at *
    go_wp2_with fail
    refine (PS.out _).mono ?_
    rintro e w1 ⟨qa, qc, rfl, hl, hb⟩
    have S0 := Lib.hid (S0.out.below hb)
    have R0 := Lib.hid (R0.out.below hb)
    have HB := Lib.hid (bcall HB.out hb)
    clear hb hl PS
    go_wp2_with (first | (refine wpList_loadS (b := w.heap.size) (c := c) (v := nilV) rfl _ rfl rfl S0.out ?_) | (refine wpList_storeS (b := w.heap.size + 1) (c := Kx.zero) (c' := c) (v := nilV) (q := none) (n := 0) (k := 0) rfl _ _ rfl rfl rfl R0.out ?_))
    exact bodyPost_ret (v := .tuple #[.agg (stC c nilV), .int .i64 er]) (results_pair rfl _ _ (w.heap.size + 1) _ rfl (loadVarK shS (R0.out.put (stC c nilV)) rfl) (.int .i64 er) rfl) rfl (AnsSt.no HY.out (Box.below_setRow HB.out (by omega) _))
  | true =>
    obtain rfl : er = 0 := by
      by_cases h : er = 0
      · exact h
      · have := he (by rw [hf]; exact h)
        rw [hf] at this
        cases this
    have HY := Lib.hid (show out6 c d = ({ c with id := d.extract 2 10 }, [], 0) by unfold out6; rw [hf, if_pos ⟨rfl, rfl⟩])
    clear hf he ho hz hs
    generalize d.extract 10 d.size = ea at *
    generalize d.extract 2 10 = eb at *
    go_enter Tryz.func69, Tryz.ntmps69
    go_upto_region 1 with fail
    change Code.wp _ _ _ _ ((w.alloc (.cells (stC c nilV) 81)).alloc (.cells (stC Kx.zero nilV) 81))
    have S0 := Lib.hid ((Bk.Bk.new 81 w (stC c nilV)).old (.cells (stC Kx.zero nilV) 81))
    have R0 := Bk.Bk.new 81 (w.alloc (.cells (stC c nilV) 81)) (stC Kx.zero nilV)
    rw [alloc_size] at R0
    have R0 := Lib.hid R0
    have HB := Lib.hid (balloc (balloc (Below.refl _ w) (.cells (stC c nilV) 81)) (.cells (stC Kx.zero nilV) 81))
    generalize (w.alloc (.cells (stC c nilV) 81)).alloc (.cells (stC Kx.zero nilV) 81) = W at *
    go_wp2_with fail
    refine (PS.out _).mono ?_
    rintro e w1 ⟨qa, qc, rfl, hl, hb⟩
    have S0 := Lib.hid (S0.out.below hb)
    have R0 := Lib.hid (R0.out.below hb)
    have HB := Lib.hid (bcall HB.out hb)
    clear hb hl PS
    have d0 := S0.out.cell 6 _ rfl
    have fd := S0.out.frozen 6
    go_upto_region 6 with fail
    have XS := S0.out.set (i := 6) (v := .string eb) (cs' := stC { c with id := eb } nilV) rfl
    have XR := R0.out.off (p := ⟨w.heap.size, 6, none⟩) (by show w.heap.size + 1 ≠ w.heap.size; omega) (.string eb)
    have XB := HB.out.setCell (p := ⟨w.heap.size, 6, none⟩) (by show w.heap.size ≤ w.heap.size; omega) (.string eb)
    have S0 := Lib.hid XS
    have R0 := Lib.hid XR
    have HB := Lib.hid XB
    clear XS XR XB d0 fd
    generalize w1.setCell ⟨w.heap.size, 6, none⟩ (.string eb) = W2 at *
    go_wp2_with (first | (refine wpList_loadS (b := w.heap.size) (c := ({ c with id := eb } : Kx)) (v := nilV) rfl _ rfl rfl S0.out ?_) | (refine wpList_storeS (b := w.heap.size + 1) (c := Kx.zero) (c' := ({ c with id := eb } : Kx)) (v := nilV) (q := none) (n := 0) (k := 0) rfl _ _ rfl rfl rfl R0.out ?_))
    exact bodyPost_ret (v := .tuple #[.agg (stC ({ c with id := eb } : Kx) nilV), .int .i64 0]) (results_pair rfl _ _ (w.heap.size + 1) _ rfl (loadVarK shS (R0.out.put (stC ({ c with id := eb } : Kx) nilV)) rfl) (.int .i64 0) rfl) rfl (AnsSt.no HY.out (Box.below_setRow HB.out (by omega) _))
set_option maxHeartbeats 12800000 in
theorem nextHop_any (c : Kx) (d : ByteArray) (w : World) (hs : d.size ≤ 100000) (ht : Tab w) :
    Calls Tryz.prog 70 #[.agg (stC c nilV), .string d] w (AnsSt (out7 c d) w) := by
  by_cases hz : d.size < 2
  · have HY := Lib.hid (show out7 c d = (c, [], 2) by unfold out7; rw [if_pos hz])
    have hz2 : (d.size : Int) < 2 := by omega
    go_enter Tryz.func70, Tryz.ntmps70
    go_upto_region 1 with fail
    change Code.wp _ _ _ _ ((w.alloc (.cells (stC c nilV) 81)).alloc (.cells (stC Kx.zero nilV) 81))
    have S0 := Lib.hid ((Bk.Bk.new 81 w (stC c nilV)).old (.cells (stC Kx.zero nilV) 81))
    have R0 := Bk.Bk.new 81 (w.alloc (.cells (stC c nilV) 81)) (stC Kx.zero nilV)
    rw [alloc_size] at R0
    have R0 := Lib.hid R0
    have HB := Lib.hid (balloc (balloc (Below.refl _ w) (.cells (stC c nilV) 81)) (.cells (stC Kx.zero nilV) 81))
    generalize (w.alloc (.cells (stC c nilV) 81)).alloc (.cells (stC Kx.zero nilV) 81) = W at *
    go_wp2_with (first | (refine wpList_loadS (b := w.heap.size) (c := c) (v := nilV) rfl _ rfl rfl S0.out ?_) | (refine wpList_storeS (b := w.heap.size + 1) (c := Kx.zero) (c' := c) (v := nilV) (q := none) (n := 0) (k := 0) rfl _ _ rfl rfl rfl R0.out ?_))
    exact bodyPost_ret (v := .tuple #[.agg (stC c nilV), .int .i64 2]) (results_pair rfl _ _ (w.heap.size + 1) _ rfl (loadVarK shS (R0.out.put (stC c nilV)) rfl) (.int .i64 2) rfl) rfl (AnsSt.no HY.out (Box.below_setRow HB.out (by omega) _))
  have hz2 : ¬ (d.size : Int) < 2 := by omega
  have i0 := idx d 0 0 rfl (by omega)
  have b0 := bt_nn d 0
  have b1 := bt_lt d 0
  have v0 := conv8 (bt d 0) b0 b1
  have PF := Lib.hid (fun V => fam_any (bt d 0) V)
  by_cases hn : bt d 0 = 0 ∨ 3 < bt d 0
  · have HY := Lib.hid (show out7 c d = (c, [], 0) by unfold out7; rw [if_neg hz, if_pos hn])
    have hf : fam (bt d 0) = -1 := by unfold fam; rw [if_neg (by omega), if_neg (by omega)]
    rw [hf] at PF
    clear hn hf hz hs b0 b1
    generalize bt d 0 = y0 at *
    go_enter Tryz.func70, Tryz.ntmps70
    go_upto_region 1 with fail
    change Code.wp _ _ _ _ ((w.alloc (.cells (stC c nilV) 81)).alloc (.cells (stC Kx.zero nilV) 81))
    have S0 := Lib.hid ((Bk.Bk.new 81 w (stC c nilV)).old (.cells (stC Kx.zero nilV) 81))
    have R0 := Bk.Bk.new 81 (w.alloc (.cells (stC c nilV) 81)) (stC Kx.zero nilV)
    rw [alloc_size] at R0
    have R0 := Lib.hid R0
    have HB := Lib.hid (balloc (balloc (Below.refl _ w) (.cells (stC c nilV) 81)) (.cells (stC Kx.zero nilV) 81))
    generalize (w.alloc (.cells (stC c nilV) 81)).alloc (.cells (stC Kx.zero nilV) 81) = W at *
    go_wp2_with fail
    refine (PF.out _).mono ?_
    rintro r w' ⟨rfl, rfl⟩
    go_wp2_with (first | (refine wpList_loadS (b := w.heap.size) (c := c) (v := nilV) rfl _ rfl rfl S0.out ?_) | (refine wpList_storeS (b := w.heap.size + 1) (c := Kx.zero) (c' := c) (v := nilV) (q := none) (n := 0) (k := 0) rfl _ _ rfl rfl rfl R0.out ?_))
    exact bodyPost_ret (v := .tuple #[.agg (stC c nilV), .int .i64 0]) (results_pair rfl _ _ (w.heap.size + 1) _ rfl (loadVarK shS (R0.out.put (stC c nilV)) rfl) (.int .i64 0) rfl) rfl (AnsSt.no HY.out (Box.below_setRow HB.out (by omega) _))
  have HT := Lib.hid ht
  rcases (show bt d 0 = 1 ∨ bt d 0 = 2 ∨ bt d 0 = 3 by omega) with e | e | e
  · rw [e] at i0 v0 PF hn
    have PF := Lib.hid (show ∀ V, Calls Tryz.prog 93 #[.int .i64 1] V fun e w' => e = .returned (.int .i64 0) ∧ V = w' from PF.out)
    have hsz : sizeA (bt d 0) = 4 := by rw [e]; rfl
    by_cases hy : d.size < 6
    · have HY := Lib.hid (show out7 c d = (c, [], 2) by unfold out7; rw [if_neg hz, if_neg (by rw [e]; exact hn), hsz, fix_short hy, if_neg (fun h => by cases h.2)])
      have hy2 : (d.size : Int) < 6 := by omega
      clear hz hs b0 b1 hn e hsz hy
      go_enter Tryz.func70, Tryz.ntmps70
      go_upto_region 1 with fail
      change Code.wp _ _ _ _ ((w.alloc (.cells (stC c nilV) 81)).alloc (.cells (stC Kx.zero nilV) 81))
      have S0 := Lib.hid ((Bk.Bk.new 81 w (stC c nilV)).old (.cells (stC Kx.zero nilV) 81))
      have R0 := Bk.Bk.new 81 (w.alloc (.cells (stC c nilV) 81)) (stC Kx.zero nilV)
      rw [alloc_size] at R0
      have R0 := Lib.hid R0
      have HB := Lib.hid (balloc (balloc (Below.refl _ w) (.cells (stC c nilV) 81)) (.cells (stC Kx.zero nilV) 81))
      have HT := Lib.hid (HT.out.below HB.out)
      have tz := HT.out.z1
      generalize (w.alloc (.cells (stC c nilV) 81)).alloc (.cells (stC Kx.zero nilV) 81) = W at *
      go_wp2_with fail
      refine (PF.out _).mono ?_
      rintro r w' ⟨rfl, rfl⟩
      go_wp2_with (first | (refine wpList_loadS (b := w.heap.size) (c := c) (v := nilV) rfl _ rfl rfl S0.out ?_) | (refine wpList_storeS (b := w.heap.size + 1) (c := Kx.zero) (c' := c) (v := nilV) (q := none) (n := 0) (k := 0) rfl _ _ rfl rfl rfl R0.out ?_))
      exact bodyPost_ret (v := .tuple #[.agg (stC c nilV), .int .i64 2]) (results_pair rfl _ _ (w.heap.size + 1) _ rfl (loadVarK shS (R0.out.put (stC c nilV)) rfl) (.int .i64 2) rfl) rfl (AnsSt.no HY.out (Box.below_setRow HB.out (by omega) _))
    have hy2 : ¬ (d.size : Int) < 6 := by omega
    have hf := fix_long hy
    have he := fix_err (d := d) (z := 6)
    have PS := Lib.hid (fun V => S5.get_own (d.extract 6 d.size) V (by simp; omega))
    have slt := sl_l d 6 6 d.size rfl (by omega) rfl
    have sla := sl_m d 2 6 2 6 rfl rfl (by omega) (by omega)
    have PL := Lib.hid (fun V => long_any 1 (d.extract 2 6) V)
    have HH := Lib.hid (show lgC 1 (d.extract 2 6) = hopA (bt d 0) d by rw [e]; rfl)
    obtain ⟨⟨l, kn, er⟩, ho⟩ : ∃ q, outS (d.extract 6 d.size) = q := ⟨_, rfl⟩
    rw [ho] at PS hf
    cases kn with
    | false =>
      have HY := Lib.hid (show out7 c d = (c, [], er) by unfold out7; rw [if_neg hz, if_neg (by rw [e]; exact hn), hsz, hf, if_neg (fun h => by cases h.2)])
      clear hf he ho hz hs b0 b1 hn e hsz hy sla PL HH
      generalize d.extract 6 d.size = ea at *
      go_enter Tryz.func70, Tryz.ntmps70
      go_upto_region 1 with fail
      change Code.wp _ _ _ _ ((w.alloc (.cells (stC c nilV) 81)).alloc (.cells (stC Kx.zero nilV) 81))
      have S0 := Lib.hid ((Bk.Bk.new 81 w (stC c nilV)).old (.cells (stC Kx.zero nilV) 81))
      have R0 := Bk.Bk.new 81 (w.alloc (.cells (stC c nilV) 81)) (stC Kx.zero nilV)
      rw [alloc_size] at R0
      have R0 := Lib.hid R0
      have HB := Lib.hid (balloc (balloc (Below.refl _ w) (.cells (stC c nilV) 81)) (.cells (stC Kx.zero nilV) 81))
      have HT := Lib.hid (HT.out.below HB.out)
      have tz := HT.out.z1
      generalize (w.alloc (.cells (stC c nilV) 81)).alloc (.cells (stC Kx.zero nilV) 81) = W at *
      go_wp2_with fail
      refine (PF.out _).mono ?_
      rintro r w' ⟨rfl, rfl⟩
      go_wp2_with fail
      refine (PS.out _).mono ?_
      rintro e w1 ⟨qa, qc, rfl, hl, hb⟩
      have S0 := Lib.hid (S0.out.below hb)
      have R0 := Lib.hid (R0.out.below hb)
      have HB := Lib.hid (bcall HB.out hb)
      clear hb hl PS
      go_wp2_with (first | (refine wpList_loadS (b := w.heap.size) (c := c) (v := nilV) rfl _ rfl rfl S0.out ?_) | (refine wpList_storeS (b := w.heap.size + 1) (c := Kx.zero) (c' := c) (v := nilV) (q := none) (n := 0) (k := 0) rfl _ _ rfl rfl rfl R0.out ?_))
      exact bodyPost_ret (v := .tuple #[.agg (stC c nilV), .int .i64 er]) (results_pair rfl _ _ (w.heap.size + 1) _ rfl (loadVarK shS (R0.out.put (stC c nilV)) rfl) (.int .i64 er) rfl) rfl (AnsSt.no HY.out (Box.below_setRow HB.out (by omega) _))
    | true =>
      obtain rfl : er = 0 := by
        by_cases h : er = 0
        · exact h
        · have := he (by rw [hf]; exact h)
          rw [hf] at this
          cases this
      have HY := Lib.hid (show out7 c d = (c.setN (fam (bt d 0)) (hopA (bt d 0) d), [], 0) by unfold out7; rw [if_neg hz, if_neg (by rw [e]; exact hn), hsz, hf, if_pos ⟨rfl, rfl⟩])
      rw [← HH.out, e] at HY
      have HY := Lib.hid (show out7 c d = ({ c with n0 := lgC 1 (d.extract 2 6) }, [], 0) from HY.out)
      clear hf he ho hz hs b0 b1 hn e hsz hy HH
      generalize d.extract 6 d.size = ea at *
      generalize d.extract 2 6 = es at *
      generalize lgC 1 es = eb at *
      go_enter Tryz.func70, Tryz.ntmps70
      go_upto_region 1 with fail
      change Code.wp _ _ _ _ ((w.alloc (.cells (stC c nilV) 81)).alloc (.cells (stC Kx.zero nilV) 81))
      have S0 := Lib.hid ((Bk.Bk.new 81 w (stC c nilV)).old (.cells (stC Kx.zero nilV) 81))
      have R0 := Bk.Bk.new 81 (w.alloc (.cells (stC c nilV) 81)) (stC Kx.zero nilV)
      rw [alloc_size] at R0
      have R0 := Lib.hid R0
      have HB := Lib.hid (balloc (balloc (Below.refl _ w) (.cells (stC c nilV) 81)) (.cells (stC Kx.zero nilV) 81))
      have HT := Lib.hid (HT.out.below HB.out)
      have tz := HT.out.z1
      generalize (w.alloc (.cells (stC c nilV) 81)).alloc (.cells (stC Kx.zero nilV) 81) = W at *
      go_wp2_with fail
      refine (PF.out _).mono ?_
      rintro r w' ⟨rfl, rfl⟩
      go_wp2_with fail
      refine (PS.out _).mono ?_
      rintro e w1 ⟨qa, qc, rfl, hl, hb⟩
      have S0 := Lib.hid (S0.out.below hb)
      have R0 := Lib.hid (R0.out.below hb)
      have HB := Lib.hid (bcall HB.out hb)
      clear hb hl PS
      go_wp2_with fail
      refine (PL.out _).mono ?_
      rintro r w' ⟨rfl, rfl⟩
      have d0 := S0.out.cell 4 _ rfl
      have fd := S0.out.frozen 4
      go_upto_region 13 with fail
      have XS := S0.out.set (i := 4) (v := .string eb) (cs' := stC { c with n0 := eb } nilV) rfl
      have XR := R0.out.off (p := ⟨w.heap.size, 4, none⟩) (by show w.heap.size + 1 ≠ w.heap.size; omega) (.string eb)
      have XB := HB.out.setCell (p := ⟨w.heap.size, 4, none⟩) (by show w.heap.size ≤ w.heap.size; omega) (.string eb)
      have S0 := Lib.hid XS
      have R0 := Lib.hid XR
      have HB := Lib.hid XB
      clear XS XR XB d0 fd
      generalize w1.setCell ⟨w.heap.size, 4, none⟩ (.string eb) = W2 at *
      go_wp2_with (first | (refine wpList_loadS (b := w.heap.size) (c := ({ c with n0 := eb } : Kx)) (v := nilV) rfl _ rfl rfl S0.out ?_) | (refine wpList_storeS (b := w.heap.size + 1) (c := Kx.zero) (c' := ({ c with n0 := eb } : Kx)) (v := nilV) (q := none) (n := 0) (k := 0) rfl _ _ rfl rfl rfl R0.out ?_))
      exact bodyPost_ret (v := .tuple #[.agg (stC ({ c with n0 := eb } : Kx) nilV), .int .i64 0]) (results_pair rfl _ _ (w.heap.size + 1) _ rfl (loadVarK shS (R0.out.put (stC ({ c with n0 := eb } : Kx) nilV)) rfl) (.int .i64 0) rfl) rfl (AnsSt.no HY.out (Box.below_setRow HB.out (by omega) _))
  · rw [e] at i0 v0 PF hn
    have PF := Lib.hid (show ∀ V, Calls Tryz.prog 93 #[.int .i64 2] V fun e w' => e = .returned (.int .i64 1) ∧ V = w' from PF.out)
    have hsz : sizeA (bt d 0) = 16 := by rw [e]; rfl
    by_cases hy : d.size < 18
    · have HY := Lib.hid (show out7 c d = (c, [], 2) by unfold out7; rw [if_neg hz, if_neg (by rw [e]; exact hn), hsz, fix_short hy, if_neg (fun h => by cases h.2)])
      have hy2 : (d.size : Int) < 18 := by omega
      clear hz hs b0 b1 hn e hsz hy
      go_enter Tryz.func70, Tryz.ntmps70
      go_upto_region 1 with fail
      change Code.wp _ _ _ _ ((w.alloc (.cells (stC c nilV) 81)).alloc (.cells (stC Kx.zero nilV) 81))
      have S0 := Lib.hid ((Bk.Bk.new 81 w (stC c nilV)).old (.cells (stC Kx.zero nilV) 81))
      have R0 := Bk.Bk.new 81 (w.alloc (.cells (stC c nilV) 81)) (stC Kx.zero nilV)
      rw [alloc_size] at R0
      have R0 := Lib.hid R0
      have HB := Lib.hid (balloc (balloc (Below.refl _ w) (.cells (stC c nilV) 81)) (.cells (stC Kx.zero nilV) 81))
      have HT := Lib.hid (HT.out.below HB.out)
      have tz := HT.out.z2
      generalize (w.alloc (.cells (stC c nilV) 81)).alloc (.cells (stC Kx.zero nilV) 81) = W at *
      go_wp2_with fail
      refine (PF.out _).mono ?_
      rintro r w' ⟨rfl, rfl⟩
      go_wp2_with (first | (refine wpList_loadS (b := w.heap.size) (c := c) (v := nilV) rfl _ rfl rfl S0.out ?_) | (refine wpList_storeS (b := w.heap.size + 1) (c := Kx.zero) (c' := c) (v := nilV) (q := none) (n := 0) (k := 0) rfl _ _ rfl rfl rfl R0.out ?_))
      exact bodyPost_ret (v := .tuple #[.agg (stC c nilV), .int .i64 2]) (results_pair rfl _ _ (w.heap.size + 1) _ rfl (loadVarK shS (R0.out.put (stC c nilV)) rfl) (.int .i64 2) rfl) rfl (AnsSt.no HY.out (Box.below_setRow HB.out (by omega) _))
    have hy2 : ¬ (d.size : Int) < 18 := by omega
    have hf := fix_long hy
    have he := fix_err (d := d) (z := 18)
    have PS := Lib.hid (fun V => S5.get_own (d.extract 18 d.size) V (by simp; omega))
    have slt := sl_l d 18 18 d.size rfl (by omega) rfl
    have sla := sl_m d 2 18 2 18 rfl rfl (by omega) (by omega)
    have PL := Lib.hid (fun V => long_any 2 (d.extract 2 18) V)
    have HH := Lib.hid (show lgC 2 (d.extract 2 18) = hopA (bt d 0) d by rw [e]; rfl)
    obtain ⟨⟨l, kn, er⟩, ho⟩ : ∃ q, outS (d.extract 18 d.size) = q := ⟨_, rfl⟩
    rw [ho] at PS hf
    cases kn with
    | false =>
      have HY := Lib.hid (show out7 c d = (c, [], er) by unfold out7; rw [if_neg hz, if_neg (by rw [e]; exact hn), hsz, hf, if_neg (fun h => by cases h.2)])
      clear hf he ho hz hs b0 b1 hn e hsz hy sla PL HH
      generalize d.extract 18 d.size = ea at *
      go_enter Tryz.func70, Tryz.ntmps70
      go_upto_region 1 with fail
      change Code.wp _ _ _ _ ((w.alloc (.cells (stC c nilV) 81)).alloc (.cells (stC Kx.zero nilV) 81))
      have S0 := Lib.hid ((Bk.Bk.new 81 w (stC c nilV)).old (.cells (stC Kx.zero nilV) 81))
      have R0 := Bk.Bk.new 81 (w.alloc (.cells (stC c nilV) 81)) (stC Kx.zero nilV)
      rw [alloc_size] at R0
      have R0 := Lib.hid R0
      have HB := Lib.hid (balloc (balloc (Below.refl _ w) (.cells (stC c nilV) 81)) (.cells (stC Kx.zero nilV) 81))
      have HT := Lib.hid (HT.out.below HB.out)
      have tz := HT.out.z2
      generalize (w.alloc (.cells (stC c nilV) 81)).alloc (.cells (stC Kx.zero nilV) 81) = W at *
      go_wp2_with fail
      refine (PF.out _).mono ?_
      rintro r w' ⟨rfl, rfl⟩
      go_wp2_with fail
      refine (PS.out _).mono ?_
      rintro e w1 ⟨qa, qc, rfl, hl, hb⟩
      have S0 := Lib.hid (S0.out.below hb)
      have R0 := Lib.hid (R0.out.below hb)
      have HB := Lib.hid (bcall HB.out hb)
      clear hb hl PS
      go_wp2_with (first | (refine wpList_loadS (b := w.heap.size) (c := c) (v := nilV) rfl _ rfl rfl S0.out ?_) | (refine wpList_storeS (b := w.heap.size + 1) (c := Kx.zero) (c' := c) (v := nilV) (q := none) (n := 0) (k := 0) rfl _ _ rfl rfl rfl R0.out ?_))
      exact bodyPost_ret (v := .tuple #[.agg (stC c nilV), .int .i64 er]) (results_pair rfl _ _ (w.heap.size + 1) _ rfl (loadVarK shS (R0.out.put (stC c nilV)) rfl) (.int .i64 er) rfl) rfl (AnsSt.no HY.out (Box.below_setRow HB.out (by omega) _))
    | true =>
      obtain rfl : er = 0 := by
        by_cases h : er = 0
        · exact h
        · have := he (by rw [hf]; exact h)
          rw [hf] at this
          cases this
      have HY := Lib.hid (show out7 c d = (c.setN (fam (bt d 0)) (hopA (bt d 0) d), [], 0) by unfold out7; rw [if_neg hz, if_neg (by rw [e]; exact hn), hsz, hf, if_pos ⟨rfl, rfl⟩])
      rw [← HH.out, e] at HY
      have HY := Lib.hid (show out7 c d = ({ c with n1 := lgC 2 (d.extract 2 18) }, [], 0) from HY.out)
      clear hf he ho hz hs b0 b1 hn e hsz hy HH
      generalize d.extract 18 d.size = ea at *
      generalize d.extract 2 18 = es at *
      generalize lgC 2 es = eb at *
      go_enter Tryz.func70, Tryz.ntmps70
      go_upto_region 1 with fail
      change Code.wp _ _ _ _ ((w.alloc (.cells (stC c nilV) 81)).alloc (.cells (stC Kx.zero nilV) 81))
      have S0 := Lib.hid ((Bk.Bk.new 81 w (stC c nilV)).old (.cells (stC Kx.zero nilV) 81))
      have R0 := Bk.Bk.new 81 (w.alloc (.cells (stC c nilV) 81)) (stC Kx.zero nilV)
      rw [alloc_size] at R0
      have R0 := Lib.hid R0
      have HB := Lib.hid (balloc (balloc (Below.refl _ w) (.cells (stC c nilV) 81)) (.cells (stC Kx.zero nilV) 81))
      have HT := Lib.hid (HT.out.below HB.out)
      have tz := HT.out.z2
      generalize (w.alloc (.cells (stC c nilV) 81)).alloc (.cells (stC Kx.zero nilV) 81) = W at *
      go_wp2_with fail
      refine (PF.out _).mono ?_
      rintro r w' ⟨rfl, rfl⟩
      go_wp2_with fail
      refine (PS.out _).mono ?_
      rintro e w1 ⟨qa, qc, rfl, hl, hb⟩
      have S0 := Lib.hid (S0.out.below hb)
      have R0 := Lib.hid (R0.out.below hb)
      have HB := Lib.hid (bcall HB.out hb)
      clear hb hl PS
      go_wp2_with fail
      refine (PL.out _).mono ?_
      rintro r w' ⟨rfl, rfl⟩
      have d0 := S0.out.cell 5 _ rfl
      have fd := S0.out.frozen 5
      go_upto_region 13 with fail
      have XS := S0.out.set (i := 5) (v := .string eb) (cs' := stC { c with n1 := eb } nilV) rfl
      have XR := R0.out.off (p := ⟨w.heap.size, 5, none⟩) (by show w.heap.size + 1 ≠ w.heap.size; omega) (.string eb)
      have XB := HB.out.setCell (p := ⟨w.heap.size, 5, none⟩) (by show w.heap.size ≤ w.heap.size; omega) (.string eb)
      have S0 := Lib.hid XS
      have R0 := Lib.hid XR
      have HB := Lib.hid XB
      clear XS XR XB d0 fd
      generalize w1.setCell ⟨w.heap.size, 5, none⟩ (.string eb) = W2 at *
      go_wp2_with (first | (refine wpList_loadS (b := w.heap.size) (c := ({ c with n1 := eb } : Kx)) (v := nilV) rfl _ rfl rfl S0.out ?_) | (refine wpList_storeS (b := w.heap.size + 1) (c := Kx.zero) (c' := ({ c with n1 := eb } : Kx)) (v := nilV) (q := none) (n := 0) (k := 0) rfl _ _ rfl rfl rfl R0.out ?_))
      exact bodyPost_ret (v := .tuple #[.agg (stC ({ c with n1 := eb } : Kx) nilV), .int .i64 0]) (results_pair rfl _ _ (w.heap.size + 1) _ rfl (loadVarK shS (R0.out.put (stC ({ c with n1 := eb } : Kx) nilV)) rfl) (.int .i64 0) rfl) rfl (AnsSt.no HY.out (Box.below_setRow HB.out (by omega) _))
  · rw [e] at i0 v0 PF hn
    have PF := Lib.hid (show ∀ V, Calls Tryz.prog 93 #[.int .i64 3] V fun e w' => e = .returned (.int .i64 1) ∧ V = w' from PF.out)
    have hsz : sizeA (bt d 0) = 8 := by rw [e]; rfl
    by_cases hy : d.size < 10
    · have HY := Lib.hid (show out7 c d = (c, [], 2) by unfold out7; rw [if_neg hz, if_neg (by rw [e]; exact hn), hsz, fix_short hy, if_neg (fun h => by cases h.2)])
      have hy2 : (d.size : Int) < 10 := by omega
      clear hz hs b0 b1 hn e hsz hy
      go_enter Tryz.func70, Tryz.ntmps70
      go_upto_region 1 with fail
      change Code.wp _ _ _ _ ((w.alloc (.cells (stC c nilV) 81)).alloc (.cells (stC Kx.zero nilV) 81))
      have S0 := Lib.hid ((Bk.Bk.new 81 w (stC c nilV)).old (.cells (stC Kx.zero nilV) 81))
      have R0 := Bk.Bk.new 81 (w.alloc (.cells (stC c nilV) 81)) (stC Kx.zero nilV)
      rw [alloc_size] at R0
      have R0 := Lib.hid R0
      have HB := Lib.hid (balloc (balloc (Below.refl _ w) (.cells (stC c nilV) 81)) (.cells (stC Kx.zero nilV) 81))
      have HT := Lib.hid (HT.out.below HB.out)
      have tz := HT.out.z3
      generalize (w.alloc (.cells (stC c nilV) 81)).alloc (.cells (stC Kx.zero nilV) 81) = W at *
      go_wp2_with fail
      refine (PF.out _).mono ?_
      rintro r w' ⟨rfl, rfl⟩
      go_wp2_with (first | (refine wpList_loadS (b := w.heap.size) (c := c) (v := nilV) rfl _ rfl rfl S0.out ?_) | (refine wpList_storeS (b := w.heap.size + 1) (c := Kx.zero) (c' := c) (v := nilV) (q := none) (n := 0) (k := 0) rfl _ _ rfl rfl rfl R0.out ?_))
      exact bodyPost_ret (v := .tuple #[.agg (stC c nilV), .int .i64 2]) (results_pair rfl _ _ (w.heap.size + 1) _ rfl (loadVarK shS (R0.out.put (stC c nilV)) rfl) (.int .i64 2) rfl) rfl (AnsSt.no HY.out (Box.below_setRow HB.out (by omega) _))
    have hy2 : ¬ (d.size : Int) < 10 := by omega
    have hf := fix_long hy
    have he := fix_err (d := d) (z := 10)
    have PS := Lib.hid (fun V => S5.get_own (d.extract 10 d.size) V (by simp; omega))
    have slt := sl_l d 10 10 d.size rfl (by omega) rfl
    have sla := sl_m d 2 10 2 10 rfl rfl (by omega) (by omega)
    have PL := Lib.hid (fun V => long_any 3 (d.extract 2 10) V)
    have HH := Lib.hid (show lgC 3 (d.extract 2 10) = hopA (bt d 0) d by rw [e]; rfl)
    obtain ⟨⟨l, kn, er⟩, ho⟩ : ∃ q, outS (d.extract 10 d.size) = q := ⟨_, rfl⟩
    rw [ho] at PS hf
    cases kn with
    | false =>
      have HY := Lib.hid (show out7 c d = (c, [], er) by unfold out7; rw [if_neg hz, if_neg (by rw [e]; exact hn), hsz, hf, if_neg (fun h => by cases h.2)])
      clear hf he ho hz hs b0 b1 hn e hsz hy sla PL HH
      generalize d.extract 10 d.size = ea at *
      go_enter Tryz.func70, Tryz.ntmps70
      go_upto_region 1 with fail
      change Code.wp _ _ _ _ ((w.alloc (.cells (stC c nilV) 81)).alloc (.cells (stC Kx.zero nilV) 81))
      have S0 := Lib.hid ((Bk.Bk.new 81 w (stC c nilV)).old (.cells (stC Kx.zero nilV) 81))
      have R0 := Bk.Bk.new 81 (w.alloc (.cells (stC c nilV) 81)) (stC Kx.zero nilV)
      rw [alloc_size] at R0
      have R0 := Lib.hid R0
      have HB := Lib.hid (balloc (balloc (Below.refl _ w) (.cells (stC c nilV) 81)) (.cells (stC Kx.zero nilV) 81))
      have HT := Lib.hid (HT.out.below HB.out)
      have tz := HT.out.z3
      generalize (w.alloc (.cells (stC c nilV) 81)).alloc (.cells (stC Kx.zero nilV) 81) = W at *
      go_wp2_with fail
      refine (PF.out _).mono ?_
      rintro r w' ⟨rfl, rfl⟩
      go_wp2_with fail
      refine (PS.out _).mono ?_
      rintro e w1 ⟨qa, qc, rfl, hl, hb⟩
      have S0 := Lib.hid (S0.out.below hb)
      have R0 := Lib.hid (R0.out.below hb)
      have HB := Lib.hid (bcall HB.out hb)
      clear hb hl PS
      go_wp2_with (first | (refine wpList_loadS (b := w.heap.size) (c := c) (v := nilV) rfl _ rfl rfl S0.out ?_) | (refine wpList_storeS (b := w.heap.size + 1) (c := Kx.zero) (c' := c) (v := nilV) (q := none) (n := 0) (k := 0) rfl _ _ rfl rfl rfl R0.out ?_))
      exact bodyPost_ret (v := .tuple #[.agg (stC c nilV), .int .i64 er]) (results_pair rfl _ _ (w.heap.size + 1) _ rfl (loadVarK shS (R0.out.put (stC c nilV)) rfl) (.int .i64 er) rfl) rfl (AnsSt.no HY.out (Box.below_setRow HB.out (by omega) _))
    | true =>
      obtain rfl : er = 0 := by
        by_cases h : er = 0
        · exact h
        · have := he (by rw [hf]; exact h)
          rw [hf] at this
          cases this
      have HY := Lib.hid (show out7 c d = (c.setN (fam (bt d 0)) (hopA (bt d 0) d), [], 0) by unfold out7; rw [if_neg hz, if_neg (by rw [e]; exact hn), hsz, hf, if_pos ⟨rfl, rfl⟩])
      rw [← HH.out, e] at HY
      have HY := Lib.hid (show out7 c d = ({ c with n1 := lgC 3 (d.extract 2 10) }, [], 0) from HY.out)
      clear hf he ho hz hs b0 b1 hn e hsz hy HH
      generalize d.extract 10 d.size = ea at *
      generalize d.extract 2 10 = es at *
      generalize lgC 3 es = eb at *
      go_enter Tryz.func70, Tryz.ntmps70
      go_upto_region 1 with fail
      change Code.wp _ _ _ _ ((w.alloc (.cells (stC c nilV) 81)).alloc (.cells (stC Kx.zero nilV) 81))
      have S0 := Lib.hid ((Bk.Bk.new 81 w (stC c nilV)).old (.cells (stC Kx.zero nilV) 81))
      have R0 := Bk.Bk.new 81 (w.alloc (.cells (stC c nilV) 81)) (stC Kx.zero nilV)
      rw [alloc_size] at R0
      have R0 := Lib.hid R0
      have HB := Lib.hid (balloc (balloc (Below.refl _ w) (.cells (stC c nilV) 81)) (.cells (stC Kx.zero nilV) 81))
      have HT := Lib.hid (HT.out.below HB.out)
      have tz := HT.out.z3
      generalize (w.alloc (.cells (stC c nilV) 81)).alloc (.cells (stC Kx.zero nilV) 81) = W at *
      go_wp2_with fail
      refine (PF.out _).mono ?_
      rintro r w' ⟨rfl, rfl⟩
      go_wp2_with fail
      refine (PS.out _).mono ?_
      rintro e w1 ⟨qa, qc, rfl, hl, hb⟩
      have S0 := Lib.hid (S0.out.below hb)
      have R0 := Lib.hid (R0.out.below hb)
      have HB := Lib.hid (bcall HB.out hb)
      clear hb hl PS
      go_wp2_with fail
      refine (PL.out _).mono ?_
      rintro r w' ⟨rfl, rfl⟩
      have d0 := S0.out.cell 5 _ rfl
      have fd := S0.out.frozen 5
      go_upto_region 13 with fail
      have XS := S0.out.set (i := 5) (v := .string eb) (cs' := stC { c with n1 := eb } nilV) rfl
      have XR := R0.out.off (p := ⟨w.heap.size, 5, none⟩) (by show w.heap.size + 1 ≠ w.heap.size; omega) (.string eb)
      have XB := HB.out.setCell (p := ⟨w.heap.size, 5, none⟩) (by show w.heap.size ≤ w.heap.size; omega) (.string eb)
      have S0 := Lib.hid XS
      have R0 := Lib.hid XR
      have HB := Lib.hid XB
      clear XS XR XB d0 fd
      generalize w1.setCell ⟨w.heap.size, 5, none⟩ (.string eb) = W2 at *
      go_wp2_with (first | (refine wpList_loadS (b := w.heap.size) (c := ({ c with n1 := eb } : Kx)) (v := nilV) rfl _ rfl rfl S0.out ?_) | (refine wpList_storeS (b := w.heap.size + 1) (c := Kx.zero) (c' := ({ c with n1 := eb } : Kx)) (v := nilV) (q := none) (n := 0) (k := 0) rfl _ _ rfl rfl rfl R0.out ?_))
      exact bodyPost_ret (v := .tuple #[.agg (stC ({ c with n1 := eb } : Kx) nilV), .int .i64 0]) (results_pair rfl _ _ (w.heap.size + 1) _ rfl (loadVarK shS (R0.out.put (stC ({ c with n1 := eb } : Kx) nilV)) rfl) (.int .i64 0) rfl) rfl (AnsSt.no HY.out (Box.below_setRow HB.out (by omega) _))
theorem cnt_with {d : ByteArray} {u : Up} (g : Cnt d u) (a : Option Addr) (k : Nat) : Cnt d { u with sa := a, sc := k } := ⟨g.ae0, g.ae3, g.len, g.om0, g.omle, g.size, g.subs, g.iv, g.seq, g.metric, g.fl0, g.fl1⟩
set_option maxHeartbeats 25600000 in
theorem update_any (c : Kx) (a : Int) (d : ByteArray) (w : World) (hc : okC c = true) (hs : d.size ≤ 100000) (ht : Tab w) :
    Calls Tryz.prog 71 #[.agg (stC c nilV), .agg (cellsT (a, (d, 8)))] w (AnsSt (out8 c d) w) := by
  have ho := (okc_iff c).1 hc
  rcases outK_two d with ⟨er, hq⟩ | ⟨u, g, hq⟩
  · have HY := Lib.hid (out8_no (c := c) hq)
    obtain ⟨q, hqq⟩ : ∃ q : Up, q = Up.zero := ⟨_, rfl⟩
    have P1 := Lib.hid (fun V (y : Tab V) => show Calls Tryz.prog 95 #[.agg (cellsT (a, (d, 8)))] V (fun e w' => ∃ sa sc, e = .returned (.tuple #[.agg (Up.cells { q with sa := sa, sc := sc }), .bool false, .int .i64 er]) ∧ Below V.heap.size V w') from
      (J6.take_own a d V hs y).mono (fun e w' h => by
        rw [hq] at h
        obtain ⟨sa, sc, h1, _, h3⟩ := h
        rw [hqq]
        exact ⟨sa, sc, h1, h3⟩))
    clear hq hqq ho hc hs
    go_enter Tryz.func71, Tryz.ntmps71
    go_upto_region 1 with fail
    change Code.wp _ _ _ _ (((w.alloc (.cells (stC c nilV) 81)).alloc (.cells (cellsT (a, (d, 8))) 31)).alloc (.cells (stC Kx.zero nilV) 81))
    have S0 := Lib.hid (((Bk.Bk.new 81 w (stC c nilV)).old (.cells (cellsT (a, (d, 8))) 31)).old (.cells (stC Kx.zero nilV) 81))
    have T0 := Bk.Bk.new 31 (w.alloc (.cells (stC c nilV) 81)) (cellsT (a, (d, 8)))
    rw [alloc_size] at T0
    have T0 := Lib.hid (T0.old (.cells (stC Kx.zero nilV) 81))
    have R0 := Bk.Bk.new 81 ((w.alloc (.cells (stC c nilV) 81)).alloc (.cells (cellsT (a, (d, 8))) 31)) (stC Kx.zero nilV)
    rw [alloc_size, alloc_size] at R0
    have R0 := Lib.hid R0
    have HB := Lib.hid (balloc (balloc (balloc (Below.refl _ w) (.cells (stC c nilV) 81)) (.cells (cellsT (a, (d, 8))) 31)) (.cells (stC Kx.zero nilV) 81))
    have HT := Lib.hid (ht.below HB.out)
    have h1 := ht.pos
    have hlt := R0.out.lt
    clear ht
    generalize ((w.alloc (.cells (stC c nilV) 81)).alloc (.cells (cellsT (a, (d, 8))) 31)).alloc (.cells (stC Kx.zero nilV) 81) = W at *
    go_wp2_with (first | (refine Bk.wpList_loadK (b := w.heap.size + 1) Tl.shT rfl _ rfl rfl T0.out rfl ?_))
    refine (P1.out _ HT.out).mono ?_
    rintro e w1 ⟨sa, sc, rfl, hb⟩
    have S0 := Lib.hid (S0.out.below hb)
    have R0 := Lib.hid (R0.out.below hb)
    have HT := Lib.hid (HT.out.below hb)
    have HB := Lib.hid (bcall HB.out hb)
    go_upto_region 2 with (refine wpList_storeU (b := w1.heap.size) (m := Up.zero) (m' := { q with sa := sa, sc := sc }) rfl _ _ rfl rfl rfl (Bk.Bk.new 119 w1 Up.zero.cells) ?_)
    change Code.wp _ _ _ _ ((w1.alloc (.cells Up.zero.cells 119)).setRow w1.heap.size (Up.cells { q with sa := sa, sc := sc }))
    rw [World.setRow_alloc_new]
    have bel := balloc (Below.refl w1.heap.size w1) (.cells (Up.cells { q with sa := sa, sc := sc }) 119)
    have hlt1 := R0.out.lt
    have S0 := Lib.hid (S0.out.below bel)
    have R0 := Lib.hid (R0.out.below bel)
    have HT := Lib.hid (HT.out.below bel)
    have HB := Lib.hid (bcall HB.out bel)
    clear hb bel T0 P1
    generalize w1.alloc (.cells (Up.cells { q with sa := sa, sc := sc }) 119) = V1 at *
    generalize w1.heap.size = g1 at *
    go_wp2_with (first | (refine wpList_loadS (b := w.heap.size) (c := c) (v := nilV) rfl _ rfl rfl S0.out ?_) | (refine wpList_storeS (b := w.heap.size + 1 + 1) (c := Kx.zero) (c' := c) (v := nilV) (q := none) (n := 0) (k := 0) rfl _ _ rfl rfl rfl R0.out ?_))
    exact bodyPost_ret (v := .tuple #[.agg (stC c nilV), .int .i64 er]) (results_pair rfl _ _ (w.heap.size + 1 + 1) _ rfl (loadVarK shS (R0.out.put (stC c nilV)) rfl) (.int .i64 er) rfl) rfl (AnsSt.no HY.out (Box.below_setRow HB.out (by omega) _))
  have P1 := Lib.hid (fun V (y : Tab V) => show Calls Tryz.prog 95 #[.agg (cellsT (a, (d, 8)))] V (fun e w' => ∃ v : Up, Cnt d v ∧ out8 c d = stU c v ∧ e = .returned (.tuple #[.agg v.cells, .bool true, .int .i64 0]) ∧ Sx.Lst V.heap.size w' (.slice v.sa v.sl.length v.sc) v.sl ∧ Below V.heap.size V w') from
    (J6.take_own a d V hs y).mono (fun e w' h => by
      rw [hq] at h
      obtain ⟨sa, sc, h1, h2, h3⟩ := h
      exact ⟨{ u with sa := sa, sc := sc }, cnt_with g sa sc, (out8_yes hq).trans rfl, h1, h2, h3⟩))
  clear hq g u
  go_enter Tryz.func71, Tryz.ntmps71
  go_upto_region 1 with fail
  change Code.wp _ _ _ _ (((w.alloc (.cells (stC c nilV) 81)).alloc (.cells (cellsT (a, (d, 8))) 31)).alloc (.cells (stC Kx.zero nilV) 81))
  have S0 := Lib.hid (((Bk.Bk.new 81 w (stC c nilV)).old (.cells (cellsT (a, (d, 8))) 31)).old (.cells (stC Kx.zero nilV) 81))
  have T0 := Bk.Bk.new 31 (w.alloc (.cells (stC c nilV) 81)) (cellsT (a, (d, 8)))
  rw [alloc_size] at T0
  have T0 := Lib.hid (T0.old (.cells (stC Kx.zero nilV) 81))
  have R0 := Bk.Bk.new 81 ((w.alloc (.cells (stC c nilV) 81)).alloc (.cells (cellsT (a, (d, 8))) 31)) (stC Kx.zero nilV)
  rw [alloc_size, alloc_size] at R0
  have R0 := Lib.hid R0
  have HB := Lib.hid (balloc (balloc (balloc (Below.refl _ w) (.cells (stC c nilV) 81)) (.cells (cellsT (a, (d, 8))) 31)) (.cells (stC Kx.zero nilV) 81))
  have HT := Lib.hid (ht.below HB.out)
  have h1 := ht.pos
  have hlt := R0.out.lt
  clear ht
  generalize ((w.alloc (.cells (stC c nilV) 81)).alloc (.cells (cellsT (a, (d, 8))) 31)).alloc (.cells (stC Kx.zero nilV) 81) = W at *
  go_wp2_with (first | (refine Bk.wpList_loadK (b := w.heap.size + 1) Tl.shT rfl _ rfl rfl T0.out rfl ?_))
  refine (P1.out _ HT.out).mono ?_
  rintro e w1 ⟨v, g, hy, rfl, hl, hb⟩
  have S0 := Lib.hid (S0.out.below hb)
  have R0 := Lib.hid (R0.out.below hb)
  have HT := Lib.hid (HT.out.below hb)
  have HB := Lib.hid (bcall HB.out hb)
  go_upto_region 2 with (refine wpList_storeU (b := w1.heap.size) (m := Up.zero) (m' := v) rfl _ _ rfl rfl rfl (Bk.Bk.new 119 w1 Up.zero.cells) ?_)
  change Code.wp _ _ _ _ ((w1.alloc (.cells Up.zero.cells 119)).setRow w1.heap.size (Up.cells v))
  rw [World.setRow_alloc_new]
  have bel := balloc (Below.refl w1.heap.size w1) (.cells (Up.cells v) 119)
  have hlt1 := R0.out.lt
  have S0 := Lib.hid (S0.out.below bel)
  have R0 := Lib.hid (R0.out.below bel)
  have HT := Lib.hid (HT.out.below bel)
  have HB := Lib.hid (bcall HB.out bel)
  have HL := Lib.hid (hl.below bel)
  have U0 := Lib.hid (Bk.Bk.new 119 w1 v.cells)
  obtain ⟨B1, hB1⟩ : ∃ B, W.heap.size = B := ⟨_, rfl⟩
  rw [hB1] at HL hlt
  have hg1 : B1 ≤ w1.heap.size := by rw [← hB1]; exact hb.size
  have hwB : w.heap.size ≤ B1 := by omega
  clear hb hl bel T0 P1 hB1
  generalize w1.alloc (.cells v.cells 119) = V1 at *
  generalize w1.heap.size = g1 at *
  obtain ⟨k, hk⟩ : ∃ k : Nat, v.ae = k := ⟨v.ae.toNat, by have := g.ae0; omega⟩
  have hk4 : k < 4 := by have := g.ae3; omega
  have c3 := U0.out.cell 3 (.int .i64 v.om) rfl
  by_cases h0 : 0 < v.om
  rotate_left
  · have e0 : v.om = 0 := by have := g.om0; omega
    have hx : ¬ (0 < v.om ∧ (c.pf v.ae).size = 0) := fun h => h0 h.1
    rw [e0] at c3
    clear h0 e0
    go_upto_region 6 with fail
    clear c3 hk hk4
    have HY := Lib.hid (hy.trans (stU_yes hx))
    have hi := adr_in ho g hx
    have hz16 : (adrC c v).size ≤ 1000 := by have := J2.adr_size hi; omega
    have P2 := Lib.hid (fun V (y : Tab V) => address_any c nilV d v V ho g hx y)
    have P3 := Lib.hid (fun V => flagged_any c d v (adrC c v) V g hz16)
    have P4 := Lib.hid (fun V => tells_any (flagC c v (adrC c v)) v V)
    have P5 := Lib.hid (fun V h => message_any (flagC c v (adrC c v)) d v (adrC c v) V g h)
    have HTE := Lib.hid (tell_is (flagC c v (adrC c v)) v)
    clear hx hi hz16 ho hc hy
    generalize adrC c v = ad at *
    generalize flagC c v ad = cf at *
    go_wp2_with (first | (refine wpList_loadS (b := w.heap.size) (c := c) (v := nilV) rfl _ rfl rfl S0.out ?_) | (refine wpList_loadU (b := g1) (m := v) rfl _ rfl rfl U0.out ?_))
    refine (P2.out _ HT.out).mono ?_
    rintro e w2 ⟨rfl, hb⟩
    have S0 := Lib.hid (S0.out.below hb)
    have U0 := Lib.hid (U0.out.below hb)
    have R0 := Lib.hid (R0.out.below hb)
    have HT := Lib.hid (HT.out.below hb)
    have HL := Lib.hid (HL.out.below hb)
    have HB := Lib.hid (bcall HB.out hb)
    clear hb P2
    go_wp2_with (first | (refine wpList_loadS (b := w.heap.size) (c := c) (v := nilV) rfl _ rfl rfl S0.out ?_) | (refine wpList_loadU (b := g1) (m := v) rfl _ rfl rfl U0.out ?_))
    refine (P3.out _).mono ?_
    rintro e w3 ⟨rfl, hb⟩
    have S0 := Lib.hid (S0.out.below hb)
    have U0 := Lib.hid (U0.out.below hb)
    have R0 := Lib.hid (R0.out.below hb)
    have HT := Lib.hid (HT.out.below hb)
    have HL := Lib.hid (HL.out.below hb)
    have HB := Lib.hid (bcall HB.out hb)
    clear hb P3
    have hlt3 := R0.out.lt
    go_upto_region 8 with (refine wpList_storeS (b := w.heap.size) (c := c) (c' := cf) (v := nilV) (q := none) (n := 0) (k := 0) rfl _ _ rfl rfl rfl S0.out ?_)
    have HL := Lib.hid (lst_under HL.out (g := w.heap.size) (by omega) (stC cf nilV))
    have HT := Lib.hid (HT.out.row (g := w.heap.size) h1 (stC cf nilV))
    have U0 := Lib.hid (U0.out.row (g := w.heap.size) (by omega) (stC cf nilV))
    have R0 := Lib.hid (R0.out.row (g := w.heap.size) (by omega) (stC cf nilV))
    have S0 := Lib.hid (S0.out.put (stC cf nilV))
    have HB := Lib.hid (Box.below_setRow HB.out (Nat.le_refl _) (stC cf nilV))
    generalize w3.setRow w.heap.size (stC cf nilV) = V4 at *
    go_wp2_with (first | (refine wpList_loadS (b := w.heap.size) (c := cf) (v := nilV) rfl _ rfl rfl S0.out ?_) | (refine wpList_loadU (b := g1) (m := v) rfl _ rfl rfl U0.out ?_))
    refine (P4.out _).mono ?_
    rintro e w5 ⟨rfl, hb⟩
    have S0 := Lib.hid (S0.out.below hb)
    have U0 := Lib.hid (U0.out.below hb)
    have R0 := Lib.hid (R0.out.below hb)
    have HT := Lib.hid (HT.out.below hb)
    have HL := Lib.hid (HL.out.below hb)
    have HB := Lib.hid (bcall HB.out hb)
    clear hb P4
    cases htb : tellB cf v with
    | false =>
      rw [htb] at HY
      have HY := Lib.hid (show out8 c d = (cf, [], 0) from HY.out)
      clear htb P5 HTE
      go_wp2_with (first | (refine wpList_loadS (b := w.heap.size) (c := cf) (v := nilV) rfl _ rfl rfl S0.out ?_) | (refine wpList_storeS (b := w.heap.size + 1 + 1) (c := Kx.zero) (c' := cf) (v := nilV) (q := none) (n := 0) (k := 0) rfl _ _ rfl rfl rfl R0.out ?_))
      exact bodyPost_ret (v := .tuple #[.agg (stC cf nilV), .int .i64 0]) (results_pair rfl _ _ (w.heap.size + 1 + 1) _ rfl (loadVarK shS (R0.out.put (stC cf nilV)) rfl) (.int .i64 0) rfl) rfl (AnsSt.no HY.out (Box.below_setRow HB.out (by omega) _))
    | true =>
      have HY := Lib.hid (show out8 c d = (cf, [updM cf v ad], 0) by rw [HY.out, htb]; rfl)
      have hm : v.metric = 65535 ∨ ¬ v.ae = 0 := by
        have := HTE.out
        rw [htb] at this
        by_cases h : v.metric = 65535
        · exact .inl h
        · refine .inr (fun h0 => ?_)
          rw [decide_eq_false h, decide_eq_true h0] at this
          simp at this
      have P5 := Lib.hid (fun V => P5.out V hm)
      clear htb HTE hm
      go_wp2_with (first | (refine wpList_loadS (b := w.heap.size) (c := cf) (v := nilV) rfl _ rfl rfl S0.out ?_) | (refine wpList_loadU (b := g1) (m := v) rfl _ rfl rfl U0.out ?_))
      refine (P5.out _).mono ?_
      rintro e w6 ⟨rfl, hb⟩
      have S0 := Lib.hid (S0.out.below hb)
      have U0 := Lib.hid (U0.out.below hb)
      have R0 := Lib.hid (R0.out.below hb)
      have HT := Lib.hid (HT.out.below hb)
      have HL := Lib.hid (HL.out.below hb)
      have HB := Lib.hid (bcall HB.out hb)
      clear hb P5
      obtain ⟨nm, hnm⟩ : ∃ m : M, m = { updM cf v ad with sa := v.sa, sc := v.sc } := ⟨_, rfl⟩
      have hll : nm.ll = [] := by rw [hnm]; rfl
      have HP := Lib.hid (show Pl nm (updM cf v ad) by rw [hnm]; rfl)
      have HO := Lib.hid (one_new (n := nm) hll (show Sx.Lst B1 w6 (.slice nm.sa nm.sl.length nm.sc) nm.sl by rw [hnm]; exact HL.out) (by have := R0.out.lt; have := U0.out.lt; omega))
      have bel := balloc (Below.refl w6.heap.size w6) (.cells nm.cells 43)
      have S7 := S0.out.below bel
      have d7 := S7.cell 7 _ rfl
      have fd := S7.frozen 7
      rw [← hnm]
      clear hnm hll
      go_upto_region 10 with (first | (refine Ap.bs_one (m := nm) rfl _ rfl rfl ?_))
      have S0 := Lib.hid (S0.out.below bel)
      have R0 := Lib.hid (R0.out.below bel)
      have HB := Lib.hid (bcall HB.out bel)
      have HO := Lib.hid (MOwn.cell HO.out (p := ⟨w.heap.size, 7, none⟩) (by show w.heap.size < B1; omega) (.slice (some ⟨w6.heap.size, 0, none⟩) 1 1))
      have S0 := Lib.hid (S0.out.set (i := 7) (v := .slice (some ⟨w6.heap.size, 0, none⟩) 1 1) (cs' := stC cf (.slice (some ⟨w6.heap.size, 0, none⟩) 1 1)) rfl)
      have R0 := Lib.hid (R0.out.off (p := ⟨w.heap.size, 7, none⟩) (by show w.heap.size + 1 + 1 ≠ w.heap.size; omega) (.slice (some ⟨w6.heap.size, 0, none⟩) 1 1))
      have HB := Lib.hid (HB.out.setCell (p := ⟨w.heap.size, 7, none⟩) (by show w.heap.size ≤ w.heap.size; omega) (.slice (some ⟨w6.heap.size, 0, none⟩) 1 1))
      clear d7 fd bel S7 U0 HT HL
      generalize (w6.alloc (.cells nm.cells 43)).setCell ⟨w.heap.size, 7, none⟩ (.slice (some ⟨w6.heap.size, 0, none⟩) 1 1) = V7 at *
      generalize w6.heap.size = g6 at *
      go_wp2_with (first | (refine wpList_loadS (b := w.heap.size) (c := cf) (v := (.slice (some ⟨g6, 0, none⟩) 1 1)) rfl _ rfl rfl S0.out ?_) | (refine wpList_storeS (b := w.heap.size + 1 + 1) (c := Kx.zero) (c' := cf) (v := nilV) (q := some ⟨g6, 0, none⟩) (n := 1) (k := 1) rfl _ _ rfl rfl rfl R0.out ?_))
      exact bodyPost_ret (v := .tuple #[.agg (stC cf (.slice (some ⟨g6, 0, none⟩) 1 1)), .int .i64 0]) (results_pair rfl _ _ (w.heap.size + 1 + 1) _ rfl (loadVarK shS (R0.out.put (stC cf (.slice (some ⟨g6, 0, none⟩) 1 1))) rfl) (.int .i64 0) rfl) rfl (AnsSt.one HY.out HP.out ((MOwn.under HO.out (by omega) _).mono hwB) (Box.below_setRow HB.out (by omega) _))
  have n1 := nil_eq (c.pf k)
  have n2 := nil_em (c.pf k)
  have c0 := U0.out.cell 0 (.int .i64 v.ae) rfl
  rw [hk] at c0
  have p0 := pf_cell S0.out hk4
  by_cases hz : (c.pf k).size = 0
  · have HY := Lib.hid (hy.trans (stU_err ⟨h0, by rw [hk]; exact hz⟩))
    rw [decide_eq_true hz] at n1 n2
    clear hz hy hk ho hc g
    go_wp2_with (first | (refine st_yes (v := .pointer (some ⟨w.heap.size, k, none⟩)) (by rfl) rfl (ex_indexAt rfl rfl rfl (indexAt4 w.heap.size k hk4 _)) ?_) | (refine wpList_loadS (b := w.heap.size) (c := c) (v := nilV) rfl _ rfl rfl S0.out ?_) | (refine wpList_storeS (b := w.heap.size + 1 + 1) (c := Kx.zero) (c' := c) (v := nilV) (q := none) (n := 0) (k := 0) rfl _ _ rfl rfl rfl R0.out ?_))
    exact bodyPost_ret (v := .tuple #[.agg (stC c nilV), .int .i64 9]) (results_pair rfl _ _ (w.heap.size + 1 + 1) _ rfl (loadVarK shS (R0.out.put (stC c nilV)) rfl) (.int .i64 9) rfl) rfl (AnsSt.no HY.out (Box.below_setRow HB.out (by omega) _))
  have hx : ¬ (0 < v.om ∧ (c.pf v.ae).size = 0) := fun h => hz (by rw [← hk]; exact h.2)
  rw [decide_eq_false hz] at n1 n2
  clear hz hk
  go_upto_region 6 with (first | (refine st_yes (v := .pointer (some ⟨w.heap.size, k, none⟩)) (by rfl) rfl (ex_indexAt rfl rfl rfl (indexAt4 w.heap.size k hk4 _)) ?_))
  clear c3 c0 p0 n1 n2 h0 hk4
  have HY := Lib.hid (hy.trans (stU_yes hx))
  have hi := adr_in ho g hx
  have hz16 : (adrC c v).size ≤ 1000 := by have := J2.adr_size hi; omega
  have P2 := Lib.hid (fun V (y : Tab V) => address_any c nilV d v V ho g hx y)
  have P3 := Lib.hid (fun V => flagged_any c d v (adrC c v) V g hz16)
  have P4 := Lib.hid (fun V => tells_any (flagC c v (adrC c v)) v V)
  have P5 := Lib.hid (fun V h => message_any (flagC c v (adrC c v)) d v (adrC c v) V g h)
  have HTE := Lib.hid (tell_is (flagC c v (adrC c v)) v)
  clear hx hi hz16 ho hc hy
  generalize adrC c v = ad at *
  generalize flagC c v ad = cf at *
  go_wp2_with (first | (refine wpList_loadS (b := w.heap.size) (c := c) (v := nilV) rfl _ rfl rfl S0.out ?_) | (refine wpList_loadU (b := g1) (m := v) rfl _ rfl rfl U0.out ?_))
  refine (P2.out _ HT.out).mono ?_
  rintro e w2 ⟨rfl, hb⟩
  have S0 := Lib.hid (S0.out.below hb)
  have U0 := Lib.hid (U0.out.below hb)
  have R0 := Lib.hid (R0.out.below hb)
  have HT := Lib.hid (HT.out.below hb)
  have HL := Lib.hid (HL.out.below hb)
  have HB := Lib.hid (bcall HB.out hb)
  clear hb P2
  go_wp2_with (first | (refine wpList_loadS (b := w.heap.size) (c := c) (v := nilV) rfl _ rfl rfl S0.out ?_) | (refine wpList_loadU (b := g1) (m := v) rfl _ rfl rfl U0.out ?_))
  refine (P3.out _).mono ?_
  rintro e w3 ⟨rfl, hb⟩
  have S0 := Lib.hid (S0.out.below hb)
  have U0 := Lib.hid (U0.out.below hb)
  have R0 := Lib.hid (R0.out.below hb)
  have HT := Lib.hid (HT.out.below hb)
  have HL := Lib.hid (HL.out.below hb)
  have HB := Lib.hid (bcall HB.out hb)
  clear hb P3
  have hlt3 := R0.out.lt
  go_upto_region 8 with (refine wpList_storeS (b := w.heap.size) (c := c) (c' := cf) (v := nilV) (q := none) (n := 0) (k := 0) rfl _ _ rfl rfl rfl S0.out ?_)
  have HL := Lib.hid (lst_under HL.out (g := w.heap.size) (by omega) (stC cf nilV))
  have HT := Lib.hid (HT.out.row (g := w.heap.size) h1 (stC cf nilV))
  have U0 := Lib.hid (U0.out.row (g := w.heap.size) (by omega) (stC cf nilV))
  have R0 := Lib.hid (R0.out.row (g := w.heap.size) (by omega) (stC cf nilV))
  have S0 := Lib.hid (S0.out.put (stC cf nilV))
  have HB := Lib.hid (Box.below_setRow HB.out (Nat.le_refl _) (stC cf nilV))
  generalize w3.setRow w.heap.size (stC cf nilV) = V4 at *
  go_wp2_with (first | (refine wpList_loadS (b := w.heap.size) (c := cf) (v := nilV) rfl _ rfl rfl S0.out ?_) | (refine wpList_loadU (b := g1) (m := v) rfl _ rfl rfl U0.out ?_))
  refine (P4.out _).mono ?_
  rintro e w5 ⟨rfl, hb⟩
  have S0 := Lib.hid (S0.out.below hb)
  have U0 := Lib.hid (U0.out.below hb)
  have R0 := Lib.hid (R0.out.below hb)
  have HT := Lib.hid (HT.out.below hb)
  have HL := Lib.hid (HL.out.below hb)
  have HB := Lib.hid (bcall HB.out hb)
  clear hb P4
  cases htb : tellB cf v with
  | false =>
    rw [htb] at HY
    have HY := Lib.hid (show out8 c d = (cf, [], 0) from HY.out)
    clear htb P5 HTE
    go_wp2_with (first | (refine wpList_loadS (b := w.heap.size) (c := cf) (v := nilV) rfl _ rfl rfl S0.out ?_) | (refine wpList_storeS (b := w.heap.size + 1 + 1) (c := Kx.zero) (c' := cf) (v := nilV) (q := none) (n := 0) (k := 0) rfl _ _ rfl rfl rfl R0.out ?_))
    exact bodyPost_ret (v := .tuple #[.agg (stC cf nilV), .int .i64 0]) (results_pair rfl _ _ (w.heap.size + 1 + 1) _ rfl (loadVarK shS (R0.out.put (stC cf nilV)) rfl) (.int .i64 0) rfl) rfl (AnsSt.no HY.out (Box.below_setRow HB.out (by omega) _))
  | true =>
    have HY := Lib.hid (show out8 c d = (cf, [updM cf v ad], 0) by rw [HY.out, htb]; rfl)
    have hm : v.metric = 65535 ∨ ¬ v.ae = 0 := by
      have := HTE.out
      rw [htb] at this
      by_cases h : v.metric = 65535
      · exact .inl h
      · refine .inr (fun h0 => ?_)
        rw [decide_eq_false h, decide_eq_true h0] at this
        simp at this
    have P5 := Lib.hid (fun V => P5.out V hm)
    clear htb HTE hm
    go_wp2_with (first | (refine wpList_loadS (b := w.heap.size) (c := cf) (v := nilV) rfl _ rfl rfl S0.out ?_) | (refine wpList_loadU (b := g1) (m := v) rfl _ rfl rfl U0.out ?_))
    refine (P5.out _).mono ?_
    rintro e w6 ⟨rfl, hb⟩
    have S0 := Lib.hid (S0.out.below hb)
    have U0 := Lib.hid (U0.out.below hb)
    have R0 := Lib.hid (R0.out.below hb)
    have HT := Lib.hid (HT.out.below hb)
    have HL := Lib.hid (HL.out.below hb)
    have HB := Lib.hid (bcall HB.out hb)
    clear hb P5
    obtain ⟨nm, hnm⟩ : ∃ m : M, m = { updM cf v ad with sa := v.sa, sc := v.sc } := ⟨_, rfl⟩
    have hll : nm.ll = [] := by rw [hnm]; rfl
    have HP := Lib.hid (show Pl nm (updM cf v ad) by rw [hnm]; rfl)
    have HO := Lib.hid (one_new (n := nm) hll (show Sx.Lst B1 w6 (.slice nm.sa nm.sl.length nm.sc) nm.sl by rw [hnm]; exact HL.out) (by have := R0.out.lt; have := U0.out.lt; omega))
    have bel := balloc (Below.refl w6.heap.size w6) (.cells nm.cells 43)
    have S7 := S0.out.below bel
    have d7 := S7.cell 7 _ rfl
    have fd := S7.frozen 7
    rw [← hnm]
    clear hnm hll
    go_upto_region 10 with (first | (refine Ap.bs_one (m := nm) rfl _ rfl rfl ?_))
    have S0 := Lib.hid (S0.out.below bel)
    have R0 := Lib.hid (R0.out.below bel)
    have HB := Lib.hid (bcall HB.out bel)
    have HO := Lib.hid (MOwn.cell HO.out (p := ⟨w.heap.size, 7, none⟩) (by show w.heap.size < B1; omega) (.slice (some ⟨w6.heap.size, 0, none⟩) 1 1))
    have S0 := Lib.hid (S0.out.set (i := 7) (v := .slice (some ⟨w6.heap.size, 0, none⟩) 1 1) (cs' := stC cf (.slice (some ⟨w6.heap.size, 0, none⟩) 1 1)) rfl)
    have R0 := Lib.hid (R0.out.off (p := ⟨w.heap.size, 7, none⟩) (by show w.heap.size + 1 + 1 ≠ w.heap.size; omega) (.slice (some ⟨w6.heap.size, 0, none⟩) 1 1))
    have HB := Lib.hid (HB.out.setCell (p := ⟨w.heap.size, 7, none⟩) (by show w.heap.size ≤ w.heap.size; omega) (.slice (some ⟨w6.heap.size, 0, none⟩) 1 1))
    clear d7 fd bel S7 U0 HT HL
    generalize (w6.alloc (.cells nm.cells 43)).setCell ⟨w.heap.size, 7, none⟩ (.slice (some ⟨w6.heap.size, 0, none⟩) 1 1) = V7 at *
    generalize w6.heap.size = g6 at *
    go_wp2_with (first | (refine wpList_loadS (b := w.heap.size) (c := cf) (v := (.slice (some ⟨g6, 0, none⟩) 1 1)) rfl _ rfl rfl S0.out ?_) | (refine wpList_storeS (b := w.heap.size + 1 + 1) (c := Kx.zero) (c' := cf) (v := nilV) (q := some ⟨g6, 0, none⟩) (n := 1) (k := 1) rfl _ _ rfl rfl rfl R0.out ?_))
    exact bodyPost_ret (v := .tuple #[.agg (stC cf (.slice (some ⟨g6, 0, none⟩) 1 1)), .int .i64 0]) (results_pair rfl _ _ (w.heap.size + 1 + 1) _ rfl (loadVarK shS (R0.out.put (stC cf (.slice (some ⟨g6, 0, none⟩) 1 1))) rfl) (.int .i64 0) rfl) rfl (AnsSt.one HY.out HP.out ((MOwn.under HO.out (by omega) _).mono hwB) (Box.below_setRow HB.out (by omega) _))
end Go.Proofs.YtpkmpinbpfblfaaGreatDoor.K5
namespace Go.Proofs.YtpkmpinbpfblfaaGreatDoor.K6
open Go.ChangeShapes Go.WideShapes Go.ChangeAt Go.RowKit
open Go.Proofs.YtpkmpinbpfblfaaGreatDoor.Ms
open Go.Proofs.YtpkmpinbpfblfaaGreatDoor.Box
open Go.Proofs.YtpkmpinbpfblfaaGreatDoor.An
open Go.Proofs.YtpkmpinbpfblfaaGreatDoor.Tc
open Go.Proofs.YtpkmpinbpfblfaaGreatDoor.K1
open Go.Proofs.YtpkmpinbpfblfaaGreatDoor.Kb
open Go.Proofs.YtpkmpinbpfblfaaGreatDoor.K2
open Go.Proofs.YtpkmpinbpfblfaaGreatDoor.K3
open Go.Proofs.YtpkmpinbpfblfaaGreatDoor.K4
open Go.Proofs.YtpkmpinbpfblfaaGreatDoor.K5
open Go.Proofs.YtpkmpinbpfblfaaGreatDoor.Tl (cellsT)
open Go.Proofs.YtpkmpinbpfblfaaGreatDoor.Bk (Bk Sh alloc_size wpList_loadK wpList_storeK run_loadK results_pair results_one loadVarK wpList_builtK)
open Go.Proofs.YtpkmpinbpfblfaaGreatDoor.Hs
open Go.Proofs.YtpkmpinbpfblfaaGreatDoor.Or (st_yes)
set_option linter.unusedVariables false
set_option maxRecDepth 100000
set_option maxRecDepth 100000
set_option maxHeartbeats 6400000 in
theorem behind_any (c : Kx) (a t : Int) (d : ByteArray) (w : World) (h : t = 6 ∨ t = 7 ∨ t = 8) (hc : okC c = true) (hs : d.size ≤ 100000) (ht : Tab w) :
    Calls Tryz.prog 42 #[.agg (stC c nilV), .agg (cellsT (a, (d, t)))] w (AnsSt (outC c t d) w) := by
  rcases h with rfl | rfl | rfl
  · have P1 := Lib.hid (fun V (y : Tab V) => routerId_any c d V hs)
    have HO : outC c 6 d = out6 c d := rfl
    rw [HO]
    clear HO hc hs
    generalize out6 c d = p at *
    go_enter Tryz.func42, Tryz.ntmps42
    go_upto_region 1 with fail
    change Code.wp _ _ _ _ (((w.alloc (.cells (stC c nilV) 81)).alloc (.cells (cellsT (a, (d, 6))) 31)).alloc (.cells (stC Kx.zero nilV) 81))
    have S0 := Lib.hid (((Bk.Bk.new 81 w (stC c nilV)).old (.cells (cellsT (a, (d, 6))) 31)).old (.cells (stC Kx.zero nilV) 81))
    have T0 := Bk.Bk.new 31 (w.alloc (.cells (stC c nilV) 81)) (cellsT (a, (d, 6)))
    rw [alloc_size] at T0
    have T0 := Lib.hid (T0.old (.cells (stC Kx.zero nilV) 81))
    have R0 := Bk.Bk.new 81 ((w.alloc (.cells (stC c nilV) 81)).alloc (.cells (cellsT (a, (d, 6))) 31)) (stC Kx.zero nilV)
    rw [alloc_size, alloc_size] at R0
    have R0 := Lib.hid R0
    have HB := Lib.hid (balloc (balloc (balloc (Below.refl _ w) (.cells (stC c nilV) 81)) (.cells (cellsT (a, (d, 6))) 31)) (.cells (stC Kx.zero nilV) 81))
    have HT := Lib.hid (ht.below HB.out)
    have h1 := ht.pos
    have hlt := R0.out.lt
    clear ht
    generalize ((w.alloc (.cells (stC c nilV) 81)).alloc (.cells (cellsT (a, (d, 6))) 31)).alloc (.cells (stC Kx.zero nilV) 81) = W at *
    have c0 := T0.out.cell 0 (.int .i64 6) rfl
    have c2 := T0.out.cell 2 (.string d) rfl
    go_wp2_with (first | (refine wpList_loadS (b := w.heap.size) (c := c) (v := nilV) rfl _ rfl rfl S0.out ?_) | (refine Bk.wpList_loadK (b := w.heap.size + 1) Tl.shT rfl _ rfl rfl T0.out rfl ?_))
    refine (P1.out _ HT.out).mono ?_
    clear c0 c2 P1
    intro e w1 hr
    obtain ⟨qa, qn, qk, rfl, hb, hA⟩ := hr.boxed (w := w) (g := w.heap.size + 1 + 1) (by omega) hlt HB.out
    have R0 := Lib.hid (R0.out.below hb)
    have HA := Lib.hid hA
    clear hr hb hA
    go_wp2_with (first | (refine wpList_storeS (b := w.heap.size + 1 + 1) (c := Kx.zero) (c' := p.1) (v := nilV) (q := qa) (n := qn) (k := qk) rfl _ _ rfl rfl rfl R0.out ?_))
    exact bodyPost_ret (v := .tuple #[.agg (stC p.1 (.slice qa qn qk)), .int .i64 p.2.2]) (results_pair rfl _ _ (w.heap.size + 1 + 1) _ rfl (loadVarK shS (R0.out.put (stC p.1 (.slice qa qn qk))) rfl) (.int .i64 p.2.2) rfl) rfl HA.out
  · have P1 := Lib.hid (fun V (y : Tab V) => nextHop_any c d V hs y)
    have HO : outC c 7 d = out7 c d := rfl
    rw [HO]
    clear HO hc hs
    generalize out7 c d = p at *
    go_enter Tryz.func42, Tryz.ntmps42
    go_upto_region 1 with fail
    change Code.wp _ _ _ _ (((w.alloc (.cells (stC c nilV) 81)).alloc (.cells (cellsT (a, (d, 7))) 31)).alloc (.cells (stC Kx.zero nilV) 81))
    have S0 := Lib.hid (((Bk.Bk.new 81 w (stC c nilV)).old (.cells (cellsT (a, (d, 7))) 31)).old (.cells (stC Kx.zero nilV) 81))
    have T0 := Bk.Bk.new 31 (w.alloc (.cells (stC c nilV) 81)) (cellsT (a, (d, 7)))
    rw [alloc_size] at T0
    have T0 := Lib.hid (T0.old (.cells (stC Kx.zero nilV) 81))
    have R0 := Bk.Bk.new 81 ((w.alloc (.cells (stC c nilV) 81)).alloc (.cells (cellsT (a, (d, 7))) 31)) (stC Kx.zero nilV)
    rw [alloc_size, alloc_size] at R0
    have R0 := Lib.hid R0
    have HB := Lib.hid (balloc (balloc (balloc (Below.refl _ w) (.cells (stC c nilV) 81)) (.cells (cellsT (a, (d, 7))) 31)) (.cells (stC Kx.zero nilV) 81))
    have HT := Lib.hid (ht.below HB.out)
    have h1 := ht.pos
    have hlt := R0.out.lt
    clear ht
    generalize ((w.alloc (.cells (stC c nilV) 81)).alloc (.cells (cellsT (a, (d, 7))) 31)).alloc (.cells (stC Kx.zero nilV) 81) = W at *
    have c0 := T0.out.cell 0 (.int .i64 7) rfl
    have c2 := T0.out.cell 2 (.string d) rfl
    go_wp2_with (first | (refine wpList_loadS (b := w.heap.size) (c := c) (v := nilV) rfl _ rfl rfl S0.out ?_) | (refine Bk.wpList_loadK (b := w.heap.size + 1) Tl.shT rfl _ rfl rfl T0.out rfl ?_))
    refine (P1.out _ HT.out).mono ?_
    clear c0 c2 P1
    intro e w1 hr
    obtain ⟨qa, qn, qk, rfl, hb, hA⟩ := hr.boxed (w := w) (g := w.heap.size + 1 + 1) (by omega) hlt HB.out
    have R0 := Lib.hid (R0.out.below hb)
    have HA := Lib.hid hA
    clear hr hb hA
    go_wp2_with (first | (refine wpList_storeS (b := w.heap.size + 1 + 1) (c := Kx.zero) (c' := p.1) (v := nilV) (q := qa) (n := qn) (k := qk) rfl _ _ rfl rfl rfl R0.out ?_))
    exact bodyPost_ret (v := .tuple #[.agg (stC p.1 (.slice qa qn qk)), .int .i64 p.2.2]) (results_pair rfl _ _ (w.heap.size + 1 + 1) _ rfl (loadVarK shS (R0.out.put (stC p.1 (.slice qa qn qk))) rfl) (.int .i64 p.2.2) rfl) rfl HA.out
  · have P1 := Lib.hid (fun V (y : Tab V) => update_any c a d V hc hs y)
    have HO : outC c 8 d = out8 c d := rfl
    rw [HO]
    clear HO hc hs
    generalize out8 c d = p at *
    go_enter Tryz.func42, Tryz.ntmps42
    go_upto_region 1 with fail
    change Code.wp _ _ _ _ (((w.alloc (.cells (stC c nilV) 81)).alloc (.cells (cellsT (a, (d, 8))) 31)).alloc (.cells (stC Kx.zero nilV) 81))
    have S0 := Lib.hid (((Bk.Bk.new 81 w (stC c nilV)).old (.cells (cellsT (a, (d, 8))) 31)).old (.cells (stC Kx.zero nilV) 81))
    have T0 := Bk.Bk.new 31 (w.alloc (.cells (stC c nilV) 81)) (cellsT (a, (d, 8)))
    rw [alloc_size] at T0
    have T0 := Lib.hid (T0.old (.cells (stC Kx.zero nilV) 81))
    have R0 := Bk.Bk.new 81 ((w.alloc (.cells (stC c nilV) 81)).alloc (.cells (cellsT (a, (d, 8))) 31)) (stC Kx.zero nilV)
    rw [alloc_size, alloc_size] at R0
    have R0 := Lib.hid R0
    have HB := Lib.hid (balloc (balloc (balloc (Below.refl _ w) (.cells (stC c nilV) 81)) (.cells (cellsT (a, (d, 8))) 31)) (.cells (stC Kx.zero nilV) 81))
    have HT := Lib.hid (ht.below HB.out)
    have h1 := ht.pos
    have hlt := R0.out.lt
    clear ht
    generalize ((w.alloc (.cells (stC c nilV) 81)).alloc (.cells (cellsT (a, (d, 8))) 31)).alloc (.cells (stC Kx.zero nilV) 81) = W at *
    have c0 := T0.out.cell 0 (.int .i64 8) rfl
    have c2 := T0.out.cell 2 (.string d) rfl
    go_wp2_with (first | (refine wpList_loadS (b := w.heap.size) (c := c) (v := nilV) rfl _ rfl rfl S0.out ?_) | (refine Bk.wpList_loadK (b := w.heap.size + 1) Tl.shT rfl _ rfl rfl T0.out rfl ?_))
    refine (P1.out _ HT.out).mono ?_
    clear c0 c2 P1
    intro e w1 hr
    obtain ⟨qa, qn, qk, rfl, hb, hA⟩ := hr.boxed (w := w) (g := w.heap.size + 1 + 1) (by omega) hlt HB.out
    have R0 := Lib.hid (R0.out.below hb)
    have HA := Lib.hid hA
    clear hr hb hA
    go_wp2_with (first | (refine wpList_storeS (b := w.heap.size + 1 + 1) (c := Kx.zero) (c' := p.1) (v := nilV) (q := qa) (n := qn) (k := qk) rfl _ _ rfl rfl rfl R0.out ?_))
    exact bodyPost_ret (v := .tuple #[.agg (stC p.1 (.slice qa qn qk)), .int .i64 p.2.2]) (results_pair rfl _ _ (w.heap.size + 1 + 1) _ rfl (loadVarK shS (R0.out.put (stC p.1 (.slice qa qn qk))) rfl) (.int .i64 p.2.2) rfl) rfl HA.out
theorem ctx_in (c : Kx) (v : Value) : ∀ j x, (c.cells.toList)[j]? = some x → (stC c v)[0 + j]? = some x := by
  intro j x hx
  match j, hx with
  | 0, hx => exact hx
  | 1, hx => exact hx
  | 2, hx => exact hx
  | 3, hx => exact hx
  | 4, hx => exact hx
  | 5, hx => exact hx
  | 6, hx => exact hx
  | j + 7, hx => cases hx
theorem infoX : (Tryz.prog.info? 35).map (·.size) = some 7 := by kernel_rfl
set_option maxHeartbeats 12800000 in
theorem step_any (c : Kx) (a t : Int) (d : ByteArray) (w : World) (h : t = 6 ∨ t = 7 ∨ t = 8) (hc : okC c = true) (hs : d.size ≤ 100000) (ht : Tab w) :
    Calls Tryz.prog 27 #[.agg c.cells, .agg (cellsT (a, (d, t)))] w (AnsC (outC c t d) w) := by
  have P1 := Lib.hid (fun V (y : Tab V) => behind_any c a t d V h hc hs y)
  have HE := Lib.hid (out_good t d hc).err
  clear h hc hs
  generalize outC c t d = p at *
  have HB := Lib.hid (balloc (balloc (balloc (Below.refl _ w) (.cells c.cells 35)) (.cells (cellsT (a, (d, t))) 31)) (.cells Kx.zero.cells 35))
  have C0 := Lib.hid (((Bk.Bk.new 35 w c.cells).old (.cells (cellsT (a, (d, t))) 31)).old (.cells Kx.zero.cells 35))
  have T0 := Bk.Bk.new 31 (w.alloc (.cells c.cells 35)) (cellsT (a, (d, t)))
  rw [alloc_size] at T0
  have T0 := Lib.hid (T0.old (.cells Kx.zero.cells 35))
  have R0 := Bk.Bk.new 35 ((w.alloc (.cells c.cells 35)).alloc (.cells (cellsT (a, (d, t))) 31)) Kx.zero.cells
  rw [alloc_size, alloc_size] at R0
  have R0 := Lib.hid R0
  have HT := Lib.hid (ht.below HB.out)
  clear ht
  go_enter Tryz.func27, Tryz.ntmps27
  go_upto_region 1 with fail
  change Code.wp _ _ _ _ (((w.alloc (.cells c.cells 35)).alloc (.cells (cellsT (a, (d, t))) 31)).alloc (.cells Kx.zero.cells 35))
  generalize ((w.alloc (.cells c.cells 35)).alloc (.cells (cellsT (a, (d, t))) 31)).alloc (.cells Kx.zero.cells 35) = W at *
  have hlt := R0.out.lt
  go_wp2_with (first | (refine wpList_loadX (b := w.heap.size) (m := c) rfl _ rfl rfl C0.out ?_) | (refine wpList_builtK rfl 81 _ rfl (stC c nilV) (by kernel_rfl) ?_) | (refine Bk.wpList_loadK (b := w.heap.size + 1) Tl.shT rfl _ rfl rfl T0.out rfl ?_))
  refine (P1.out _ HT.out).mono ?_
  rintro e w1 ⟨qa, qk, l, rfl, hp, hm, hb⟩
  have C0 := Lib.hid (C0.out.below hb)
  have R0 := Lib.hid (R0.out.below hb)
  have HB := Lib.hid (bcall HB.out hb)
  clear hb P1 T0 HT
  go_upto_region 2 with (refine wpList_storeS (b := w1.heap.size) (c := Kx.zero) (c' := p.1) (v := nilV) (q := qa) (n := l.length) (k := qk) rfl _ _ rfl rfl rfl (Bk.Bk.new 81 w1 (stC Kx.zero nilV)) ?_)
  change Code.wp _ _ _ _ ((w1.alloc (.cells (stC Kx.zero nilV) 81)).setRow w1.heap.size (stC p.1 (.slice qa l.length qk)))
  rw [World.setRow_alloc_new]
  have hlt1 := R0.out.lt
  have bel := balloc (Below.refl w1.heap.size w1) (.cells (stC p.1 (.slice qa l.length qk)) 81)
  have C0 := Lib.hid (C0.out.below bel)
  have R0 := Lib.hid (R0.out.below bel)
  have HB := Lib.hid (bcall HB.out bel)
  have HM := Lib.hid (hm.below bel)
  have HP := Lib.hid hp
  have G0 := Lib.hid (Bk.Bk.new 81 w1 (stC p.1 (.slice qa l.length qk)))
  clear bel hm hp
  generalize w1.alloc (.cells (stC p.1 (.slice qa l.length qk)) 81) = V at *
  generalize w1.heap.size = g at *
  by_cases he : p.2.2 = 0
  rotate_left
  · have HY := Lib.hid (HE.out he)
    have e1 : (p.2.2 == 0) = false := by simpa using he
    have e2 : (p.2.2 != 0) = true := by rw [bne, e1]; rfl
    clear he HE
    generalize p.2.2 = x at *
    go_wp2_with (first | (refine wpList_loadX (b := w.heap.size) (m := c) rfl _ rfl rfl C0.out ?_) | (refine wpList_storeX (b := w.heap.size + 1 + 1) (m := Kx.zero) (m' := c) rfl _ _ rfl rfl rfl R0.out ?_))
    exact bodyPost_ret (v := .tuple #[.agg c.cells, .slice none 0 0, .int .i64 x]) (results_three rfl _ _ (w.heap.size + 1 + 1) _ rfl (loadVarK shX (R0.out.put c.cells) rfl) (.slice none 0 0) rfl (.int .i64 x) rfl) rfl (AnsC.no HY.out (Box.below_setRow HB.out (by omega) _))
  obtain ⟨cc, ml, x⟩ := p
  simp only [] at *
  subst he
  clear HE
  have hcc : ∀ W', Bk 81 W' g (stC cc (.slice qa l.length qk)) → W'.cell? ⟨g, 7, none⟩ = some (.slice qa l.length qk) := fun W' h => h.cell 7 _ rfl
  go_upto_region 4 with fail
  refine wp_region_held_drew (S := fun W' => Bk 81 W' g (stC cc (.slice qa l.length qk))) (by kernel_rfl) G0.out.drew (fun hS => ?_)
  have R0 := Lib.hid (show Bk 35 V.drew (w.heap.size + 1 + 1) Kx.zero.cells from R0.out)
  have HM := Lib.hid (show MOwn W.heap.size V.drew qa l from HM.out.below (Below.refl _ V).drew)
  have HB := Lib.hid HB.out.drew
  clear G0
  generalize V.drew = X0 at *
  refine H.tk (i := 0) (v := .pointer (some ⟨g, 0, none⟩)) ?h0 hS ?_
  case h0 => exact (fun w hw => by go_simp)
  try simp only [Act.put, List.setIfInBounds_toArray, List.set_cons_zero, List.set_cons_succ]
  refine H.tk (i := 1) (v := .agg cc.cells) ?h1 hS ?_
  case h1 => exact (fun w hw => run_loadAt (x := .tmp 20) (l := cc.cells.toList) rfl rfl hw (ctx_in cc _) (aggX _) (sizeX _))
  try simp only [Act.put, List.setIfInBounds_toArray, List.set_cons_zero, List.set_cons_succ]
  refine H.tk (i := 2) (v := .pointer (some ⟨g, 7, none⟩)) ?h2 hS ?_
  case h2 => exact (fun w hw => by go_simp)
  try simp only [Act.put, List.setIfInBounds_toArray, List.set_cons_zero, List.set_cons_succ]
  refine H.tk (i := 3) (v := .slice qa l.length qk) ?h3 hS ?_
  case h3 => exact (fun w hw => by have c := hcc w hw; go_simp)
  try simp only [Act.put, List.setIfInBounds_toArray, List.set_cons_zero, List.set_cons_succ]
  have hS' := (show Bk 81 (X0.setRow (w.heap.size + 1 + 1) cc.cells) g (stC cc (.slice qa l.length qk)) from hS.row (by omega) _)
  refine Hx.H.storeRow (i := 4) (by simp only [List.getElem?_toArray, List.getElem?_cons_succ, List.getElem?_cons_zero]; rfl) (by kernel_rfl) rfl rfl (by kernel_rfl) (w.heap.size + 1 + 1) cc.cells rfl rfl 35 Kx.zero.cells R0.out infoX rfl (oneX cc) hS' ?_
  clear hS
  have hS := hS'
  clear hS'
  refine H.tk (i := 5) (v := .slice qa l.length qk) ?h5 hS ?_
  case h5 => exact (fun w hw => by go_simp)
  try simp only [Act.put, List.setIfInBounds_toArray, List.set_cons_zero, List.set_cons_succ]
  refine H.tk (i := 6) (v := (Value.int IntKind.i64 0)) (fun w _ => rfl) hS ?_
  try simp only [Act.put, List.setIfInBounds_toArray, List.set_cons_zero, List.set_cons_succ]
  refine wpAnyH_done (by kernel_rfl) ?_ _
  go_wp2_with fail
  exact bodyPost_ret (v := .tuple #[.agg cc.cells, .slice qa l.length qk, .int .i64 0]) (results_three rfl _ _ (w.heap.size + 1 + 1) _ rfl (loadVarK shX (R0.out.put cc.cells) rfl) (.slice qa l.length qk) rfl (.int .i64 0) rfl) rfl ⟨qa, qk, l, rfl, HP.out, (HM.out.under hlt _).mono (by omega), Box.below_setRow HB.out (by omega) _⟩
end Go.Proofs.YtpkmpinbpfblfaaGreatDoor.K6
namespace Go.Proofs.YtpkmpinbpfblfaaGreatDoor.Fq
open Go.ChangeShapes Go.WideShapes Go.ChangeAt Go.RowKit
open Go.Proofs.YtpkmpinbpfblfaaGreatDoor.Ms
open Go.Proofs.YtpkmpinbpfblfaaGreatDoor.Box
open Go.Proofs.YtpkmpinbpfblfaaGreatDoor.An
open Go.Proofs.YtpkmpinbpfblfaaGreatDoor.K1
open Go.Proofs.YtpkmpinbpfblfaaGreatDoor.Kb
open Go.Proofs.YtpkmpinbpfblfaaGreatDoor.I1
open Go.Proofs.YtpkmpinbpfblfaaGreatDoor.Lm
open Go.Proofs.YtpkmpinbpfblfaaGreatDoor.Tl (cellsT TRow)
open Go.Proofs.YtpkmpinbpfblfaaGreatDoor.Bk (Bk alloc_size)
set_option linter.unusedVariables false
set_option maxRecDepth 100000
set_option maxRecDepth 100000
/-- What a fold answers: messages (the list and their Subs are the call's own), what is known, a place, an error. -/
def AnsF (p : List M × Kx × Int × Int) (w : World) (e : Ending) (w' : World) : Prop :=
  ∃ a k l, e = .returned (.tuple #[.slice a l.length k, .agg p.2.1.cells, .int .i64 p.2.2.1, .int .i64 p.2.2.2]) ∧ PlL l p.1 ∧ MOwn w.heap.size w' a l ∧ Below w.heap.size w w' ∧ l.length ≤ k
theorem AnsF.no {p : List M × Kx × Int × Int} {w w' : World} {a e : Int} (h : p = ([], Kx.zero, a, e)) (hb : Below w.heap.size w w') : AnsF p w (.returned (.tuple #[.slice none 0 0, .agg Kx.zero.cells, .int .i64 a, .int .i64 e])) w' := by
  subst h
  exact ⟨none, 0, [], rfl, PlL.nil, MOwn.nil _ _ _, hb, Nat.le_refl _⟩
/-- What a datagram's parse answers: messages, a place, an error. -/
def AnsP (p : List M × Int × Int) (w : World) (e : Ending) (w' : World) : Prop :=
  ∃ a k l, e = .returned (.tuple #[.slice a l.length k, .int .i64 p.2.1, .int .i64 p.2.2]) ∧ PlL l p.1 ∧ MOwn w.heap.size w' a l ∧ Below w.heap.size w w'
theorem AnsP.no {p : List M × Int × Int} {w w' : World} {a e : Int} (h : p = ([], a, e)) (hb : Below w.heap.size w w') : AnsP p w (.returned (.tuple #[.slice none 0 0, .int .i64 a, .int .i64 e])) w' := by
  subst h
  exact ⟨none, 0, [], rfl, PlL.nil, MOwn.nil _ _ _, hb⟩
theorem PlL.app {a a' b b' : List M} (h : PlL a a') (k : PlL b b') : PlL (a ++ b) (a' ++ b') := by
  refine ⟨by rw [List.length_append, List.length_append, h.1, k.1], fun i hi hi' => ?_⟩
  by_cases hl : i < a.length
  · rw [List.getElem_append_left hl, List.getElem_append_left (by rw [← h.1]; exact hl)]
    exact h.2 i hl (by rw [← h.1]; exact hl)
  · rw [List.getElem_append_right (by omega), List.getElem_append_right (by have := h.1; omega)]
    have hk := k.2 (i - a.length) (by rw [List.length_append] at hi; omega) (by rw [List.length_append] at hi'; have := h.1; omega)
    simpa only [h.1] using hk
theorem tl_at {w : World} {a : Option Addr} {l : List F1.T} (h : TRow w a l) (k : Nat) (hk : k < l.length) : ∃ p : Addr, a = some p ∧ ∀ W, Below w.heap.size w W →
    W.cell? (p.add (k * 3)) = some (.int .i64 l[k].2.2) ∧ W.cell? ((p.add (k * 3)).add 1) = some (.int .i64 l[k].1) ∧ W.cell? ((p.add (k * 3)).add 2) = some (.string l[k].2.1) := by
  obtain ⟨p, rfl, _⟩ := h k hk
  refine ⟨p, rfl, fun W hb => ?_⟩
  obtain ⟨q, e, _, c0, c1, c2⟩ := (h.below hb) k hk
  obtain rfl := Option.some.inj e
  exact ⟨c0, c1, c2⟩
theorem ex_loadT {o : Oper} {ρ : Operand → Value} {x : Operand} {q : Addr} {u : F1.T} {w : World} (ho : o.op = .load 31 x) (hx : ρ x = .pointer (some q))
    (h : w.cell? q = some (.int .i64 u.2.2) ∧ w.cell? (q.add 1) = some (.int .i64 u.1) ∧ w.cell? (q.add 2) = some (.string u.2.1)) : (execOp ρ o).run Tryz.prog w = .ok (.value (.agg (cellsT u))) w := by
  have hl : (loadCells q 3).run Tryz.prog w = .ok (cellsT u) w := by
    have := run_loadCells_list (P := Tryz.prog) w q (cellsT u).toList (fun j v hv => by
      match j, hv with
      | 0, hv => exact h.1.trans hv
      | 1, hv => exact h.2.1.trans hv
      | 2, hv => exact h.2.2.trans hv
      | j + 3, hv => cases hv)
    rw [show (cellsT u).toList.length = 3 from rfl] at this
    rw [this]
  have hagg : (isAgg 31).run Tryz.prog w = .ok true w := by go_simp
  have hsz : (sizeOf 31).run Tryz.prog w = .ok 3 w := by go_simp
  unfold execOp
  simp only [ho, hx, Instr.loadAt, Instr.sureAddr, Sem.run_bind, Sem.run_pure, Result.andThen_ok, loadVar, hagg, if_true, hsz, hl]
/-- TLVs as Split tells them. -/
def okL (l : List F1.T) : Prop := ∀ x ∈ l, 0 ≤ x.2.2 ∧ x.2.2 ≤ 255 ∧ x.2.1.size ≤ 255
/-- The result's box, and what is known. -/
structure Fo (w : World) (c : Kx) (W : World) : Prop where
  r0 : Bk 35 W w.heap.size Kx.zero.cells
  c0 : Bk 35 W (w.heap.size + 1) c.cells
  bel : Below w.heap.size w W
theorem Fo.call {w V W : World} {c : Kx} (h : Fo w c V) (hb : Below V.heap.size V W) : Fo w c W := ⟨h.r0.below hb, h.c0.below hb, bcall h.bel hb⟩
theorem Fo.start (w : World) : Fo w Kx.zero ((w.alloc (.cells Kx.zero.cells 35)).alloc (.cells Kx.zero.cells 35)) := by
  refine ⟨(Bk.Bk.new 35 w Kx.zero.cells).old _, ?_, balloc (balloc (Below.refl _ w) _) _⟩
  have := Bk.Bk.new 35 (w.alloc (.cells Kx.zero.cells 35)) Kx.zero.cells
  rw [alloc_size] at this
  exact this
theorem Fo.put {w V : World} {c : Kx} (h : Fo w c V) (x : Kx) : Fo w x (V.setRow (w.heap.size + 1) x.cells) := ⟨h.r0.row (by omega) _, h.c0.put x.cells, Box.below_setRow h.bel (by omega) _⟩
/-- One round: what was told so far, and this TLV's. -/
theorem fold_step {l : List F1.T} {c : Kx} {o : List M} {k : Nat} (hk : k < l.length) (h : outI l = foldI (l.drop k) c o) :
    ((one c l[k].2.2 l[k].2.1).2.2 = 0 → outI l = foldI (l.drop (k + 1)) (one c l[k].2.2 l[k].2.1).1 (o ++ (one c l[k].2.2 l[k].2.1).2.1)) ∧
    (¬ (one c l[k].2.2 l[k].2.1).2.2 = 0 → outI l = ([], Kx.zero, l[k].1, (one c l[k].2.2 l[k].2.1).2.2)) := by
  rw [List.drop_eq_getElem_cons hk] at h
  refine ⟨fun h0 => ?_, fun h0 => h.trans (fold_err h0)⟩
  rcases hp : one c l[k].2.2 l[k].2.1 with ⟨c', r, e⟩
  rw [hp] at h0
  obtain rfl : e = 0 := h0
  exact h.trans (fold_ok hp)
theorem fold_done {l : List F1.T} {c : Kx} {o : List M} (h : outI l = foldI (l.drop l.length) c o) : outI l = (o, c, 0, 0) := by rw [h, List.drop_length]; rfl
theorem one_few {c : Kx} (hc : okC c = true) (t : Int) (d : ByteArray) : (one c t d).2.1.length ≤ 1 := by
  rcases (one_fine hc t d).told with h | ⟨m, h, _⟩ <;> rw [h] <;> simp
end Go.Proofs.YtpkmpinbpfblfaaGreatDoor.Fq
namespace Go.Proofs.YtpkmpinbpfblfaaGreatDoor.I2
open Go.ChangeShapes Go.WideShapes Go.ChangeAt Go.RowKit
open Go.Proofs.YtpkmpinbpfblfaaGreatDoor.Ms
open Go.Proofs.YtpkmpinbpfblfaaGreatDoor.K1
open Go.Proofs.YtpkmpinbpfblfaaGreatDoor.I1
open Go.Proofs.YtpkmpinbpfblfaaGreatDoor.F1
set_option linter.unusedVariables false
set_option maxRecDepth 100000
set_option maxRecDepth 100000

theorem placed_map : ∀ (l : List F1.El) (p : Int), (placed p l).map (·.2) = l
  | [], p => rfl
  | x :: l, p => by
      show x :: (placed _ l).map (·.2) = x :: l
      rw [placed_map l]
/-- What Split tells: few TLVs, of few bytes. -/
theorem split_few (p : Int) (s : ByteArray) : (outT p s).1.length ≤ s.size ∧ ∀ x ∈ (outT p s).1, 0 ≤ x.2.2 ∧ x.2.2 ≤ 255 ∧ x.2.1.size ≤ 255 := by
  refine ⟨out_size p s, fun x hx => ?_⟩
  rcases out_cases p s with ⟨l, ho, _, hl⟩ | ⟨l, r, _, _, _, _, hl⟩
  · rw [hl] at hx
    have h := ho x.2 (by rw [← placed_map l p]; exact List.mem_map_of_mem hx)
    exact ⟨h.1, h.2.1, h.2.2.1⟩
  · rw [hl] at hx; exact absurd hx (by simp)
theorem outB_two (b : ByteArray) : (∃ i e, ¬ e = 0 ∧ outB b = (⟨#[]⟩, i, e)) ∨ ∃ s, head b = none ∧ outB b = (s, 0, 0) ∧ s.size ≤ b.size := by
  unfold outB
  rcases hh : head b with _ | ⟨i, x⟩
  · exact .inr ⟨_, rfl, rfl, by simp; omega⟩
  · refine .inl ⟨i, x, ?_, rfl⟩
    intro h0
    subst h0
    unfold head at hh
    repeat' (split at hh)
    all_goals (first | (injection hh with hh; injection hh with _ hh; exact absurd hh (by omega)) | cases hh)
theorem outP_len (b : ByteArray) : (outP b).1.length ≤ b.size := by
  rcases outB_two b with ⟨i, e, he, h1⟩ | ⟨s, hh, h1, hz⟩
  · rw [outP_1 (by rw [h1]; exact he)]; exact Nat.zero_le _
  by_cases h2 : (outT 4 s).2.2 = 0
  rotate_left
  · rw [outP_2 h1 h2]; exact Nat.zero_le _
  by_cases h3 : (outT (4 + (s.size : Int)) (trail b)).2.2 = 0
  rotate_left
  · rw [outP_3 h1 h2 h3]; exact Nat.zero_le _
  rw [outP_4 h1 h2 h3]
  have hl := (split_few 4 s).1
  rcases I1.out_cases (outT 4 s).1 with ⟨r, c, h, _, h4, _⟩ | ⟨a, e, _, h⟩
  · rw [h]; show r.length ≤ b.size; omega
  · rw [h]; exact Nat.zero_le _
theorem outI_len (l : List T) : (outI l).1.length ≤ l.length := by
  rcases I1.out_cases l with ⟨r, c, h, _, h4, _⟩ | ⟨a, e, _, h⟩
  · rw [h]; exact h4
  · rw [h]; exact Nat.zero_le _
end Go.Proofs.YtpkmpinbpfblfaaGreatDoor.I2
namespace Go.Proofs.YtpkmpinbpfblfaaGreatDoor.G2
open Go.ChangeShapes Go.WideShapes Go.ChangeAt Go.RowKit
open Go.Proofs.YtpkmpinbpfblfaaGreatDoor.Ms
open Go.Proofs.YtpkmpinbpfblfaaGreatDoor.Box
open Go.Proofs.YtpkmpinbpfblfaaGreatDoor.S1
open Go.Proofs.YtpkmpinbpfblfaaGreatDoor.Lk
open Go.Proofs.YtpkmpinbpfblfaaGreatDoor.G1
open Go.Proofs.YtpkmpinbpfblfaaGreatDoor.An
open Go.Proofs.YtpkmpinbpfblfaaGreatDoor.Tc
open Go.Proofs.YtpkmpinbpfblfaaGreatDoor.Oct (fitsB)
open Go.Proofs.YtpkmpinbpfblfaaGreatDoor.Hs (run_loadM)
open Go.Proofs.YtpkmpinbpfblfaaGreatDoor.Or (st_yes)
set_option linter.unusedVariables false
set_option maxRecDepth 100000
set_option maxRecDepth 100000
theorem bool_eq {a b : Bool} (h : a = b) : Ending.returned (.bool a) = .returned (.bool b) := by rw [h]
theorem ae_any (n : Int) (w : World) : Calls Tryz.prog 91 #[.int .i64 n] w fun e w' => e = .returned (.bool (decide (0 ≤ n ∧ n ≤ 3))) ∧ w = w' := by
  by_cases h0 : 0 ≤ n
  rotate_left
  · rw [decide_eq_false (fun h => h0 h.1)]
    go_enter Tryz.func91, Tryz.ntmps91
    go_wp2
    go_ret
    exact ⟨rfl, rfl⟩
  by_cases h1 : n ≤ 3
  rotate_left
  · rw [decide_eq_false (fun h => h1 h.2)]
    go_enter Tryz.func91, Tryz.ntmps91
    go_wp2
    go_ret
    exact ⟨bool_eq (decide_eq_false (by omega)), rfl⟩
  rw [decide_eq_true ⟨h0, h1⟩]
  go_enter Tryz.func91, Tryz.ntmps91
  go_wp2
  go_ret
  exact ⟨bool_eq (decide_eq_true (by omega)), rfl⟩
theorem lengthen_any (ae : Int) (s : ByteArray) (w : World) : Calls Tryz.prog 92 #[.int .i64 ae, .string s] w fun e w' => e = .returned (.string (lgT ae s)) ∧ w = w' := by
  by_cases h3 : ae = 3
  · subst h3
    have P := Lib.hid (fun V => long_any s V)
    have HZ := Lib.hid (show lgT 3 s = lgA s from rfl)
    go_enter Tryz.func92, Tryz.ntmps92
    go_wp2_with fail
    refine (P.out _).mono ?_
    rintro e w' ⟨rfl, rfl⟩
    go_wp2
    go_ret
    exact ⟨by rw [HZ.out]; rfl, rfl⟩
  have HZ := Lib.hid (show lgT ae s = s by unfold lgT; rw [if_neg h3])
  have hn : (ae == 3) = false := by simpa using h3
  have hn2 : (ae != 3) = true := by rw [bne, hn]; rfl
  go_enter Tryz.func92, Tryz.ntmps92
  go_wp2
  go_ret
  exact ⟨by rw [HZ.out]; rfl, rfl⟩
end Go.Proofs.YtpkmpinbpfblfaaGreatDoor.G2
