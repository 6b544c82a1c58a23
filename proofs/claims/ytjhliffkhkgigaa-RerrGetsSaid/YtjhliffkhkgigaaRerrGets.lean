/-
  The statement RerrGets, of any bytes. No conditions.
-/
import Derived.Test.YtjhliffkhkgigaaY6
import Derived.Test.YtjhliffkhkgigaaOpen
namespace Go.Proofs.Ytjhliffkhkgigaa.rerrGets
open Go.ChangeShapes Go.WideShapes Go.ChangeAt Go.RowKit
open Go.ChangeMaps (open_string shut_string)
open Go.Proofs.Ytjhliffkhkgigaa.Ms
open Go.Proofs.Ytjhliffkhkgigaa.Box
open Go.Proofs.Ytjhliffkhkgigaa.Xv
open Go.Proofs.Ytjhliffkhkgigaa.Y1
open Go.Proofs.Ytjhliffkhkgigaa.Am
open Go.Proofs.Ytjhliffkhkgigaa.Y6
open Go.Proofs.Ytjhliffkhkgigaa.Hs
open Go.Proofs.Ytjhliffkhkgigaa.Open
set_option linter.unusedVariables false

open Go.Proofs.Ytjhliffkhkgigaa.Or (st_yes)
open Go.Proofs.Ytjhliffkhkgigaa.Xc (idx)
open Go.Proofs.Ytjhliffkhkgigaa.Own (ownM)

set_option maxHeartbeats 6400000 in
set_option maxRecDepth 100000 in
theorem walk (b : ByteArray) (w : World) (hm : b.size ≤ maxLen) :
    Calls Try.prog 4 #[.string b] w fun r w' => r = .returned (.bool true) ∧ Below w.heap.size w w' := by
  unfold maxLen at hm
  have HB := Lib.hid (Below.refl w.heap.size w)
  by_cases hs : 3000 < b.size
  · go_enter Try.func4, Try.ntmps4
    go_wp2_with fail
    refine (awake_any _).mono ?_
    rintro r w1 ⟨rfl, hb⟩
    have HB := Lib.hid (bcall HB.out hb)
    clear hb
    go_wp2
    go_ret
    exact ⟨rfl, HB.out⟩
  have k1 : ¬ 3000 < (b.size : Int) := by omega
  by_cases h0 : b.size = 0
  · have k2 : (b.size : Int) = 0 := by omega
    go_enter Try.func4, Try.ntmps4
    go_wp2_with fail
    refine (awake_any _).mono ?_
    rintro r w1 ⟨rfl, hb⟩
    have HB := Lib.hid (bcall HB.out hb)
    clear hb
    go_wp2
    go_ret
    exact ⟨rfl, HB.out⟩
  have k2 : ¬ (b.size : Int) = 0 := by omega
  have i0 := idx b 0 0 rfl (by omega)
  have n0 := bt_nn b 0
  have l0 := bt_lt b 0
  by_cases h1 : bt b 0 = 3
  rotate_left
  · generalize bt b 0 = y at *
    have k3 : (y == 3) = false := by simpa using h1
    clear n0 l0
    go_enter Try.func4, Try.ntmps4
    go_wp2_with fail
    refine (awake_any _).mono ?_
    rintro r w1 ⟨rfl, hb⟩
    have HB := Lib.hid (bcall HB.out hb)
    clear hb
    go_wp2
    go_ret
    exact ⟨rfl, HB.out⟩
  rw [h1] at i0
  have P1 := Lib.hid (fun W => Y4.get_any b W (by omega))
  have P2 := Lib.hid (fun W => Y4.rget_any b W (by omega))
  have HL := Lib.hid (show (outE b).1.ll.length ≤ 255 ∧ (outE b).1.sl.length ≤ 3000 from ⟨(out_parts b).1, by have := (out_parts b).2; omega⟩)
  generalize outE b = p at *
  obtain ⟨q, i, x⟩ := p
  simp only [] at HL
  have e1 : (i == i) = true := by simp
  have e2 : (x == x) = true := by simp
  clear h1 n0 l0
  go_enter Try.func4, Try.ntmps4
  go_wp2_with fail
  refine (P1.out _).mono ?_
  intro r w1 hr
  obtain ⟨n1, rfl, hi, hp, hb⟩ := hr.at (Nat.le_trans HL.out.1 (by decide)) (Nat.le_trans HL.out.2 (by decide))
  have HB := Lib.hid (bcall HB.out hb)
  clear hr P1
  go_upto_region 4 with (refine wpList_storeM (b := w1.heap.size) (m := M.zero) (m' := n1) rfl _ _ rfl rfl rfl (Bx.new w1 M.zero) ?_)
  change Code.wp _ _ _ _ ((w1.alloc (.cells M.zero.cells 25)).setRow w1.heap.size n1.cells)
  rw [World.setRow_alloc_new]
  have I1 := Lib.hid (hi.below (balloc (Below.refl _ w1) (.cells n1.cells 25)))
  have HB := Lib.hid (balloc HB.out (.cells n1.cells 25))
  have X1 := Lib.hid (Bx.new w1 n1)
  have H1 := Lib.hid hp
  clear hi hp hb
  generalize w1.alloc (.cells n1.cells 25) = V1 at *
  generalize w1.heap.size = g1 at *
  go_wp2_with fail
  refine (P2.out _).mono ?_
  intro r w2 hr
  obtain ⟨n2, rfl, hi, hp, hb⟩ := hr.at (Nat.le_trans HL.out.1 (by decide)) (Nat.le_trans HL.out.2 (by decide))
  have X1 := Lib.hid (X1.out.below hb)
  have I1 := Lib.hid (I1.out.below hb)
  have HB := Lib.hid (bcall HB.out hb)
  clear hr P2
  go_upto_region 5 with (refine wpList_storeM (b := w2.heap.size) (m := M.zero) (m' := n2) rfl _ _ rfl rfl rfl (Bx.new w2 M.zero) ?_)
  change Code.wp _ _ _ _ ((w2.alloc (.cells M.zero.cells 25)).setRow w2.heap.size n2.cells)
  rw [World.setRow_alloc_new]
  have X1 := Lib.hid (X1.out.below (balloc (Below.refl _ w2) (.cells n2.cells 25)))
  have I1 := Lib.hid (I1.out.below (balloc (Below.refl _ w2) (.cells n2.cells 25)))
  have I2 := Lib.hid (hi.below (balloc (Below.refl _ w2) (.cells n2.cells 25)))
  have HB := Lib.hid (balloc HB.out (.cells n2.cells 25))
  have X2 := Lib.hid (Bx.new w2 n2)
  have H2 := Lib.hid hp
  clear hi hp hb
  generalize w2.alloc (.cells n2.cells 25) = V2 at *
  generalize w2.heap.size = g2 at *
  have PS := Lib.hid (fun W h h' => RSame.rsame_any n1 n2 W h h')
  rw [H1.out.same H2.out, same_self] at PS
  go_wp2_with fail
  refine (awake_any _).mono ?_
  rintro r w3 ⟨rfl, hb⟩
  have X1 := Lib.hid (X1.out.below hb)
  have I1 := Lib.hid (I1.out.below hb)
  have X2 := Lib.hid (X2.out.below hb)
  have I2 := Lib.hid (I2.out.below hb)
  have HB := Lib.hid (bcall HB.out hb)
  clear hb
  go_wp2_with (first | (refine st_yes (v := .agg (M.cells n1)) (by rfl) rfl (run_loadM (x := .tmp 3) rfl rfl X1.out) ?_) | (refine st_yes (v := .agg (M.cells n2)) (by rfl) rfl (run_loadM (x := .tmp 6) rfl rfl X2.out) ?_))
  refine (PS.out _ I1.out I2.out).mono ?_
  rintro r w4 ⟨rfl, hb⟩
  have HB := Lib.hid (bcall HB.out hb)
  clear hb
  go_wp2
  go_ret
  exact ⟨rfl, HB.out⟩

theorem own : ownKnob Try.prog.godebug = none := by kernel_rfl

set_option maxRecDepth 100000 in
theorem lifted (os : Os) (started : os.Started) (H : Type) (enc : TypeId × Value → H) :
    ReturnsInHanded {} Try.checked os 4 .any (Rows.rerrGetsSpec.pre6 enc Try.prog Try.f4 Rows.rerrGetsRow.domain false) (Rows.rerrGetsSpec.post enc Try.prog Try.f4 false true false false) := by
  refine returnsInHanded_of_change (C := Try.checked) own started (by kernel_rfl) Try.func4
    (ChangeSpec.witness6 (enc := enc) (C := Try.checked) false ⟨#[], #[.string ByteArray.empty], []⟩ 8 (by kernel_rfl) (by kernel_rfl) (by kernel_rfl) (by kernel_rfl)) ?_
  intro W base args ds gs before hval0 hW hcnd _
  have hval : ∀ (j : Nat) t v, Try.f4.params[j]? = some t → args[j]? = some v → Value.okWide Try.prog W .any base t v := hval0
  have hW' := hW
  have hlt := fun x hx => hW'.lt x hx
  obtain ⟨p, q, hA0, hV, rfl, hfz, hnd⟩ := hW
  have hA : DataW.TrodAll enc Try.prog W 0 (fun _ => true) true Try.f4.params.toList args.toList ds p := hA0
  rw [Try.params4] at hA hval
  obtain ⟨v0, vs0, d0, ds0, p0, q0, hargs, rfl, rfl, h0, r0⟩ := trodAll_cons hA
  obtain ⟨rfl, rfl, rfl⟩ := trodAll_nil r0
  obtain rfl : args = #[v0] := by cases args; simp_all
  obtain ⟨rfl, rfl⟩ := trodVars_none hV
  have k0 := h0
  obtain ⟨b, rfl, rfl, rfl, ws⟩ := open_string Try.underlying9 (hval 0 9 v0 rfl rfl) k0
  clear hA0 hval0
  simp only [List.append_nil] at hW' hlt
  refine (walk b W ws).mono fun e W' ⟨he, hg⟩ => ?_
  subst he
  exact ⟨_, rfl, _, _, _, [], _, [], hW', trodAll_mk1 (shut_bool Try.underlying4 _), (trodAll_cons_mk (again (by kernel_rfl) (of_decide_eq_true (by kernel_rfl)) h0 hg fun x hx => hlt x (by first | exact absurd hx (by simp) | simp [hx])) trodAll_mk0), rfl, hg.frame _, fun h => by cases h⟩

theorem over : Rows.rerrGetsRow.holds Try.pinned (OpenSpec.ofChange Rows.rerrGetsSpec) :=
  OpenClaim.holds_of_wide 4 Try.f4 rfl rfl rfl rfl rfl rfl rfl ⟨rfl, rfl, rfl, rfl, rfl⟩ rfl rfl rfl rfl rfl (by kernel_rfl) Try.func4 (by kernel_rfl)
    (of_decide_eq_true (by kernel_rfl)) (by unfold Func.isWrapper; first | (rw [if_pos (by decide +kernel)]; kernel_rfl) | (rw [if_neg (by decide +kernel)]; exact ⟨rfl, rfl⟩))
    (fun os started H enc _ => lifted os started H enc)

theorem proved : Rows.RerrGetsSaid :=
  over
#print axioms proved
end Go.Proofs.Ytjhliffkhkgigaa.rerrGets
