/-
  The statement RteBack, of any text and any entry. No conditions.
-/
import Derived.Test.YtnkiddpglohmiaaRq
namespace Go.Proofs.Ytnkiddpglohmiaa.rteBack
open Go.ChangeShapes Go.WideShapes Go.ChangeAt Go.RowKit
open Go.ChangeMaps (open_string shut_string)
open Go.Proofs.Ytnkiddpglohmiaa.Cur
open Go.Proofs.Ytnkiddpglohmiaa.Bk
open Go.Proofs.Ytnkiddpglohmiaa.Rte
set_option linter.unusedVariables false

set_option maxHeartbeats 1600000 in
theorem walk (s : ByteArray) (e : E) (w : World) (hs : s.size ≤ maxLen) (he : OkE e) :
    Calls Try.prog 4 #[.string s, .agg e.cells] w fun r w' => r = .returned (.bool true) ∧ Below w.heap.size w w' := by
  have h0 := Bk.new 23 w e.cells
  have b0 := (Below.refl w.heap.size w).alloc (Nat.le_refl _) (.cells e.cells 23)
  have hs2 := hs
  unfold maxLen at hs2
  obtain ⟨m1, m2, m3⟩ := id he
  unfold maxLen at m1 m2 m3
  have PA := Lib.hid (fun W => awake_any W)
  have PG := Lib.hid (fun W => get_any s W hs)
  have HU : Hid ((putE e).size ≤ maxLen) := Lib.hid (put_len e)
  have PU := Lib.hid (fun W => get_any (putE e) W HU.out)
  have PP := Lib.hid (fun W => put_any e W he)
  have HR : Hid (okE e = true → getB (putE e) = true ∧ getE (putE e) = e) := Lib.hid (fun h => by
    obtain ⟨h1, h2⟩ := put_back e h
    unfold getB getE
    rw [if_pos h1, decide_eq_true h1]
    exact ⟨rfl, h2⟩)
  have HN : Hid (okE e = false → putE e = ⟨#[]⟩) := Lib.hid (put_none e)
  have HS : Hid (s.size = 20 → okE (getE s) = true ∧ putE (getE s) = s) := Lib.hid (fun h => by
    unfold getE
    rw [if_pos h]
    exact of_back s h)
  have HZ := get_ok s hs
  have PB := Lib.hid (fun W => put_any (getE s) W HZ)
  have HP : Hid (getB s = decide (s.size = 20)) := Lib.hid rfl
  clear HU HZ
  generalize getE s = g at PG PB HS
  generalize getB s = p at PG HP
  generalize putE e = u at PP PU HR HN
  generalize okE e = r at PP HR HN
  generalize getE u = b at PU HR
  generalize getB u = is at PU HR
  generalize putE g = t at PB HS
  generalize okE g = q at PB HS
  go_enter Try.func4, Try.ntmps4
  go_upto_region 1 with fail
  generalize w.alloc _ = W at *
  have c2 := h0.cell 2 (.string e.addr) rfl
  have c3 := h0.cell 3 (.string e.mask) rfl
  have c4 := h0.cell 4 (.string e.next) rfl
  by_cases q1 : 100 < s.size
  · go_wp2_with fail
    refine (awake_any _).mono ?_
    rintro r w1 ⟨rfl, hb⟩
    go_wp2
    go_ret
    exact ⟨rfl, b0.trans (hb.mono b0.size)⟩
  by_cases q2 : 100 < wrap64 ((e.addr.size : Int) + (e.mask.size : Int))
  · go_wp2_with fail
    refine (awake_any _).mono ?_
    rintro r w1 ⟨rfl, hb⟩
    go_wp2
    go_ret
    exact ⟨rfl, b0.trans (hb.mono b0.size)⟩
  by_cases q3 : 100 < e.next.size
  · go_wp2_with fail
    refine (awake_any _).mono ?_
    rintro r w1 ⟨rfl, hb⟩
    go_wp2
    go_ret
    exact ⟨rfl, b0.trans (hb.mono b0.size)⟩
  go_wp2_with fail
  refine (PG.out _).mono ?_
  rintro r w1 ⟨rfl, hb⟩
  have h1 := h0.below hb
  have b1 := b0.trans (hb.mono b0.size)
  clear c2 c3 c4 hb h0 b0 q1 q2 q3 m1 m2 m3
  go_upto_region 4 with (first | (refine wpList_storeK (b := w1.heap.size) shE rfl _ _ rfl rfl rfl (Bk.new 23 w1 E.zero.cells) rfl rfl (E.one g) ?_))
  have a1 := laid_new 23 w1 E.zero.cells g.cells
  replace h1 := laid_old h1 23 E.zero.cells g.cells
  replace b1 := laid_below b1 b1.size 23 E.zero.cells g.cells
  change Code.wp _ _ _ _ ((w1.alloc (.cells E.zero.cells 23)).setRow w1.heap.size g.cells)
  generalize (w1.alloc _).setRow _ _ = W2 at *
  generalize w1.heap.size = k1 at *
  go_wp2_with (first | (refine wpList_loadK (b := k1) shE rfl _ rfl rfl a1 rfl ?_))
  refine (PB.out _).mono ?_
  rintro r w2 ⟨rfl, hb⟩
  have h2 := h1.below hb
  have b2 := b1.trans (hb.mono b1.size)
  clear hb h1 a1 b1
  by_cases hq : s.size = 20
  · obtain ⟨rfl, rfl⟩ := HS.out hq
    have hp := HP.out
    rw [decide_eq_true hq] at hp
    subst hp
    clear HP HS
    go_upto_region 7 with fail
    go_wp2_with (first | (refine wpList_loadK (b := w.heap.size) shE rfl _ rfl rfl h2 rfl ?_))
    refine (PP.out _).mono ?_
    rintro r' w3 ⟨rfl, hb⟩
    have h3 := h2.below hb
    have b3 := b2.trans (hb.mono b2.size)
    clear hb h2 b2
    go_wp2_with fail
    refine (PU.out _).mono ?_
    rintro r' w4 ⟨rfl, hb⟩
    have h4 := h3.below hb
    have b4 := b3.trans (hb.mono b3.size)
    clear hb h3 b3
    go_upto_region 9 with (first | (refine wpList_storeK (b := w4.heap.size) shE rfl _ _ rfl rfl rfl (Bk.new 23 w4 E.zero.cells) rfl rfl (E.one b) ?_))
    have a4 := laid_new 23 w4 E.zero.cells b.cells
    replace h4 := laid_old h4 23 E.zero.cells b.cells
    replace b4 := laid_below b4 b4.size 23 E.zero.cells b.cells
    change Code.wp _ _ _ _ ((w4.alloc (.cells E.zero.cells 23)).setRow w4.heap.size b.cells)
    generalize (w4.alloc _).setRow _ _ = W5 at *
    generalize w4.heap.size = k4 at *
    cases r
    · have hu := HN.out rfl
      subst hu
      clear PP PU PG PB HN HR
      go_wp2_with fail
      refine (PA.out _).mono ?_
      rintro r' w5 ⟨rfl, hb⟩
      have b5 := b4.trans (hb.mono b4.size)
      go_wp2
      go_ret
      exact ⟨rfl, b5⟩
    · obtain ⟨rfl, rfl⟩ := HR.out rfl
      clear PP PU PG PB HN HR
      go_wp2_with fail
      refine (PA.out _).mono ?_
      rintro r' w5 ⟨rfl, hb⟩
      have b5 := b4.trans (hb.mono b4.size)
      have a5 := Lib.hid (a4.below hb)
      have h5 := Lib.hid (h4.below hb)
      clear hb a4 h4 b4
      have c0 := a5.out.cell 0 (.int .i64 b.fam) rfl
      have c1 := a5.out.cell 1 (.int .i64 b.tag) rfl
      have c2 := a5.out.cell 2 (.string b.addr) rfl
      have c3 := a5.out.cell 3 (.string b.mask) rfl
      have c4 := a5.out.cell 4 (.string b.next) rfl
      have c5 := a5.out.cell 5 (.int .i64 b.met) rfl
      have d0 := h5.out.cell 0 (.int .i64 b.fam) rfl
      have d1 := h5.out.cell 1 (.int .i64 b.tag) rfl
      have d2 := h5.out.cell 2 (.string b.addr) rfl
      have d3 := h5.out.cell 3 (.string b.mask) rfl
      have d4 := h5.out.cell 4 (.string b.next) rfl
      have d5 := h5.out.cell 5 (.int .i64 b.met) rfl
      go_wp2
      go_ret
      exact ⟨rfl, b5⟩
  · have hp := HP.out
    rw [decide_eq_false hq] at hp
    subst hp
    clear HP HS
    go_upto_region 7 with fail
    go_wp2_with (first | (refine wpList_loadK (b := w.heap.size) shE rfl _ rfl rfl h2 rfl ?_))
    refine (PP.out _).mono ?_
    rintro r' w3 ⟨rfl, hb⟩
    have h3 := h2.below hb
    have b3 := b2.trans (hb.mono b2.size)
    clear hb h2 b2
    go_wp2_with fail
    refine (PU.out _).mono ?_
    rintro r' w4 ⟨rfl, hb⟩
    have h4 := h3.below hb
    have b4 := b3.trans (hb.mono b3.size)
    clear hb h3 b3
    go_upto_region 9 with (first | (refine wpList_storeK (b := w4.heap.size) shE rfl _ _ rfl rfl rfl (Bk.new 23 w4 E.zero.cells) rfl rfl (E.one b) ?_))
    have a4 := laid_new 23 w4 E.zero.cells b.cells
    replace h4 := laid_old h4 23 E.zero.cells b.cells
    replace b4 := laid_below b4 b4.size 23 E.zero.cells b.cells
    change Code.wp _ _ _ _ ((w4.alloc (.cells E.zero.cells 23)).setRow w4.heap.size b.cells)
    generalize (w4.alloc _).setRow _ _ = W5 at *
    generalize w4.heap.size = k4 at *
    cases r
    · have hu := HN.out rfl
      subst hu
      clear PP PU PG PB HN HR
      go_wp2_with fail
      refine (PA.out _).mono ?_
      rintro r' w5 ⟨rfl, hb⟩
      have b5 := b4.trans (hb.mono b4.size)
      go_wp2
      go_ret
      exact ⟨rfl, b5⟩
    · obtain ⟨rfl, rfl⟩ := HR.out rfl
      clear PP PU PG PB HN HR
      go_wp2_with fail
      refine (PA.out _).mono ?_
      rintro r' w5 ⟨rfl, hb⟩
      have b5 := b4.trans (hb.mono b4.size)
      have a5 := Lib.hid (a4.below hb)
      have h5 := Lib.hid (h4.below hb)
      clear hb a4 h4 b4
      have c0 := a5.out.cell 0 (.int .i64 b.fam) rfl
      have c1 := a5.out.cell 1 (.int .i64 b.tag) rfl
      have c2 := a5.out.cell 2 (.string b.addr) rfl
      have c3 := a5.out.cell 3 (.string b.mask) rfl
      have c4 := a5.out.cell 4 (.string b.next) rfl
      have c5 := a5.out.cell 5 (.int .i64 b.met) rfl
      have d0 := h5.out.cell 0 (.int .i64 b.fam) rfl
      have d1 := h5.out.cell 1 (.int .i64 b.tag) rfl
      have d2 := h5.out.cell 2 (.string b.addr) rfl
      have d3 := h5.out.cell 3 (.string b.mask) rfl
      have d4 := h5.out.cell 4 (.string b.next) rfl
      have d5 := h5.out.cell 5 (.int .i64 b.met) rfl
      go_wp2
      go_ret
      exact ⟨rfl, b5⟩

theorem own : ownKnob Try.prog.godebug = none := by kernel_rfl

set_option maxRecDepth 100000 in
theorem lifted (os : Os) (started : os.Started) (H : Type) (enc : TypeId × Value → H) :
    ReturnsInHanded {} Try.checked os 4 .any (Rows.rteBackSpec.pre6 enc Try.prog Try.f4 Rows.rteBackRow.domain false) (Rows.rteBackSpec.post enc Try.prog Try.f4 false true false false) := by
  refine returnsInHanded_of_change (C := Try.checked) own started (by kernel_rfl) Try.func4
    (ChangeSpec.witness6 (enc := enc) (C := Try.checked) false ⟨#[], #[.string ByteArray.empty, .agg E.zero.cells], []⟩ 8 (by kernel_rfl) (by kernel_rfl) (by kernel_rfl) (by kernel_rfl)) ?_
  intro W base args ds gs before hval0 hW hcnd _
  have hval : ∀ (j : Nat) t v, Try.f4.params[j]? = some t → args[j]? = some v → Value.okWide Try.prog W .any base t v := hval0
  have hW' := hW
  have hlt := fun x hx => hW'.lt x hx
  obtain ⟨p, q, hA0, hV, rfl, hfz, hnd⟩ := hW
  have hA : DataW.TrodAll enc Try.prog W 0 (fun _ => true) true Try.f4.params.toList args.toList ds p := hA0
  rw [Try.params4] at hA hval
  obtain ⟨v0, vs0, d0, ds0, p0, q0, hargs, rfl, rfl, h0, r0⟩ := trodAll_cons hA
  obtain ⟨v1, vs1, d1, ds1, p1, q1, rfl, rfl, rfl, h1, r1⟩ := trodAll_cons r0
  obtain ⟨rfl, rfl, rfl⟩ := trodAll_nil r1
  obtain rfl : args = #[v0, v1] := by cases args; simp_all
  obtain ⟨rfl, rfl⟩ := trodVars_none hV
  have k0 := h0
  obtain ⟨s, rfl, rfl, rfl, ws⟩ := open_string Try.underlying9 (hval 0 9 v0 rfl rfl) k0
  obtain ⟨e, rfl, he⟩ := by_entry (hval 1 23 v1 rfl rfl) h1
  clear hA0 hval0
  simp only [List.append_nil] at hW' hlt
  refine (walk s e W ws he).mono fun e W' ⟨he, hg⟩ => ?_
  subst he
  exact ⟨_, rfl, _, _, _, [], _, [], hW', trodAll_mk1 (shut_bool Try.underlying4 _), (trodAll_cons_mk (again (by kernel_rfl) (of_decide_eq_true (by kernel_rfl)) h0 hg fun x hx => hlt x (by first | exact absurd hx (by simp) | simp [hx])) (trodAll_cons_mk (again (by kernel_rfl) (of_decide_eq_true (by kernel_rfl)) h1 hg fun x hx => hlt x (by first | exact absurd hx (by simp) | simp [hx])) trodAll_mk0)), rfl, hg.frame _, fun h => by cases h⟩

theorem over : Rows.rteBackRow.holds Try.pinned (OpenSpec.ofChange Rows.rteBackSpec) :=
  OpenClaim.holds_of_wide 4 Try.f4 rfl rfl rfl rfl rfl rfl rfl ⟨rfl, rfl, rfl, rfl, rfl⟩ rfl rfl rfl rfl rfl (by kernel_rfl) Try.func4 (by kernel_rfl)
    (of_decide_eq_true (by kernel_rfl)) (by unfold Func.isWrapper; first | (rw [if_pos (by decide +kernel)]; kernel_rfl) | (rw [if_neg (by decide +kernel)]; exact ⟨rfl, rfl⟩))
    (fun os started H enc _ => lifted os started H enc)

theorem proved : Rows.RteBackSaid :=
  over
#print axioms proved
end Go.Proofs.Ytnkiddpglohmiaa.rteBack
