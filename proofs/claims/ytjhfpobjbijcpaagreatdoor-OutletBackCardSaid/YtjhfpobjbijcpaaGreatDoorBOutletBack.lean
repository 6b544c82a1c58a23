/-
  The statement OutletBack, of any messages. Condition: the listed variables have what the program's text lays them with (the tied card).
-/
import Derived.Test.YtjhfpobjbijcpaaGreatDoorB23
import Derived.Test.YtjhfpobjbijcpaaGreatDoorB34
import Derived.Test.YtjhfpobjbijcpaaGreatDoorB39
import Derived.Test.YtjhfpobjbijcpaaGreatDoorB40
import Derived.Test.YtjhfpobjbijcpaaGreatDoorB45
import Derived.Test.YtjhfpobjbijcpaaGreatDoorB46
import Derived.Test.YtjhfpobjbijcpaaGreatDoorB47
import Derived.Test.YtjhfpobjbijcpaaGreatDoorCards
import Derived.Test.YtjhfpobjbijcpaaGreatDoorTie
import Derived.Lay
import Derived.SevenTiedAt
import Derived.Stop.Joined
namespace Go.Proofs.YtjhfpobjbijcpaaGreatDoor.outletBack
open Go.ChangeShapes Go.WideShapes Go.ChangeAt Go.RowKit
open Go.ChangeMaps (open_string shut_string)
open Go.Proofs.YtjhfpobjbijcpaaGreatDoor.Ms
open Go.Proofs.YtjhfpobjbijcpaaGreatDoor.Box
open Go.Proofs.YtjhfpobjbijcpaaGreatDoor.All
open Go.Proofs.YtjhfpobjbijcpaaGreatDoor.Tc
open Go.Proofs.YtjhfpobjbijcpaaGreatDoor.K1
open Go.Proofs.YtjhfpobjbijcpaaGreatDoor.Kb
open Go.Proofs.YtjhfpobjbijcpaaGreatDoor.I1
open Go.Proofs.YtjhfpobjbijcpaaGreatDoor.Fq
open Go.Proofs.YtjhfpobjbijcpaaGreatDoor.L2
open Go.Proofs.YtjhfpobjbijcpaaGreatDoor.O1
open Go.Proofs.YtjhfpobjbijcpaaGreatDoor.O3
open Go.Proofs.YtjhfpobjbijcpaaGreatDoor.Ol
open Go.Proofs.YtjhfpobjbijcpaaGreatDoor.O6
open Go.Proofs.YtjhfpobjbijcpaaGreatDoor.O7
open Go.Proofs.YtjhfpobjbijcpaaGreatDoor.Open
set_option linter.unusedVariables false

open Go.Proofs.YtjhfpobjbijcpaaGreatDoor.F1 (encT wrap wrap_size outB)
open Go.Proofs.YtjhfpobjbijcpaaGreatDoor.L1 (canM)
/-- How a writing ends, for the law. -/
theorem back_of (l : List M) (h40 : l.length ≤ 40) (hf : fewL l 40 = true) : (∃ (b : ByteArray) (n : Nat), outE l = (b, 0, 0) ∧ outN l = n ∧ outP b = (l.map canM, 0, 0) ∧ b.size ≤ n ∧ 4 ≤ b.size ∧ b.size ≤ 65535 ∧ n ≤ 40004 ∧ sameL l (l.map canM) = true ∧ (∀ m ∈ l.map canM, Sml m)) ∨
    (∃ (j e : Int) (n : Int), ¬ e = 0 ∧ outE l = (ByteArray.empty, j, e) ∧ 0 ≤ j ∧ j < l.length ∧ outN l = n ∧ ((e == 1) == (n == 0)) = true) := by
  rcases enc_cases l with ⟨h0, a, c, h1, h2, h3, _, h5, h6, h7, h8, _⟩ | ⟨h0, j, e, he, h1, h2, h⟩ | ⟨_, hn, j, h1, h2, h⟩
  · have hn4 := plain_nn l
    have hn5 := plain_most l h0
    have hN : outN l = 4 + plainN l := by unfold outN; rw [if_pos h0]
    refine .inl ⟨_, (outN l).toNat, h3, by omega, h5, by omega, by omega, by omega, by omega, can_list h0, fun m hm => ?_⟩
    obtain ⟨x, hx, rfl⟩ := List.mem_map.1 hm
    have hfx : Few.fewB x = true := by
      unfold fewL at hf
      simp only [Bool.and_eq_true] at hf
      exact List.all_eq_true.1 hf.2 x hx
    obtain ⟨_, f2, f3⟩ := An.few_parts hfx
    exact can_sml (List.all_eq_true.1 h0 x hx) (by omega) f3
  · have hn4 := plain_nn l
    have hN : outN l = 4 + plainN l := by unfold outN; rw [if_pos h0]
    have z1 : (e == 1) = false := by
      have : ¬ e = 1 := by omega
      simpa using this
    have z2 : (outN l == 0) = false := by
      have : ¬ outN l = 0 := by omega
      simpa using this
    exact .inr ⟨j, e, _, by omega, h, h1, h2, rfl, by rw [z1, z2]; rfl⟩
  · exact .inr ⟨j, 1, 0, by decide, h, h1, h2, hn, rfl⟩

set_option maxHeartbeats 12800000 in
set_option maxRecDepth 100000 in
theorem walk (a : Option Addr) (l : List M) (c : Nat) (w : World) (hl : MRow w a l) (hn : l.length ≤ 9223372036854775807) (hp : ∀ m ∈ l, m.pfx.size ≤ maxLen) (ht : Tab w) :
    Calls Tryz.prog 4 #[.slice a l.length c] w fun e w' => e = .returned (.bool true) ∧ Below w.heap.size w w' := by
  have HT := Lib.hid ht
  have HL := Lib.hid hl
  have PA := Lib.hid (fun W (h : MRow W a l) => fewAll_any a c l 40 W h hn)
  clear ht hl
  go_enter Tryz.func4, Tryz.ntmps4
  cases hfa : fewL l 40
  · rw [hfa] at PA
    clear hfa
    go_wp2_with fail
    refine (PA.out _ HL.out).mono ?_
    rintro e w1 ⟨rfl, hb⟩
    have HB := Lib.hid hb
    clear hb PA
    go_wp2_with fail
    refine (awake_any _ (HT.out.below HB.out)).mono ?_
    rintro r w2 ⟨rfl, hb⟩
    have HB := Lib.hid (bcall HB.out hb)
    clear hb
    go_wp2
    go_ret
    exact ⟨rfl, HB.out⟩
  have hfs := few_all hfa hp
  have hn40 : l.length ≤ 40 := by have := hfs.1; omega
  have HS := Lib.hid hfs.2
  have HFW := Lib.hid hfa
  rw [hfa] at PA
  clear hfa hfs hp hn
  go_wp2_with fail
  refine (PA.out _ HL.out).mono ?_
  rintro e w1 ⟨rfl, hb⟩
  have HB := Lib.hid hb
  have HL := Lib.hid (HL.out.below hb)
  clear hb PA
  have P1 := Lib.hid (fun V (h : MRow V a l) (y : Tab V) => O5.encode_any a c l V h HS.out (by omega) y)
  have P3 := Lib.hid (fun V (h : MRow V a l) (y : Tab V) => O5.plain_any a c l V h HS.out (by omega) y)
  have hbk := back_of l hn40 HFW.out
  clear HFW
  rcases hbk with ⟨b, n, e1, e2, e3, n1, n2, n3, n4, hse, hsm⟩ | ⟨j, e, n, he, e1, j1, j2, e2, hq⟩
  rotate_left
  · rw [e1] at P1
    rw [e2] at P3
    have z1 : (e == 0) = false := by simpa using he
    have z2 : (e != 0) = true := by rw [bne, z1]; rfl
    have HQ := Lib.hid hq
    clear e1 e2 he hq
    have P3 := P3
    go_wp2_with fail
    refine (P1.out _ HL.out (HT.out.below HB.out)).mono ?_
    rintro r w2 ⟨rfl, hb⟩
    have HL := Lib.hid (HL.out.below hb)
    have HB := Lib.hid (bcall HB.out hb)
    clear hb  P1
    dsimp only
    go_wp2_with fail
    refine (awake_any _ (HT.out.below HB.out)).mono ?_
    rintro r w3 ⟨rfl, hb⟩
    have HL := Lib.hid (HL.out.below hb)
    have HB := Lib.hid (bcall HB.out hb)
    clear hb
    have hq := HQ.out
    cases x1 : (e == 1) <;> cases x2 : (n == 0) <;> rw [x1, x2] at hq <;> first | (cases hq; done) | skip
    · go_wp2_with fail
      refine (P3.out _ HL.out (HT.out.below HB.out)).mono ?_
      rintro r w4 ⟨rfl, hb⟩
      have HB := Lib.hid (bcall HB.out hb)
      clear hb  P3 HL
      go_wp2
      go_ret
      exact ⟨rfl, HB.out⟩
    · go_wp2_with fail
      refine (P3.out _ HL.out (HT.out.below HB.out)).mono ?_
      rintro r w4 ⟨rfl, hb⟩
      have HB := Lib.hid (bcall HB.out hb)
      clear hb  P3 HL
      go_wp2
      go_ret
      exact ⟨rfl, HB.out⟩
  rw [e1] at P1
  rw [e2] at P3
  have P2 := fun V => I5.rparse_any b V (by omega)
  rw [e3] at P2
  have P2 := Lib.hid P2
  have HSM := Lib.hid hsm
  have HSE := Lib.hid hse
  have m1 : (b.size : Int) ≤ (n : Int) := by omega
  have m2 : (4 : Int) ≤ (b.size : Int) := by omega
  have m3 : (n : Int) ≤ 40004 := by omega
  clear e1 e2 e3 n1 n2 n3 n4 hse hsm
  go_wp2_with fail
  refine (P1.out _ HL.out (HT.out.below HB.out)).mono ?_
  rintro r w2 ⟨rfl, hb⟩
  have HL := Lib.hid (HL.out.below hb)
  have HB := Lib.hid (bcall HB.out hb)
  clear hb  P1
  dsimp only
  go_wp2_with fail
  refine (P2.out _).mono ?_
  rintro e w3 ⟨qa2, qk2, l2, rfl, hp2, hm2, hb⟩
  have HL := Lib.hid (HL.out.below hb)
  have HM2 := Lib.hid hm2.row
  have HB := Lib.hid (bcall HB.out hb)
  have hse : sameL l l2 = true := by rw [(PlL.refl l).same hp2]; exact HSE.out
  have hl2 : l2.length ≤ 40 := by rw [hp2.1, List.length_map]; exact hn40
  have hs2 := hp2.short HSM.out
  have PS := Lib.hid (fun V h h' => rsameAll_any a qa2 c qk2 l l2 V h h' (fun m hm => (HS.out m hm).short) hs2 (by omega) (by omega))
  rw [hse] at PS
  clear hb hm2 hp2 P2 hse hl2 hs2 HSE HSM
  dsimp only
  go_wp2_with fail
  refine (awake_any _ (HT.out.below HB.out)).mono ?_
  rintro r w4 ⟨rfl, hb⟩
  have HL := Lib.hid (HL.out.below hb)
  have HM2 := Lib.hid (HM2.out.below hb)
  have HB := Lib.hid (bcall HB.out hb)
  clear hb
  go_wp2_with fail
  refine (PS.out _ HL.out HM2.out).mono ?_
  rintro r w5 ⟨rfl, hb⟩
  have HL := Lib.hid (HL.out.below hb)
  have HB := Lib.hid (bcall HB.out hb)
  clear hb  PS HM2
  go_wp2_with fail
  refine (P3.out _ HL.out (HT.out.below HB.out)).mono ?_
  rintro r w6 ⟨rfl, hb⟩
  have HB := Lib.hid (bcall HB.out hb)
  clear hb  P3 HL
  go_wp2
  go_ret
  exact ⟨rfl, HB.out⟩

theorem own : ownKnob Tryz.prog.godebug = none := by kernel_rfl

set_option maxRecDepth 100000 in
theorem lifted (os : Os) (started : os.Started) (H : Type) (enc : TypeId × Value → H) :
    ReturnsInHanded {} Tryz.checked os 4 .any (fun w args => (Rows.outletBackSpec.pre enc Tryz.prog Tryz.f4 Rows.outletBackRow.domain false w args ∧ laidMetH Tryz.prog Rows.outletBackRow.laid w) ∧ sizedMet enc Tryz.prog Tryz.f4 (OpenSpec.ofChange Rows.outletBackSpec) false w args)
      (Rows.outletBackSpec.post enc Tryz.prog Tryz.f4 false true false false) := by
  refine returnsInHanded_of_change_and (C := Tryz.checked) (X := fun w _ => laidMetH Tryz.prog Rows.outletBackRow.laid w) (fun _ _ _ hh h => h.of_heap hh) own started (by kernel_rfl) Tryz.func4
    (ChangeSpec.witness_shaped (enc := enc) (C := Tryz.checked) (os := os) (X := fun w _ => laidMetH Tryz.prog Rows.outletBackRow.laid w) false (World.laidAll Tryz.prog os Rows.outletBackRow.laid) #[.slice none 0 0] 8 (World.laidAll_os _ _ _)
      (World.shaped_of_ZipB (by kernel_rfl) (by kernel_rfl)) (by kernel_rfl) (by kernel_rfl) (by kernel_rfl)
      (by rw [MakeChecks.laidMetH_plain _ _ _ (by kernel_rfl)]; exact laidMet_laidAll _ (by kernel_rfl) (by kernel_rfl))) ?_
  intro W base args ds gs before hval0 hW _ _ hL0 _
  have hMet := of_laid hL0
  have hval : ∀ (j : Nat) t v, Tryz.f4.params[j]? = some t → args[j]? = some v → Value.okWide Tryz.prog W .any base t v := hval0
  have hW' := hW
  have hlt := fun x hx => hW'.lt x hx
  obtain ⟨p, q, hA0, hV, rfl, hfz, hnd⟩ := hW
  have hA : DataW.TrodAll enc Tryz.prog W 0 (fun _ => true) true Tryz.f4.params.toList args.toList ds p := hA0
  rw [Tryz.params4] at hA hval
  obtain ⟨v0, vs0, d0, ds0, p0, q0, hargs, rfl, rfl, h0, r0⟩ := trodAll_cons hA
  obtain ⟨rfl, rfl, rfl⟩ := trodAll_nil r0
  obtain rfl : args = #[v0] := by cases args; simp_all
  obtain ⟨rfl, rfl⟩ := trodVars_none hV
  obtain ⟨a, l, c, rfl, hl, hn, hc, hp⟩ := by_listP (hval 0 22 v0 rfl rfl) h0
  clear hA0 hval0
  simp only [List.append_nil] at hW' hlt
  refine (walk a l c W hl hn hp hMet).mono fun e W' ⟨he, hg⟩ => ?_
  subst he
  exact ⟨_, rfl, _, _, _, [], _, [], hW', trodAll_mk1 (shut_bool Tryz.underlying4 _), (trodAll_cons_mk (again (by kernel_rfl) (of_decide_eq_true (by kernel_rfl)) h0 hg fun x hx => hlt x (by first | exact absurd hx (by simp) | simp [hx])) trodAll_mk0), rfl, hg.frame _, fun h => by cases h⟩

theorem over : Rows.OutletBackSaid :=
  OpenClaim.holds_of_wide 4 Tryz.f4 rfl rfl rfl rfl rfl rfl rfl ⟨rfl, rfl, rfl, rfl, rfl⟩ rfl rfl rfl rfl rfl (by kernel_rfl) Tryz.func4 (by kernel_rfl)
    (of_decide_eq_true (by kernel_rfl)) (by unfold Func.isWrapper; first | (rw [if_pos (by decide +kernel)]; kernel_rfl) | (rw [if_neg (by decide +kernel)]; exact ⟨rfl, rfl⟩))
    (fun os started H enc _ => lifted os started H enc)

theorem proved : Rows.OutletBackCardSaid :=
  Claim7.holds_tied_plain_at .later [] _ true _ _
    over (fun _ h => by cases h) (by kernel_rfl) (fun _ h => by cases h) outletBack_row_tie rfl ⟨rfl, rfl⟩ (by kernel_rfl) rfl
    (fun f fn hf hfn => by
      obtain rfl : f = 4 := Option.some.inj ((show Tryz.prog.funcNamed "roadbook/roadbooklaw25.OutletBack" = some 4 by kernel_rfl).symm.trans hf) |>.symm
      obtain rfl : fn = Tryz.f4 := (Option.some.inj (Tryz.func4.symm.trans hfn)).symm
      exact ⟨by kernel_rfl, fun j t ht => by
        rw [Tryz.params4] at ht
        have hm : t ∈ [22] := by simpa using Array.mem_of_getElem? ht
        have hall : ([22].all fun u => !Tryz.prog.wantsStandIn u) = true := by kernel_rfl
        exact (show Tryz.prog.wantsStandIn t = false by simpa using List.all_eq_true.1 hall t hm)⟩)
    (by kernel_rfl)
#print axioms proved
end Go.Proofs.YtjhfpobjbijcpaaGreatDoor.outletBack
