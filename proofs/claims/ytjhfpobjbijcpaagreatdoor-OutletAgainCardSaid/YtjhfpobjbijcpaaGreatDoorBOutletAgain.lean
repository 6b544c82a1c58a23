/-
  The statement OutletAgain, of any bytes. Condition: the listed variables have what the program's text lays them with (the tied card).
-/
import Derived.Test.YtjhfpobjbijcpaaGreatDoorB23
import Derived.Test.YtjhfpobjbijcpaaGreatDoorB34
import Derived.Test.YtjhfpobjbijcpaaGreatDoorB39
import Derived.Test.YtjhfpobjbijcpaaGreatDoorB40
import Derived.Test.YtjhfpobjbijcpaaGreatDoorB45
import Derived.Test.YtjhfpobjbijcpaaGreatDoorB46
import Derived.Test.YtjhfpobjbijcpaaGreatDoorB47
import Derived.Test.YtjhfpobjbijcpaaGreatDoorCards
import Derived.Test.YtjhfpobjbijcpaaGreatDoorTie
import Derived.Lay
import Derived.SevenTiedAt
import Derived.Stop.Joined
namespace Go.Proofs.YtjhfpobjbijcpaaGreatDoor.outletAgain
open Go.ChangeShapes Go.WideShapes Go.ChangeAt Go.RowKit
open Go.ChangeMaps (open_string shut_string)
open Go.Proofs.YtjhfpobjbijcpaaGreatDoor.Ms
open Go.Proofs.YtjhfpobjbijcpaaGreatDoor.Box
open Go.Proofs.YtjhfpobjbijcpaaGreatDoor.All
open Go.Proofs.YtjhfpobjbijcpaaGreatDoor.Tc
open Go.Proofs.YtjhfpobjbijcpaaGreatDoor.K1
open Go.Proofs.YtjhfpobjbijcpaaGreatDoor.Kb
open Go.Proofs.YtjhfpobjbijcpaaGreatDoor.I1
open Go.Proofs.YtjhfpobjbijcpaaGreatDoor.Fq
open Go.Proofs.YtjhfpobjbijcpaaGreatDoor.L2
open Go.Proofs.YtjhfpobjbijcpaaGreatDoor.O1
open Go.Proofs.YtjhfpobjbijcpaaGreatDoor.O3
open Go.Proofs.YtjhfpobjbijcpaaGreatDoor.Ol
open Go.Proofs.YtjhfpobjbijcpaaGreatDoor.O6
open Go.Proofs.YtjhfpobjbijcpaaGreatDoor.O7
open Go.Proofs.YtjhfpobjbijcpaaGreatDoor.Open
set_option linter.unusedVariables false

open Go.Proofs.YtjhfpobjbijcpaaGreatDoor.I2 (outP_ok outP_len)
open Go.Proofs.YtjhfpobjbijcpaaGreatDoor.F1 (encT wrap wrap_size outB)
open Go.Proofs.YtjhfpobjbijcpaaGreatDoor.L1 (canM)
theorem outP_sml (b : ByteArray) (h : (outP b).2.2 = 0) : ∀ m ∈ (outP b).1, Sml m := by
  obtain ⟨s, l, _, _, _, _, _, _, _, h5⟩ := outP_ok h
  rw [h5]
  exact out_sml _
theorem can_smls {l : List M} (h : l.all okL = true) (hs : ∀ m ∈ l, Sml m) : ∀ m ∈ l.map canM, Sml m := fun m hm => by
  obtain ⟨x, hx, rfl⟩ := List.mem_map.1 hm
  have hh := hs x hx
  exact can_sml (List.all_eq_true.1 h x hx) hh.2.2.2.1 hh.2.2.2.2
theorem sps {l : List M} (h : l.all okL = true) (hs : ∀ m ∈ l, Sml m) : ∀ m ∈ l, Sp m := fun m hm => sp_of (List.all_eq_true.1 h m hm) (hs m hm)

set_option maxHeartbeats 12800000 in
set_option maxRecDepth 100000 in
theorem walk (b : ByteArray) (w : World) (hz : b.size ≤ maxLen) (ht : Tab w) :
    Calls Tryz.prog 5 #[.string b] w fun r w' => r = .returned (.bool true) ∧ Below w.heap.size w w' := by
  unfold maxLen at hz
  have HT := Lib.hid ht
  clear ht
  by_cases h2000 : 2000 < b.size
  · have h2000' : (2000 : Int) < (b.size : Int) := by omega
    go_enter Tryz.func5, Tryz.ntmps5
    go_wp2_with fail
    refine (awake_any _ HT.out).mono ?_
    rintro r w1 ⟨rfl, hb⟩
    have HB := Lib.hid hb
    clear hb
    go_wp2
    go_ret
    exact ⟨rfl, HB.out⟩
  have h2000' : ¬ (2000 : Int) < (b.size : Int) := by omega
  have P1 := fun V => I5.rparse_any b V (by omega)
  by_cases he : (outP b).2.2 = 0
  rotate_left
  · obtain ⟨l0, at0, er, hq⟩ : ∃ x y z, outP b = (x, y, z) := ⟨_, _, _, rfl⟩
    rw [hq] at P1 he
    have P1 := Lib.hid P1
    have z1 : (er == 0) = false := by simpa using he
    have z2 : (er != 0) = true := by rw [bne, z1]; rfl
    clear he hq h2000
    go_enter Tryz.func5, Tryz.ntmps5
    go_wp2_with fail
    refine (P1.out _).mono ?_
    rintro e w1 ⟨qa1, qk1, l1, rfl, -, -, hb⟩
    have HB := Lib.hid hb
    clear hb P1
    dsimp only
    go_wp2_with fail
    refine (awake_any _ (HT.out.below HB.out)).mono ?_
    rintro r w2 ⟨rfl, hb⟩
    have HB := Lib.hid (bcall HB.out hb)
    clear hb
    go_wp2
    go_ret
    exact ⟨rfl, HB.out⟩
  obtain ⟨s, g1, g2, g3, g4, g5, g6⟩ := O2.again (by omega) he
  have hlen := outP_len b
  have hsm := outP_sml b he
  obtain ⟨o, at0, er, hq⟩ : ∃ x y z, outP b = (x, y, z) := ⟨_, _, _, rfl⟩
  rw [hq] at P1 he g1 g2 g3 g4 hlen hsm
  obtain rfl : er = 0 := he
  dsimp only at g1 g2 g3 g4 hlen hsm
  have hlen : o.length ≤ 2000 := by omega
  have hsm2 := can_smls g2 hsm
  have HC := Lib.hid (can_list g2)
  have HSM1 := Lib.hid hsm
  have HSM2 := Lib.hid hsm2
  have HSP1 := Lib.hid (sps g2 hsm)
  have HSP2 := Lib.hid (sps (all_can g4) hsm2)
  have P1 := Lib.hid P1
  have P3 := fun V => I5.rparse_any s V (by omega)
  rw [g3] at P3
  have P3 := Lib.hid P3
  have HE1 := Lib.hid g1
  have HE2 := Lib.hid g4
  have hlm : (o.map canM).length = o.length := List.length_map _
  have e4 : (s.toList == s.toList) = true := by simp
  clear g1 g2 g3 g4 g5 g6 hq hsm hsm2 h2000
  generalize o.map canM = oc at *
  go_enter Tryz.func5, Tryz.ntmps5
  go_wp2_with fail
  refine (P1.out _).mono ?_
  rintro e w1 ⟨qa1, qk1, l1, rfl, hp1, hm1, hb⟩
  have HB := Lib.hid hb
  have HM1 := Lib.hid hm1.row
  have HP1 := Lib.hid hp1
  have hl1 : l1.length ≤ 2000 := by rw [hp1.1]; exact hlen
  have P2 := fun V (h : MRow V qa1 l1) (y : Tab V) => O5.encode_any qa1 qk1 l1 V h (sp_pl hp1 HSP1.out) (by omega) y
  rw [(outE_pl hp1).trans HE1.out] at P2
  have P2 := Lib.hid P2
  clear hb hm1 hp1 P1 HE1
  dsimp only
  go_wp2_with fail
  refine (P2.out _ HM1.out (HT.out.below HB.out)).mono ?_
  rintro r w2 ⟨rfl, hb⟩
  have HM1 := Lib.hid (HM1.out.below hb)
  have HB := Lib.hid (bcall HB.out hb)
  clear hb  P2
  dsimp only
  go_wp2_with fail
  refine (P3.out _).mono ?_
  rintro e w3 ⟨qa2, qk2, l2, rfl, hp2, hm2, hb⟩
  have HB := Lib.hid (bcall HB.out hb)
  have HM1 := Lib.hid (HM1.out.below hb)
  have HM2 := Lib.hid hm2.row
  have hl2 : l2.length ≤ 2000 := by rw [hp2.1, hlm]; exact hlen
  have P4 := fun V (h : MRow V qa2 l2) (y : Tab V) => O5.encode_any qa2 qk2 l2 V h (sp_pl hp2 HSP2.out) (by omega) y
  rw [(outE_pl hp2).trans HE2.out] at P4
  have P4 := Lib.hid P4
  have hse : sameL l1 l2 = true := by rw [HP1.out.same hp2]; exact HC.out
  have hs1 := HP1.out.short HSM1.out
  have hs2 := hp2.short HSM2.out
  have PS := Lib.hid (fun V h h' => rsameAll_any qa1 qa2 qk1 qk2 l1 l2 V h h' hs1 hs2 (by omega) (by omega))
  rw [hse] at PS
  clear hb hm2 hp2 P3 hse hs1 hs2 HE2 HP1
  dsimp only
  go_wp2_with fail
  refine (P4.out _ HM2.out (HT.out.below HB.out)).mono ?_
  rintro r w4 ⟨rfl, hb⟩
  have HM1 := Lib.hid (HM1.out.below hb)
  have HM2 := Lib.hid (HM2.out.below hb)
  have HB := Lib.hid (bcall HB.out hb)
  clear hb  P4
  dsimp only
  go_wp2_with fail
  refine (awake_any _ (HT.out.below HB.out)).mono ?_
  rintro r w5 ⟨rfl, hb⟩
  have HM1 := Lib.hid (HM1.out.below hb)
  have HM2 := Lib.hid (HM2.out.below hb)
  have HB := Lib.hid (bcall HB.out hb)
  clear hb
  go_wp2_with fail
  refine (PS.out _ HM1.out HM2.out).mono ?_
  rintro r w6 ⟨rfl, hb⟩
  have HB := Lib.hid (bcall HB.out hb)
  clear hb  PS HM1 HM2
  go_wp2
  go_ret
  exact ⟨rfl, HB.out⟩

theorem own : ownKnob Tryz.prog.godebug = none := by kernel_rfl

set_option maxRecDepth 100000 in
theorem lifted (os : Os) (started : os.Started) (H : Type) (enc : TypeId × Value → H) :
    ReturnsInHanded {} Tryz.checked os 5 .any (fun w args => (Rows.outletAgainSpec.pre enc Tryz.prog Tryz.f5 Rows.outletAgainRow.domain false w args ∧ laidMetH Tryz.prog Rows.outletAgainRow.laid w) ∧ sizedMet enc Tryz.prog Tryz.f5 (OpenSpec.ofChange Rows.outletAgainSpec) false w args)
      (Rows.outletAgainSpec.post enc Tryz.prog Tryz.f5 false true false false) := by
  refine returnsInHanded_of_change_and (C := Tryz.checked) (X := fun w _ => laidMetH Tryz.prog Rows.outletAgainRow.laid w) (fun _ _ _ hh h => h.of_heap hh) own started (by kernel_rfl) Tryz.func5
    (ChangeSpec.witness_shaped (enc := enc) (C := Tryz.checked) (os := os) (X := fun w _ => laidMetH Tryz.prog Rows.outletAgainRow.laid w) false (World.laidAll Tryz.prog os Rows.outletAgainRow.laid) #[.string ByteArray.empty] 8 (World.laidAll_os _ _ _)
      (World.shaped_of_ZipB (by kernel_rfl) (by kernel_rfl)) (by kernel_rfl) (by kernel_rfl) (by kernel_rfl)
      (by rw [MakeChecks.laidMetH_plain _ _ _ (by kernel_rfl)]; exact laidMet_laidAll _ (by kernel_rfl) (by kernel_rfl))) ?_
  intro W base args ds gs before hval0 hW _ _ hL0 _
  have hMet := of_laid hL0
  have hval : ∀ (j : Nat) t v, Tryz.f5.params[j]? = some t → args[j]? = some v → Value.okWide Tryz.prog W .any base t v := hval0
  have hW' := hW
  have hlt := fun x hx => hW'.lt x hx
  obtain ⟨p, q, hA0, hV, rfl, hfz, hnd⟩ := hW
  have hA : DataW.TrodAll enc Tryz.prog W 0 (fun _ => true) true Tryz.f5.params.toList args.toList ds p := hA0
  rw [Tryz.params5] at hA hval
  obtain ⟨v0, vs0, d0, ds0, p0, q0, hargs, rfl, rfl, h0, r0⟩ := trodAll_cons hA
  obtain ⟨rfl, rfl, rfl⟩ := trodAll_nil r0
  obtain rfl : args = #[v0] := by cases args; simp_all
  obtain ⟨rfl, rfl⟩ := trodVars_none hV
  have k0 := h0
  obtain ⟨b, rfl, rfl, rfl, hz⟩ := open_string Tryz.underlying9 (hval 0 9 v0 rfl rfl) k0
  clear hA0 hval0
  simp only [List.append_nil] at hW' hlt
  refine (walk b W hz hMet).mono fun e W' ⟨he, hg⟩ => ?_
  subst he
  exact ⟨_, rfl, _, _, _, [], _, [], hW', trodAll_mk1 (shut_bool Tryz.underlying4 _), (trodAll_cons_mk (again (by kernel_rfl) (of_decide_eq_true (by kernel_rfl)) h0 hg fun x hx => hlt x (by first | exact absurd hx (by simp) | simp [hx])) trodAll_mk0), rfl, hg.frame _, fun h => by cases h⟩

theorem over : Rows.OutletAgainSaid :=
  OpenClaim.holds_of_wide 5 Tryz.f5 rfl rfl rfl rfl rfl rfl rfl ⟨rfl, rfl, rfl, rfl, rfl⟩ rfl rfl rfl rfl rfl (by kernel_rfl) Tryz.func5 (by kernel_rfl)
    (of_decide_eq_true (by kernel_rfl)) (by unfold Func.isWrapper; first | (rw [if_pos (by decide +kernel)]; kernel_rfl) | (rw [if_neg (by decide +kernel)]; exact ⟨rfl, rfl⟩))
    (fun os started H enc _ => lifted os started H enc)

theorem proved : Rows.OutletAgainCardSaid :=
  Claim7.holds_tied_plain_at .later [] _ true _ _
    over (fun _ h => by cases h) (by kernel_rfl) (fun _ h => by cases h) outletAgain_row_tie rfl ⟨rfl, rfl⟩ (by kernel_rfl) rfl
    (fun f fn hf hfn => by
      obtain rfl : f = 5 := Option.some.inj ((show Tryz.prog.funcNamed "roadbook/roadbooklaw25.OutletAgain" = some 5 by kernel_rfl).symm.trans hf) |>.symm
      obtain rfl : fn = Tryz.f5 := (Option.some.inj (Tryz.func5.symm.trans hfn)).symm
      exact ⟨by kernel_rfl, fun j t ht => by
        rw [Tryz.params5] at ht
        have hm : t ∈ [9] := by simpa using Array.mem_of_getElem? ht
        have hall : ([9].all fun u => !Tryz.prog.wantsStandIn u) = true := by kernel_rfl
        exact (show Tryz.prog.wantsStandIn t = false by simpa using List.all_eq_true.1 hall t hm)⟩)
    (by kernel_rfl)
#print axioms proved
end Go.Proofs.YtjhfpobjbijcpaaGreatDoor.outletAgain
