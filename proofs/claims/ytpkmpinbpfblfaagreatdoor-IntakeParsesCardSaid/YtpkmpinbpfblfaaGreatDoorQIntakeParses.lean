/-
  The statement IntakeParses, of any bytes. Condition: the listed variables have what the program's text lays them with (the tied card).
-/
import Derived.Test.YtpkmpinbpfblfaaGreatDoorQ15
import Derived.Test.YtpkmpinbpfblfaaGreatDoorQ17
import Derived.Test.YtpkmpinbpfblfaaGreatDoorCards
import Derived.Test.YtpkmpinbpfblfaaGreatDoorTie
import Derived.Lay
import Derived.SevenTiedAt
import Derived.Stop.Joined
namespace Go.Proofs.YtpkmpinbpfblfaaGreatDoor.intakeParses
open Go.ChangeShapes Go.WideShapes Go.ChangeAt Go.RowKit
open Go.ChangeMaps (open_string shut_string)
open Go.Proofs.YtpkmpinbpfblfaaGreatDoor.Ms
open Go.Proofs.YtpkmpinbpfblfaaGreatDoor.Box
open Go.Proofs.YtpkmpinbpfblfaaGreatDoor.All
open Go.Proofs.YtpkmpinbpfblfaaGreatDoor.An
open Go.Proofs.YtpkmpinbpfblfaaGreatDoor.Tc
open Go.Proofs.YtpkmpinbpfblfaaGreatDoor.K1
open Go.Proofs.YtpkmpinbpfblfaaGreatDoor.Kb
open Go.Proofs.YtpkmpinbpfblfaaGreatDoor.I1
open Go.Proofs.YtpkmpinbpfblfaaGreatDoor.I2
open Go.Proofs.YtpkmpinbpfblfaaGreatDoor.Fq
open Go.Proofs.YtpkmpinbpfblfaaGreatDoor.I9
open Go.Proofs.YtpkmpinbpfblfaaGreatDoor.Hs
open Go.Proofs.YtpkmpinbpfblfaaGreatDoor.Open
set_option linter.unusedVariables false

open Go.Proofs.YtpkmpinbpfblfaaGreatDoor.Tl (cellsT TRow indexT)
open Go.Proofs.YtpkmpinbpfblfaaGreatDoor.Or (st_yes)
open Go.Proofs.YtpkmpinbpfblfaaGreatDoor.Hx (ex_built)
open Go.Proofs.YtpkmpinbpfblfaaGreatDoor.Hy (H.one H.two wp_valW)
open Go.Proofs.YtpkmpinbpfblfaaGreatDoor.Bk (Bk wpList_builtK run_loadK alloc_size)
open Go.Proofs.YtpkmpinbpfblfaaGreatDoor.F1 (outT outB trail okT encT placed)
open Go.Proofs.YtpkmpinbpfblfaaGreatDoor.K9 (int_same)

set_option maxHeartbeats 6400000 in
set_option maxRecDepth 100000 in
theorem walk (b : ByteArray) (w : World) (hz : b.size ≤ maxLen) (ht : Tab w) :
    Calls Tryz.prog 3 #[.string b] w fun r w' => r = .returned (.bool true) ∧ Below w.heap.size w w' := by
  unfold maxLen at hz
  have HT := Lib.hid ht
  have h1 := ht.pos
  clear ht
  by_cases h2000 : 2000 < b.size
  · have h2000' : (2000 : Int) < (b.size : Int) := by omega
    go_enter Tryz.func3, Tryz.ntmps3
    go_wp2_with fail
    refine (awake_any _ (HT.out)).mono ?_
    rintro r w1 ⟨rfl, hb⟩
    have HB := Lib.hid hb
    clear hb
    go_wp2
    go_ret
    exact ⟨rfl, HB.out⟩
  have h2000' : ¬ (2000 : Int) < (b.size : Int) := by omega
  have P1 := Lib.hid (fun V (y : Tab V) => I8.parse_any b V (by omega) y)
  have P2 := Lib.hid (fun V => I5.rparse_any b V (by omega))
  have HS := Lib.hid (outP_sml b)
  have hlen := outP_len b
  clear h2000
  go_enter Tryz.func3, Tryz.ntmps3
  generalize outP b = q at *
  go_wp2_with fail
  refine (P1.out _ HT.out).mono ?_
  rintro e w1 ⟨qa1, qk1, l1, rfl, hp1, hm1, hb⟩
  have HM1 := Lib.hid hm1
  have HP1 := Lib.hid hp1
  have HB := Lib.hid hb
  clear hb hm1 hp1 P1
  go_wp2_with fail
  refine (P2.out _).mono ?_
  rintro e w2 ⟨qa2, qk2, l2, rfl, hp2, hm2, hb⟩
  have HM1 := Lib.hid (HM1.out.row.below hb)
  have HM2 := Lib.hid hm2.row
  have HP2 := Lib.hid hp2
  have HB := Lib.hid (bcall HB.out hb)
  clear hb hm2 hp2 P2
  obtain ⟨ml, at0, er⟩ := q
  have hse : sameL l1 l2 = true := by rw [HP1.out.same HP2.out]; exact sameL_refl _
  have hl1 : l1.length ≤ 2000 := by rw [HP1.out.1]; exact Nat.le_trans hlen (by omega)
  have hl2 : l2.length ≤ 2000 := by rw [HP2.out.1]; exact Nat.le_trans hlen (by omega)
  have PS := Lib.hid (fun V h h' => rsameAll_any qa1 qa2 qk1 qk2 l1 l2 V h h' (HP1.out.short HS.out) (HP2.out.short HS.out) (by omega) (by omega))
  rw [hse] at PS
  have e1 := int_same er
  have e2 := int_same at0
  clear hse hl1 hl2 hlen HP1 HP2 HS h2000' hz
  go_wp2_with fail
  refine (awake_any _ (HT.out.below HB.out)).mono ?_
  rintro r w3 ⟨rfl, hb⟩
  have HB := Lib.hid (bcall HB.out hb)
  have HM1 := Lib.hid (HM1.out.below hb)
  have HM2 := Lib.hid (HM2.out.below hb)
  clear hb
  go_wp2_with fail
  refine (PS.out _ HM1.out HM2.out).mono ?_
  rintro r w4 ⟨rfl, hb⟩
  have HB := Lib.hid (bcall HB.out hb)
  clear hb
  go_wp2
  go_ret
  exact ⟨rfl, HB.out⟩

theorem own : ownKnob Tryz.prog.godebug = none := by kernel_rfl

set_option maxRecDepth 100000 in
theorem lifted (os : Os) (started : os.Started) (H : Type) (enc : TypeId × Value → H) :
    ReturnsInHanded {} Tryz.checked os 3 .any (fun w args => (Rows.intakeParsesSpec.pre enc Tryz.prog Tryz.f3 Rows.intakeParsesRow.domain false w args ∧ laidMetH Tryz.prog Rows.intakeParsesRow.laid w) ∧ sizedMet enc Tryz.prog Tryz.f3 (OpenSpec.ofChange Rows.intakeParsesSpec) false w args)
      (Rows.intakeParsesSpec.post enc Tryz.prog Tryz.f3 false true false false) := by
  refine returnsInHanded_of_change_and (C := Tryz.checked) (X := fun w _ => laidMetH Tryz.prog Rows.intakeParsesRow.laid w) (fun _ _ _ hh h => h.of_heap hh) own started (by kernel_rfl) Tryz.func3
    (ChangeSpec.witness_shaped (enc := enc) (C := Tryz.checked) (os := os) (X := fun w _ => laidMetH Tryz.prog Rows.intakeParsesRow.laid w) false (World.laidAll Tryz.prog os Rows.intakeParsesRow.laid) #[.string ByteArray.empty] 8 (World.laidAll_os _ _ _)
      (World.shaped_of_ZipB (by kernel_rfl) (by kernel_rfl)) (by kernel_rfl) (by kernel_rfl) (by kernel_rfl)
      (by rw [MakeChecks.laidMetH_plain _ _ _ (by kernel_rfl)]; exact laidMet_laidAll _ (by kernel_rfl) (by kernel_rfl))) ?_
  intro W base args ds gs before hval0 hW _ _ hL0 _
  have hMet := of_laid hL0
  have hval : ∀ (j : Nat) t v, Tryz.f3.params[j]? = some t → args[j]? = some v → Value.okWide Tryz.prog W .any base t v := hval0
  have hW' := hW
  have hlt := fun x hx => hW'.lt x hx
  obtain ⟨p, q, hA0, hV, rfl, hfz, hnd⟩ := hW
  have hA : DataW.TrodAll enc Tryz.prog W 0 (fun _ => true) true Tryz.f3.params.toList args.toList ds p := hA0
  rw [Tryz.params3] at hA hval
  obtain ⟨v0, vs0, d0, ds0, p0, q0, hargs, rfl, rfl, h0, r0⟩ := trodAll_cons hA
  obtain ⟨rfl, rfl, rfl⟩ := trodAll_nil r0
  obtain rfl : args = #[v0] := by cases args; simp_all
  obtain ⟨rfl, rfl⟩ := trodVars_none hV
  have k0 := h0
  obtain ⟨b, rfl, rfl, rfl, hz⟩ := open_string Tryz.underlying9 (hval 0 9 v0 rfl rfl) k0
  clear hA0 hval0
  simp only [List.append_nil] at hW' hlt
  refine (walk b W hz hMet).mono fun e W' ⟨he, hg⟩ => ?_
  subst he
  exact ⟨_, rfl, _, _, _, [], _, [], hW', trodAll_mk1 (shut_bool Tryz.underlying4 _), (trodAll_cons_mk (again (by kernel_rfl) (of_decide_eq_true (by kernel_rfl)) h0 hg fun x hx => hlt x (by first | exact absurd hx (by simp) | simp [hx])) trodAll_mk0), rfl, hg.frame _, fun h => by cases h⟩

theorem over : Rows.IntakeParsesSaid :=
  OpenClaim.holds_of_wide 3 Tryz.f3 rfl rfl rfl rfl rfl rfl rfl ⟨rfl, rfl, rfl, rfl, rfl⟩ rfl rfl rfl rfl rfl (by kernel_rfl) Tryz.func3 (by kernel_rfl)
    (of_decide_eq_true (by kernel_rfl)) (by unfold Func.isWrapper; first | (rw [if_pos (by decide +kernel)]; kernel_rfl) | (rw [if_neg (by decide +kernel)]; exact ⟨rfl, rfl⟩))
    (fun os started H enc _ => lifted os started H enc)

theorem proved : Rows.IntakeParsesCardSaid :=
  Claim7.holds_tied_plain_at .later [] _ true _ _
    over (fun _ h => by cases h) (by kernel_rfl) (fun _ h => by cases h) intakeParses_row_tie rfl ⟨rfl, rfl⟩ (by kernel_rfl) rfl
    (fun f fn hf hfn => by
      obtain rfl : f = 3 := Option.some.inj ((show Tryz.prog.funcNamed "roadbook/roadbooklaw23.IntakeParses" = some 3 by kernel_rfl).symm.trans hf) |>.symm
      obtain rfl : fn = Tryz.f3 := (Option.some.inj (Tryz.func3.symm.trans hfn)).symm
      exact ⟨by kernel_rfl, fun j t ht => by
        rw [Tryz.params3] at ht
        have hm : t ∈ [9] := by simpa using Array.mem_of_getElem? ht
        have hall : ([9].all fun u => !Tryz.prog.wantsStandIn u) = true := by kernel_rfl
        exact (show Tryz.prog.wantsStandIn t = false by simpa using List.all_eq_true.1 hall t hm)⟩)
    (by kernel_rfl)
#print axioms proved
end Go.Proofs.YtpkmpinbpfblfaaGreatDoor.intakeParses
