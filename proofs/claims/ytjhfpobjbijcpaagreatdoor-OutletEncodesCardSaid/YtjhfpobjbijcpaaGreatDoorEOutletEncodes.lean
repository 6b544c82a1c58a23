/-
  The statement OutletEncodes, of any messages. Condition: the listed variables have what the program's text lays them with (the tied card).
-/
import Derived.Test.YtjhfpobjbijcpaaGreatDoorE12
import Derived.Test.YtjhfpobjbijcpaaGreatDoorE13
import Derived.Test.YtjhfpobjbijcpaaGreatDoorE15
import Derived.Test.YtjhfpobjbijcpaaGreatDoorE34
import Derived.Test.YtjhfpobjbijcpaaGreatDoorE35
import Derived.Test.YtjhfpobjbijcpaaGreatDoorE44
import Derived.Test.YtjhfpobjbijcpaaGreatDoorE45
import Derived.Test.YtjhfpobjbijcpaaGreatDoorCards
import Derived.Test.YtjhfpobjbijcpaaGreatDoorTie
import Derived.Lay
import Derived.SevenTiedAt
import Derived.Stop.Joined
namespace Go.Proofs.YtjhfpobjbijcpaaGreatDoor.outletEncodes
open Go.ChangeShapes Go.WideShapes Go.ChangeAt Go.RowKit
open Go.ChangeMaps (open_string shut_string)
open Go.Proofs.YtjhfpobjbijcpaaGreatDoor.Ms
open Go.Proofs.YtjhfpobjbijcpaaGreatDoor.Box
open Go.Proofs.YtjhfpobjbijcpaaGreatDoor.All
open Go.Proofs.YtjhfpobjbijcpaaGreatDoor.Tc
open Go.Proofs.YtjhfpobjbijcpaaGreatDoor.K1
open Go.Proofs.YtjhfpobjbijcpaaGreatDoor.Kb
open Go.Proofs.YtjhfpobjbijcpaaGreatDoor.I1
open Go.Proofs.YtjhfpobjbijcpaaGreatDoor.L2
open Go.Proofs.YtjhfpobjbijcpaaGreatDoor.O1
open Go.Proofs.YtjhfpobjbijcpaaGreatDoor.O3
open Go.Proofs.YtjhfpobjbijcpaaGreatDoor.Ol
open Go.Proofs.YtjhfpobjbijcpaaGreatDoor.O6
open Go.Proofs.YtjhfpobjbijcpaaGreatDoor.Open
set_option linter.unusedVariables false

open Go.Proofs.YtjhfpobjbijcpaaGreatDoor.F1 (encT wrap)
open Go.Proofs.YtjhfpobjbijcpaaGreatDoor.L1 (canM)
open Go.Proofs.YtjhfpobjbijcpaaGreatDoor.K9 (int_same)

set_option maxHeartbeats 12800000 in
set_option maxRecDepth 100000 in
theorem walk (a : Option Addr) (l : List M) (c : Nat) (w : World) (hl : MRow w a l) (hn : l.length ≤ 9223372036854775807) (hp : ∀ m ∈ l, m.pfx.size ≤ maxLen) (ht : Tab w) :
    Calls Tryz.prog 3 #[.slice a l.length c] w fun e w' => e = .returned (.bool true) ∧ Below w.heap.size w w' := by
  have HT := Lib.hid ht
  have HL := Lib.hid hl
  have PA := Lib.hid (fun W (h : MRow W a l) => fewAll_any a c l 40 W h hn)
  clear ht hl
  go_enter Tryz.func3, Tryz.ntmps3
  cases hfa : fewL l 40
  · rw [hfa] at PA
    clear hfa
    go_wp2_with fail
    refine (PA.out _ HL.out).mono ?_
    rintro e w1 ⟨rfl, hb⟩
    have HB := Lib.hid hb
    clear hb PA
    go_wp2_with fail
    refine (awake_any _ (HT.out.below HB.out)).mono ?_
    rintro r w2 ⟨rfl, hb⟩
    have HB := Lib.hid (bcall HB.out hb)
    clear hb
    go_wp2
    go_ret
    exact ⟨rfl, HB.out⟩
  have hfs := few_all hfa hp
  have hn40 : l.length ≤ 40 := by have := hfs.1; omega
  have HS := Lib.hid hfs.2
  have HFW := Lib.hid hfa
  rw [hfa] at PA
  clear hfa hfs hp hn
  go_wp2_with fail
  refine (PA.out _ HL.out).mono ?_
  rintro e w1 ⟨rfl, hb⟩
  have HB := Lib.hid hb
  have HL := Lib.hid (HL.out.below hb)
  clear hb PA
  have P1 := Lib.hid (fun V (h : MRow V a l) (y : Tab V) => O5.encode_any a c l V h HS.out (by omega) y)
  have P2 := Lib.hid (fun V (h : MRow V a l) => O4.rencode_any a c l V h HS.out (by omega))
  have P3 := Lib.hid (fun V (h : MRow V a l) (y : Tab V) => O5.plain_any a c l V h HS.out (by omega) y)
  have P4 := Lib.hid (fun V (h : MRow V a l) => O4.rplain_any a c l V h HS.out (by omega))
  obtain ⟨b, i, e, he⟩ : ∃ x y z, outE l = (x, y, z) := ⟨_, _, _, rfl⟩
  rw [he] at P1 P2
  clear he
  generalize outN l = n at *
  have e1 := int_same i
  have e2 := int_same e
  have e3 := int_same n
  have e4 : (b.toList == b.toList) = true := by simp
  go_wp2_with fail
  refine (P1.out _ HL.out (HT.out.below HB.out)).mono ?_
  rintro r w2 ⟨rfl, hb⟩
  have HL := Lib.hid (HL.out.below hb)
  have HB := Lib.hid (bcall HB.out hb)
  clear hb  P1
  dsimp only
  go_wp2_with fail
  refine (P2.out _ HL.out).mono ?_
  rintro r w3 ⟨rfl, hb⟩
  have HL := Lib.hid (HL.out.below hb)
  have HB := Lib.hid (bcall HB.out hb)
  clear hb  P2
  dsimp only
  go_wp2_with fail
  refine (awake_any _ (HT.out.below HB.out)).mono ?_
  rintro r w4 ⟨rfl, hb⟩
  have HL := Lib.hid (HL.out.below hb)
  have HB := Lib.hid (bcall HB.out hb)
  clear hb
  go_wp2_with fail
  refine (P3.out _ HL.out (HT.out.below HB.out)).mono ?_
  rintro r w5 ⟨rfl, hb⟩
  have HL := Lib.hid (HL.out.below hb)
  have HB := Lib.hid (bcall HB.out hb)
  clear hb  P3
  go_wp2_with fail
  refine (P4.out _ HL.out).mono ?_
  rintro r w6 ⟨rfl, hb⟩
  have HB := Lib.hid (bcall HB.out hb)
  clear hb  P4 HL
  go_wp2
  go_ret
  exact ⟨rfl, HB.out⟩

theorem own : ownKnob Tryz.prog.godebug = none := by kernel_rfl

set_option maxRecDepth 100000 in
theorem lifted (os : Os) (started : os.Started) (H : Type) (enc : TypeId × Value → H) :
    ReturnsInHanded {} Tryz.checked os 3 .any (fun w args => (Rows.outletEncodesSpec.pre enc Tryz.prog Tryz.f3 Rows.outletEncodesRow.domain false w args ∧ laidMetH Tryz.prog Rows.outletEncodesRow.laid w) ∧ sizedMet enc Tryz.prog Tryz.f3 (OpenSpec.ofChange Rows.outletEncodesSpec) false w args)
      (Rows.outletEncodesSpec.post enc Tryz.prog Tryz.f3 false true false false) := by
  refine returnsInHanded_of_change_and (C := Tryz.checked) (X := fun w _ => laidMetH Tryz.prog Rows.outletEncodesRow.laid w) (fun _ _ _ hh h => h.of_heap hh) own started (by kernel_rfl) Tryz.func3
    (ChangeSpec.witness_shaped (enc := enc) (C := Tryz.checked) (os := os) (X := fun w _ => laidMetH Tryz.prog Rows.outletEncodesRow.laid w) false (World.laidAll Tryz.prog os Rows.outletEncodesRow.laid) #[.slice none 0 0] 8 (World.laidAll_os _ _ _)
      (World.shaped_of_ZipB (by kernel_rfl) (by kernel_rfl)) (by kernel_rfl) (by kernel_rfl) (by kernel_rfl)
      (by rw [MakeChecks.laidMetH_plain _ _ _ (by kernel_rfl)]; exact laidMet_laidAll _ (by kernel_rfl) (by kernel_rfl))) ?_
  intro W base args ds gs before hval0 hW _ _ hL0 _
  have hMet := of_laid hL0
  have hval : ∀ (j : Nat) t v, Tryz.f3.params[j]? = some t → args[j]? = some v → Value.okWide Tryz.prog W .any base t v := hval0
  have hW' := hW
  have hlt := fun x hx => hW'.lt x hx
  obtain ⟨p, q, hA0, hV, rfl, hfz, hnd⟩ := hW
  have hA : DataW.TrodAll enc Tryz.prog W 0 (fun _ => true) true Tryz.f3.params.toList args.toList ds p := hA0
  rw [Tryz.params3] at hA hval
  obtain ⟨v0, vs0, d0, ds0, p0, q0, hargs, rfl, rfl, h0, r0⟩ := trodAll_cons hA
  obtain ⟨rfl, rfl, rfl⟩ := trodAll_nil r0
  obtain rfl : args = #[v0] := by cases args; simp_all
  obtain ⟨rfl, rfl⟩ := trodVars_none hV
  obtain ⟨a, l, c, rfl, hl, hn, hc, hp⟩ := by_listP (hval 0 22 v0 rfl rfl) h0
  clear hA0 hval0
  simp only [List.append_nil] at hW' hlt
  refine (walk a l c W hl hn hp hMet).mono fun e W' ⟨he, hg⟩ => ?_
  subst he
  exact ⟨_, rfl, _, _, _, [], _, [], hW', trodAll_mk1 (shut_bool Tryz.underlying4 _), (trodAll_cons_mk (again (by kernel_rfl) (of_decide_eq_true (by kernel_rfl)) h0 hg fun x hx => hlt x (by first | exact absurd hx (by simp) | simp [hx])) trodAll_mk0), rfl, hg.frame _, fun h => by cases h⟩

theorem over : Rows.OutletEncodesSaid :=
  OpenClaim.holds_of_wide 3 Tryz.f3 rfl rfl rfl rfl rfl rfl rfl ⟨rfl, rfl, rfl, rfl, rfl⟩ rfl rfl rfl rfl rfl (by kernel_rfl) Tryz.func3 (by kernel_rfl)
    (of_decide_eq_true (by kernel_rfl)) (by unfold Func.isWrapper; first | (rw [if_pos (by decide +kernel)]; kernel_rfl) | (rw [if_neg (by decide +kernel)]; exact ⟨rfl, rfl⟩))
    (fun os started H enc _ => lifted os started H enc)

theorem proved : Rows.OutletEncodesCardSaid :=
  Claim7.holds_tied_plain_at .later [] _ true _ _
    over (fun _ h => by cases h) (by kernel_rfl) (fun _ h => by cases h) outletEncodes_row_tie rfl ⟨rfl, rfl⟩ (by kernel_rfl) rfl
    (fun f fn hf hfn => by
      obtain rfl : f = 3 := Option.some.inj ((show Tryz.prog.funcNamed "roadbook/roadbooklaw25.OutletEncodes" = some 3 by kernel_rfl).symm.trans hf) |>.symm
      obtain rfl : fn = Tryz.f3 := (Option.some.inj (Tryz.func3.symm.trans hfn)).symm
      exact ⟨by kernel_rfl, fun j t ht => by
        rw [Tryz.params3] at ht
        have hm : t ∈ [22] := by simpa using Array.mem_of_getElem? ht
        have hall : ([22].all fun u => !Tryz.prog.wantsStandIn u) = true := by kernel_rfl
        exact (show Tryz.prog.wantsStandIn t = false by simpa using List.all_eq_true.1 hall t hm)⟩)
    (by kernel_rfl)
#print axioms proved
end Go.Proofs.YtjhfpobjbijcpaaGreatDoor.outletEncodes
