/-
  The statement IntakeFolds, of any TLVs. Condition: the listed variables have what the program's text lays them with (the tied card).
-/
import Derived.Test.YtpkmpinbpfblfaaGreatDoorQ11
import Derived.Test.YtpkmpinbpfblfaaGreatDoorQ15
import Derived.Test.YtpkmpinbpfblfaaGreatDoorQ17
import Derived.Test.YtpkmpinbpfblfaaGreatDoorCards
import Derived.Test.YtpkmpinbpfblfaaGreatDoorTie
import Derived.Lay
import Derived.SevenTiedAt
import Derived.Stop.Joined
namespace Go.Proofs.YtpkmpinbpfblfaaGreatDoor.intakeFolds
open Go.ChangeShapes Go.WideShapes Go.ChangeAt Go.RowKit
open Go.ChangeMaps (open_string shut_string)
open Go.Proofs.YtpkmpinbpfblfaaGreatDoor.Ms
open Go.Proofs.YtpkmpinbpfblfaaGreatDoor.Box
open Go.Proofs.YtpkmpinbpfblfaaGreatDoor.All
open Go.Proofs.YtpkmpinbpfblfaaGreatDoor.An
open Go.Proofs.YtpkmpinbpfblfaaGreatDoor.Tc
open Go.Proofs.YtpkmpinbpfblfaaGreatDoor.K1
open Go.Proofs.YtpkmpinbpfblfaaGreatDoor.Kb
open Go.Proofs.YtpkmpinbpfblfaaGreatDoor.I1
open Go.Proofs.YtpkmpinbpfblfaaGreatDoor.I2
open Go.Proofs.YtpkmpinbpfblfaaGreatDoor.Fq
open Go.Proofs.YtpkmpinbpfblfaaGreatDoor.I9
open Go.Proofs.YtpkmpinbpfblfaaGreatDoor.Hs
open Go.Proofs.YtpkmpinbpfblfaaGreatDoor.Open
set_option linter.unusedVariables false

open Go.Proofs.YtpkmpinbpfblfaaGreatDoor.Tl (cellsT TRow indexT)
open Go.Proofs.YtpkmpinbpfblfaaGreatDoor.Or (st_yes)
open Go.Proofs.YtpkmpinbpfblfaaGreatDoor.Hx (ex_built)
open Go.Proofs.YtpkmpinbpfblfaaGreatDoor.Hy (H.one H.two wp_valW)
open Go.Proofs.YtpkmpinbpfblfaaGreatDoor.Bk (Bk wpList_builtK run_loadK alloc_size)
open Go.Proofs.YtpkmpinbpfblfaaGreatDoor.F1 (outT outB trail okT encT placed)
open Go.Proofs.YtpkmpinbpfblfaaGreatDoor.K9 (int_same)

set_option maxHeartbeats 51200000 in
set_option maxRecDepth 100000 in
theorem walk (a : Option Addr) (l : List F1.T) (kc : Nat) (w : World) (hl : TRow w a l) (hn : l.length ≤ 9223372036854775807) (ht : Tab w) :
    Calls Tryz.prog 4 #[.slice a l.length kc] w fun r w' => r = .returned (.bool true) ∧ Below w.heap.size w w' := by
  have HT := Lib.hid ht
  have h1 := ht.pos
  clear ht
  have HL := Lib.hid hl
  clear hl
  by_cases h40 : 40 < l.length
  · have h40' : (40 : Int) < (l.length : Int) := by omega
    go_enter Tryz.func4, Tryz.ntmps4
    go_wp2_with fail
    refine (awake_any _ (HT.out)).mono ?_
    rintro r w1 ⟨rfl, hb⟩
    have HB := Lib.hid hb
    clear hb
    go_wp2
    go_ret
    exact ⟨rfl, HB.out⟩
  have h40' : ¬ (40 : Int) < (l.length : Int) := by omega
  go_enter Tryz.func4, Tryz.ntmps4
  go_wp2
  go_loopw [3] (fun i wr => ∃ (k : Nat), k ≤ l.length ∧ i = .int .i64 k ∧ Hid (∀ j (h : j < l.length), j < k → 0 ≤ l[j].2.2 ∧ l[j].2.2 ≤ 255 ∧ l[j].2.1.size ≤ 255) ∧ Hid (Below w.heap.size w wr)) (fun i _ => l.length - (intOf i).toNat)
  case atStart => exact ⟨0, Nat.zero_le _, rfl, Lib.hid (fun j _ hj => absurd hj (Nat.not_lt_zero j)), Lib.hid (Below.refl _ w)⟩
  case round =>
    obtain ⟨k, hk, rfl, HK, HB⟩ := hrel
    by_cases hlt : k < l.length
    rotate_left
    · obtain rfl : k = l.length := by omega
      have hok : okL l := fun x hx => by
        obtain ⟨j, hj, rfl⟩ := List.getElem_of_mem hx
        exact HK.out j hj hj
      clear HK hlt hk
      have P1 := Lib.hid (fun V (h : TRow V a l) (y : Tab V) => I8.fold_any a l kc V h (by omega) hok y)
      have P2 := Lib.hid (fun V (h : TRow V a l) => I4.rfold_any a l kc V h (by omega) (fun x hx => by have := (hok x hx).2.2; omega))
      have HS := Lib.hid (out_sml l)
      have HO := Lib.hid (out_ok l)
      have hlen := outI_len l
      have HL := Lib.hid (HL.out.below HB.out)
      clear hok
      generalize outI l = q at *
      have PO := Lib.hid (fun V => Ko.rok_any q.2.1 V)
      rw [HO.out] at PO
      go_wp2_with fail
      refine (P1.out _ HL.out (HT.out.below HB.out)).mono ?_
      rintro e w2 ⟨qa1, qk1, l1, rfl, hp1, hm1, hb, -⟩
      have HL := Lib.hid (HL.out.below hb)
      have HB := Lib.hid (bcall HB.out hb)
      clear hb
      go_upto_region 9 with (refine wpList_storeX (b := w2.heap.size) (m := Kx.zero) (m' := q.2.1) rfl _ _ rfl rfl rfl (Bk.Bk.new 35 w2 Kx.zero.cells) ?_)
      change Code.wp _ _ _ _ ((w2.alloc (.cells Kx.zero.cells 35)).setRow w2.heap.size q.2.1.cells)
      rw [World.setRow_alloc_new]
      have bel := balloc (Below.refl w2.heap.size w2) (.cells q.2.1.cells 35)
      have HL := Lib.hid (HL.out.below bel)
      have HB := Lib.hid (bcall HB.out bel)
      have XS1 := Lib.hid (Bk.Bk.new 35 w2 q.2.1.cells)
      have HM1 := Lib.hid (hm1.row.below bel)
      have HP1 := Lib.hid hp1
      clear bel hm1 hp1
      generalize w2.alloc (.cells q.2.1.cells 35) = V2 at *
      generalize w2.heap.size = g1 at *
      clear P1
      go_wp2_with fail
      refine (P2.out _ HL.out).mono ?_
      rintro e w3 ⟨qa2, qk2, l2, rfl, hp2, hm2, hb, -⟩
      have XS1 := Lib.hid (XS1.out.below hb)
      have HM1 := Lib.hid (HM1.out.below hb)
      have HB := Lib.hid (bcall HB.out hb)
      clear hb
      go_upto_region 10 with (refine wpList_storeX (b := w3.heap.size) (m := Kx.zero) (m' := q.2.1) rfl _ _ rfl rfl rfl (Bk.Bk.new 35 w3 Kx.zero.cells) ?_)
      change Code.wp _ _ _ _ ((w3.alloc (.cells Kx.zero.cells 35)).setRow w3.heap.size q.2.1.cells)
      rw [World.setRow_alloc_new]
      have bel := balloc (Below.refl w3.heap.size w3) (.cells q.2.1.cells 35)
      have XS1 := Lib.hid (XS1.out.below bel)
      have HM1 := Lib.hid (HM1.out.below bel)
      have HB := Lib.hid (bcall HB.out bel)
      have XS2 := Lib.hid (Bk.Bk.new 35 w3 q.2.1.cells)
      have HM2 := Lib.hid (hm2.row.below bel)
      have HP2 := Lib.hid hp2
      clear bel hm2 hp2
      generalize w3.alloc (.cells q.2.1.cells 35) = V3 at *
      generalize w3.heap.size = g2 at *
      clear P2 HL
      obtain ⟨ml, cx, at0, er⟩ := q
      have hse : sameL l1 l2 = true := by rw [HP1.out.same HP2.out]; exact sameL_refl _
      have hl1 : l1.length ≤ 40 := by rw [HP1.out.1]; exact Nat.le_trans hlen (by omega)
      have hl2 : l2.length ≤ 40 := by rw [HP2.out.1]; exact Nat.le_trans hlen (by omega)
      have PS := Lib.hid (fun V h h' => rsameAll_any qa1 qa2 qk1 qk2 l1 l2 V h h' (HP1.out.short HS.out) (HP2.out.short HS.out) (by omega) (by omega))
      rw [hse] at PS
      have e1 := int_same er
      have e2 := int_same at0
      clear hse hl1 hl2 hlen HP1 HP2 HS HO h40 h40' hn
      go_wp2_with fail
      refine (awake_any _ (HT.out.below HB.out)).mono ?_
      rintro r w4 ⟨rfl, hb⟩
      have HB := Lib.hid (bcall HB.out hb)
      have XS1 := Lib.hid (XS1.out.below hb)
      have XS2 := Lib.hid (XS2.out.below hb)
      have HM1 := Lib.hid (HM1.out.below hb)
      have HM2 := Lib.hid (HM2.out.below hb)
      clear hb
      go_wp2_with fail
      refine (PS.out _ HM1.out HM2.out).mono ?_
      rintro r w5 ⟨rfl, hb⟩
      have HB := Lib.hid (bcall HB.out hb)
      have XS1 := Lib.hid (XS1.out.below hb)
      have XS2 := Lib.hid (XS2.out.below hb)
      clear hb PS HM1 HM2
      go_wp2_with (first | (refine st_yes (v := .agg cx.cells) (by rfl) rfl (run_loadK shX (x := .tmp 5) rfl rfl XS1.out rfl) ?_) | (refine st_yes (v := .agg cx.cells) (by rfl) rfl (run_loadK shX (x := .tmp 9) rfl rfl XS2.out rfl) ?_) | (refine st_yes (v := .bool true) (by rfl) rfl (ex_eqX (c := cx) (x := .tmp 67) (y := .tmp 68) rfl rfl rfl) ?_))
      refine (PO.out _).mono ?_
      rintro r w6 ⟨rfl, hb⟩
      have HB := Lib.hid (bcall HB.out hb)
      clear hb
      go_wp2
      go_ret
      exact ⟨rfl, HB.out⟩
    obtain ⟨p, rfl, hat⟩ := tl_at HL.out k hlt
    have ix := fun W => indexT p l.length kc k hlt W
    obtain ⟨c0, c1, c2⟩ := hat _ HB.out
    have HU := Lib.hid (show l[k] = l[k] from rfl)
    rw [show ∀ q : Addr, q.add 2 = ⟨q.block, q.off + 2, none⟩ from Tl.add_two] at c2
    clear c1 hat
    have HN := Lib.hid (fun (h : 0 ≤ l[k].2.2 ∧ l[k].2.2 ≤ 255 ∧ l[k].2.1.size ≤ 255) j (hj : j < l.length) (hjk : j < k + 1) => show 0 ≤ l[j].2.2 ∧ l[j].2.2 ≤ 255 ∧ l[j].2.1.size ≤ 255 from by
      by_cases hjk2 : j < k
      · exact HK.out j hj hjk2
      · obtain rfl : j = k := by omega
        exact h)
    clear HK HU
    generalize l[k].2.2 = n at *
    generalize l[k].2.1 = d at *
    by_cases h0 : n < 0
    · clear HN
      go_wp2_with fail
      refine (awake_any _ (HT.out.below HB.out)).mono ?_
      rintro r w2 ⟨rfl, hb⟩
      have HB := Lib.hid (bcall HB.out hb)
      clear hb
      go_wp2
      go_ret
      exact ⟨rfl, HB.out⟩
    by_cases h255 : 255 < n
    · clear HN
      go_wp2_with fail
      refine (awake_any _ (HT.out.below HB.out)).mono ?_
      rintro r w2 ⟨rfl, hb⟩
      have HB := Lib.hid (bcall HB.out hb)
      clear hb
      go_wp2
      go_ret
      exact ⟨rfl, HB.out⟩
    by_cases hd255 : 255 < d.size
    · have hd255' : (255 : Int) < (d.size : Int) := by omega
      clear HN
      go_wp2_with fail
      refine (awake_any _ (HT.out.below HB.out)).mono ?_
      rintro r w2 ⟨rfl, hb⟩
      have HB := Lib.hid (bcall HB.out hb)
      clear hb
      go_wp2
      go_ret
      exact ⟨rfl, HB.out⟩
    have hd255' : ¬ (255 : Int) < (d.size : Int) := by omega
    have HK := Lib.hid (HN.out ⟨by omega, by omega, by omega⟩)
    clear HN
    go_wp2
    go_roundw
    case rel => exact ⟨k + 1, hlt, by go_num, HK, HB⟩
    case measure => simp [intOf]; omega

theorem own : ownKnob Tryz.prog.godebug = none := by kernel_rfl

set_option maxRecDepth 100000 in
theorem lifted (os : Os) (started : os.Started) (H : Type) (enc : TypeId × Value → H) :
    ReturnsInHanded {} Tryz.checked os 4 .any (fun w args => (Rows.intakeFoldsSpec.pre enc Tryz.prog Tryz.f4 Rows.intakeFoldsRow.domain false w args ∧ laidMetH Tryz.prog Rows.intakeFoldsRow.laid w) ∧ sizedMet enc Tryz.prog Tryz.f4 (OpenSpec.ofChange Rows.intakeFoldsSpec) false w args)
      (Rows.intakeFoldsSpec.post enc Tryz.prog Tryz.f4 false true false false) := by
  refine returnsInHanded_of_change_and (C := Tryz.checked) (X := fun w _ => laidMetH Tryz.prog Rows.intakeFoldsRow.laid w) (fun _ _ _ hh h => h.of_heap hh) own started (by kernel_rfl) Tryz.func4
    (ChangeSpec.witness_shaped (enc := enc) (C := Tryz.checked) (os := os) (X := fun w _ => laidMetH Tryz.prog Rows.intakeFoldsRow.laid w) false (World.laidAll Tryz.prog os Rows.intakeFoldsRow.laid) #[.slice none 0 0] 8 (World.laidAll_os _ _ _)
      (World.shaped_of_ZipB (by kernel_rfl) (by kernel_rfl)) (by kernel_rfl) (by kernel_rfl) (by kernel_rfl)
      (by rw [MakeChecks.laidMetH_plain _ _ _ (by kernel_rfl)]; exact laidMet_laidAll _ (by kernel_rfl) (by kernel_rfl))) ?_
  intro W base args ds gs before hval0 hW _ _ hL0 _
  have hMet := of_laid hL0
  have hval : ∀ (j : Nat) t v, Tryz.f4.params[j]? = some t → args[j]? = some v → Value.okWide Tryz.prog W .any base t v := hval0
  have hW' := hW
  have hlt := fun x hx => hW'.lt x hx
  obtain ⟨p, q, hA0, hV, rfl, hfz, hnd⟩ := hW
  have hA : DataW.TrodAll enc Tryz.prog W 0 (fun _ => true) true Tryz.f4.params.toList args.toList ds p := hA0
  rw [Tryz.params4] at hA hval
  obtain ⟨v0, vs0, d0, ds0, p0, q0, hargs, rfl, rfl, h0, r0⟩ := trodAll_cons hA
  obtain ⟨rfl, rfl, rfl⟩ := trodAll_nil r0
  obtain rfl : args = #[v0] := by cases args; simp_all
  obtain ⟨rfl, rfl⟩ := trodVars_none hV
  obtain ⟨a, l, k, rfl, hl, hn, _⟩ := by_tlvs (hval 0 29 v0 rfl rfl) h0
  clear hA0 hval0
  simp only [List.append_nil] at hW' hlt
  refine (walk a l k W hl hn hMet).mono fun e W' ⟨he, hg⟩ => ?_
  subst he
  exact ⟨_, rfl, _, _, _, [], _, [], hW', trodAll_mk1 (shut_bool Tryz.underlying4 _), (trodAll_cons_mk (again (by kernel_rfl) (of_decide_eq_true (by kernel_rfl)) h0 hg fun x hx => hlt x (by first | exact absurd hx (by simp) | simp [hx])) trodAll_mk0), rfl, hg.frame _, fun h => by cases h⟩

theorem over : Rows.IntakeFoldsSaid :=
  OpenClaim.holds_of_wide 4 Tryz.f4 rfl rfl rfl rfl rfl rfl rfl ⟨rfl, rfl, rfl, rfl, rfl⟩ rfl rfl rfl rfl rfl (by kernel_rfl) Tryz.func4 (by kernel_rfl)
    (of_decide_eq_true (by kernel_rfl)) (by unfold Func.isWrapper; first | (rw [if_pos (by decide +kernel)]; kernel_rfl) | (rw [if_neg (by decide +kernel)]; exact ⟨rfl, rfl⟩))
    (fun os started H enc _ => lifted os started H enc)

theorem proved : Rows.IntakeFoldsCardSaid :=
  Claim7.holds_tied_plain_at .later [] _ true _ _
    over (fun _ h => by cases h) (by kernel_rfl) (fun _ h => by cases h) intakeFolds_row_tie rfl ⟨rfl, rfl⟩ (by kernel_rfl) rfl
    (fun f fn hf hfn => by
      obtain rfl : f = 4 := Option.some.inj ((show Tryz.prog.funcNamed "roadbook/roadbooklaw23.IntakeFolds" = some 4 by kernel_rfl).symm.trans hf) |>.symm
      obtain rfl : fn = Tryz.f4 := (Option.some.inj (Tryz.func4.symm.trans hfn)).symm
      exact ⟨by kernel_rfl, fun j t ht => by
        rw [Tryz.params4] at ht
        have hm : t ∈ [29] := by simpa using Array.mem_of_getElem? ht
        have hall : ([29].all fun u => !Tryz.prog.wantsStandIn u) = true := by kernel_rfl
        exact (show Tryz.prog.wantsStandIn t = false by simpa using List.all_eq_true.1 hall t hm)⟩)
    (by kernel_rfl)
#print axioms proved
end Go.Proofs.YtpkmpinbpfblfaaGreatDoor.intakeFolds
