/-
  The statement IntakeParts, of any TLVs and any cut. Condition: the listed variables have what the program's text lays them with (the tied card).
-/
import Derived.Test.YtpkmpinbpfblfaaDoorQ12
import Derived.Test.YtpkmpinbpfblfaaDoorCards
import Derived.Test.YtpkmpinbpfblfaaDoorTie
import Derived.Lay
import Derived.SevenTiedAt
import Derived.Stop.Joined
namespace Go.Proofs.YtpkmpinbpfblfaaDoor.intakeParts
open Go.ChangeShapes Go.WideShapes Go.ChangeAt Go.RowKit
open Go.ChangeMaps (open_string shut_string)
open Go.Proofs.YtpkmpinbpfblfaaDoor.Ms
open Go.Proofs.YtpkmpinbpfblfaaDoor.Box
open Go.Proofs.YtpkmpinbpfblfaaDoor.All
open Go.Proofs.YtpkmpinbpfblfaaDoor.An
open Go.Proofs.YtpkmpinbpfblfaaDoor.Tc
open Go.Proofs.YtpkmpinbpfblfaaDoor.K1
open Go.Proofs.YtpkmpinbpfblfaaDoor.Kb
open Go.Proofs.YtpkmpinbpfblfaaDoor.I1
open Go.Proofs.YtpkmpinbpfblfaaDoor.I2
open Go.Proofs.YtpkmpinbpfblfaaDoor.Fq
open Go.Proofs.YtpkmpinbpfblfaaDoor.I9
open Go.Proofs.YtpkmpinbpfblfaaDoor.Hs
open Go.Proofs.YtpkmpinbpfblfaaDoor.Open
set_option linter.unusedVariables false

open Go.Proofs.YtpkmpinbpfblfaaDoor.Tl (cellsT TRow indexT)
open Go.Proofs.YtpkmpinbpfblfaaDoor.Or (st_yes)
open Go.Proofs.YtpkmpinbpfblfaaDoor.Hx (ex_built)
open Go.Proofs.YtpkmpinbpfblfaaDoor.Hy (H.one H.two wp_valW)
open Go.Proofs.YtpkmpinbpfblfaaDoor.Bk (Bk wpList_builtK run_loadK alloc_size)
open Go.Proofs.YtpkmpinbpfblfaaDoor.F1 (outT outB trail okT encT placed)
open Go.Proofs.YtpkmpinbpfblfaaDoor.K9 (int_same)
open Go.Proofs.YtpkmpinbpfblfaaDoor.Su
theorem part_facts {l1 l2 r s : List M} {n k : Nat} (z1 : l1.length = r.length) (z2 : l2.length = (r ++ s).length) (hs : s.length ≤ n - k) (hk : k ≤ n) (hn : n ≤ 40) (hr : r.length ≤ 40) :
    l1.length ≤ l2.length ∧ (l2.take l1.length).length = l1.length ∧ l1.length ≤ 1048576 ∧ l2.length ≤ 1048576 ∧ (l1.length : Int) ≤ (l2.length : Int) ∧ (l2.length : Int) ≤ (l1.length : Int) + (n : Int) - (k : Int) ∧ wrap64 ((l1.length : Int) + (n : Int)) = (l1.length : Int) + (n : Int) ∧ wrap64 ((l1.length : Int) + (n : Int) - (k : Int)) = (l1.length : Int) + (n : Int) - (k : Int) := by
  rw [List.length_append] at z2
  exact ⟨by omega, by rw [List.length_take]; omega, by omega, by omega, by omega, by omega, IntWalk.wrap64_in _ (by omega), IntWalk.wrap64_in _ (by omega)⟩

set_option maxHeartbeats 51200000 in
set_option maxRecDepth 100000 in
theorem walk (a : Option Addr) (l : List F1.T) (kc : Nat) (cu : Int) (w : World) (hl : TRow w a l) (hn : l.length ≤ 9223372036854775807) (hkc : l.length ≤ kc) (wf : (Lit.int .u8 cu).wf = true) (ht : Tab w) :
    Calls Tryd.prog 4 #[.slice a l.length kc, .int .u8 cu] w fun r w' => r = .returned (.bool true) ∧ Below w.heap.size w w' := by
  have HT := Lib.hid ht
  have h1 := ht.pos
  clear ht
  have HL := Lib.hid hl
  clear hl
  by_cases h40 : 40 < l.length
  · have h40' : (40 : Int) < (l.length : Int) := by omega
    go_enter Tryd.func4, Tryd.ntmps4
    go_wp2_with fail
    refine (awake_any _ (HT.out)).mono ?_
    rintro r w1 ⟨rfl, hb⟩
    have HB := Lib.hid hb
    clear hb
    go_wp2
    go_ret
    exact ⟨rfl, HB.out⟩
  have h40' : ¬ (40 : Int) < (l.length : Int) := by omega
  have hcu : 0 ≤ cu ∧ cu ≤ 255 := by
    have h : IntKind.u8.min ≤ cu ∧ cu ≤ IntKind.u8.max := by simpa [Lit.wf] using wf
    exact h
  clear wf
  go_enter Tryd.func4, Tryd.ntmps4
  go_wp2
  go_loopw [5] (fun i wr => ∃ (k : Nat), k ≤ l.length ∧ i = .int .i64 k ∧ Hid (∀ j (h : j < l.length), j < k → 0 ≤ l[j].2.2 ∧ l[j].2.2 ≤ 255 ∧ l[j].2.1.size ≤ 255) ∧ Hid (Below w.heap.size w wr)) (fun i _ => l.length - (intOf i).toNat)
  case atStart => exact ⟨0, Nat.zero_le _, rfl, Lib.hid (fun j _ hj => absurd hj (Nat.not_lt_zero j)), Lib.hid (Below.refl _ w)⟩
  case round =>
    obtain ⟨k, hk, rfl, HK, HB⟩ := hrel
    by_cases hlt : k < l.length
    rotate_left
    · obtain rfl : k = l.length := by omega
      have hok : okL l := fun x hx => by
        obtain ⟨j, hj, rfl⟩ := List.getElem_of_mem hx
        exact HK.out j hj hj
      clear HK hlt hk
      have q1 : IntKind.i64.wrap ((l.length : Int) + 1) = (l.length : Int) + 1 := IntWalk.i64_in _ (by omega)
      have q2 : wrap64 ((l.length : Int) + 1) = (l.length : Int) + 1 := IntWalk.wrap64_in _ (by omega)
      have htm : cu.tmod ((l.length : Int) + 1) = cu % ((l.length : Int) + 1) := Int.tmod_eq_emod_of_nonneg hcu.1
      go_upto_region 9 with fail
      clear q1 q2 htm
      have em1 := Int.emod_nonneg cu (b := (l.length : Int) + 1) (by omega)
      have em2 := Int.emod_lt_of_pos cu (b := (l.length : Int) + 1) (by omega)
      obtain ⟨k, hk, hle⟩ : ∃ k : Nat, cu % ((l.length : Int) + 1) = k ∧ k ≤ l.length := ⟨(cu % ((l.length : Int) + 1)).toNat, by omega, by omega⟩
      rw [hk]
      have SL := fun W => slT_hi a l.length kc k (by omega) W
      have hlk : (l.take k).length = k := by rw [List.length_take]; omega
      have P1 := Lib.hid (fun V (h : TRow V a l) (y : Tab V) => I8.fold_any a (l.take k) kc V (tr_take h k) (by omega) (fun x hx => hok x (List.mem_of_mem_take hx)) y)
      rw [hlk] at P1
      have P2 := Lib.hid (fun V (h : TRow V a l) (y : Tab V) => I8.fold_any a l kc V h (by omega) hok y)
      have HS1 := Lib.hid (out_sml (l.take k))
      have HS2 := Lib.hid (out_sml l)
      have HPT := Lib.hid (parts (l.take k) (l.drop k))
      rw [List.take_append_drop] at HPT
      have HDL := Lib.hid (show (l.drop k).length = l.length - k from List.length_drop)
      have HL := Lib.hid (HL.out.below HB.out)
      have hN : (l.length : Int) ≤ 40 := by omega
      have NN := Lib.hid (show l.length ≤ 40 by omega)
      have hK : (k : Int) ≤ (l.length : Int) := by omega
      clear hok em1 em2 hk hcu hlk
      have RL := Lib.hid (Nat.le_trans (outI_len (l.take k)) (by rw [List.length_take]; omega : (l.take k).length ≤ 40))
      generalize outI (l.take k) = qa at *
      generalize outI l = qb at *
      go_wp2_with fail
      refine (P1.out _ HL.out (HT.out.below HB.out)).mono ?_
      rintro e w2 ⟨qa1, qk1, l1, rfl, hp1, hm1, hb, -⟩
      have HL := Lib.hid (HL.out.below hb)
      have hws := HB.out.size
      have HB := Lib.hid (bcall HB.out hb)
      clear hb
      go_upto_region 10 with (refine wpList_storeX (b := w2.heap.size) (m := Kx.zero) (m' := qa.2.1) rfl _ _ rfl rfl rfl (Bk.Bk.new 44 w2 Kx.zero.cells) ?_)
      change Code.wp _ _ _ _ ((w2.alloc (.cells Kx.zero.cells 44)).setRow w2.heap.size qa.2.1.cells)
      rw [World.setRow_alloc_new]
      have bel := balloc (Below.refl w2.heap.size w2) (.cells qa.2.1.cells 44)
      have HL := Lib.hid (HL.out.below bel)
      have HB := Lib.hid (bcall HB.out bel)
      have XS1 := Lib.hid (Bk.Bk.new 44 w2 qa.2.1.cells)
      have HM1 := Lib.hid ((hm1.mono hws).below bel)
      have HP1 := Lib.hid hp1
      clear bel hm1 hp1 hws
      generalize w2.alloc (.cells qa.2.1.cells 44) = V2 at *
      generalize w2.heap.size = g1 at *
      clear P1 SL XS1
      go_wp2_with fail
      refine (P2.out _ HL.out (HT.out.below HB.out)).mono ?_
      rintro e w3 ⟨qa2, qk2, l2, rfl, hp2, hm2, hb, hk2⟩
      have HM1 := Lib.hid (HM1.out.below hb)
      have hws := HB.out.size
      have HB := Lib.hid (bcall HB.out hb)
      clear hb
      go_upto_region 11 with (refine wpList_storeX (b := w3.heap.size) (m := Kx.zero) (m' := qb.2.1) rfl _ _ rfl rfl rfl (Bk.Bk.new 44 w3 Kx.zero.cells) ?_)
      change Code.wp _ _ _ _ ((w3.alloc (.cells Kx.zero.cells 44)).setRow w3.heap.size qb.2.1.cells)
      rw [World.setRow_alloc_new]
      have bel := balloc (Below.refl w3.heap.size w3) (.cells qb.2.1.cells 44)
      have HM1 := Lib.hid (HM1.out.below bel)
      have HB := Lib.hid (bcall HB.out bel)
      have XS2 := Lib.hid (Bk.Bk.new 44 w3 qb.2.1.cells)
      have HM2 := Lib.hid ((hm2.mono hws).below bel)
      have HP2 := Lib.hid hp2
      clear bel hm2 hp2 hws
      generalize w3.alloc (.cells qb.2.1.cells 44) = V3 at *
      generalize w3.heap.size = g2 at *
      clear P2 HL XS2
      rcases HPT.out with ⟨p, e, he, h1, h2⟩ | ⟨r, c, h1, ⟨p, e, he, h2, _⟩ | ⟨s, c', h2, hs, _⟩⟩
      · subst h1 h2
        dsimp only at HP1 HP2 ⊢
        obtain rfl := HP1.out.at_nil
        obtain rfl := HP2.out.at_nil
        have e1 : (e == 0) = false := by simpa using he
        have e2 : (e != 0) = true := by rw [bne, e1]; rfl
        have e3 := int_same e
        have e4 := int_same p
        clear he HPT HP1 HP2 HM1 HM2 HS1 HS2 hk2 HDL
        go_wp2_with fail
        refine (awake_any _ (HT.out.below HB.out)).mono ?_
        rintro r w4 ⟨rfl, hb⟩
        have HB := Lib.hid (bcall HB.out hb)
        clear hb
        go_wp2
        go_ret
        exact ⟨rfl, HB.out⟩
      · subst h1 h2
        dsimp only at HP1 HP2 ⊢
        obtain rfl := HP2.out.at_nil
        have e1 : (e == 0) = false := by simpa using he
        have e2 : (e != 0) = true := by rw [bne, e1]; rfl
        clear he HPT HP1 HP2 HM1 HM2 HS1 HS2 hk2 HDL
        go_wp2_with fail
        refine (awake_any _ (HT.out.below HB.out)).mono ?_
        rintro r w4 ⟨rfl, hb⟩
        have HB := Lib.hid (bcall HB.out hb)
        clear hb
        go_wp2
        go_ret
        exact ⟨rfl, HB.out⟩
      · subst h1 h2
        dsimp only at HP1 HP2 HS1 HS2 RL ⊢
        obtain ⟨y1, y2, y3, y4, g1, g2, f1, f2⟩ := part_facts HP1.out.1 HP2.out.1 (HDL.out ▸ hs) hle NN.out RL.out
        have HS3 := Lib.hid (HP1.out.short HS1.out)
        have HS4 := Lib.hid (HP2.out.short HS2.out)
        have htk : PlL (l2.take l1.length) r := by
          have := PlL.take HP2.out l1.length
          rwa [HP1.out.1, List.take_left, ← HP1.out.1] at this
        have hse : sameL l1 (l2.take l1.length) = true := by rw [HP1.out.same htk]; exact sameL_refl _
        have PS := Lib.hid (fun V h h' => rsameAll_any qa1 qa2 qk1 qk2 l1 (l2.take l1.length) V h h' HS3.out (fun m hm => HS4.out m (List.mem_of_mem_take hm)) y3 (by rw [y2]; exact y3))
        rw [hse, y2] at PS
        have SM := fun W => slM_hi qa2 l2.length qk2 l1.length (Nat.le_trans y1 hk2) W
        clear HPT HP1 HP2 HS1 HS2 HS3 HS4 hk2 HDL htk hse y1 y2 y3 y4 hs h40 h40' hn hkc NN RL hle hN hK
        go_wp2_with fail
        refine (awake_any _ (HT.out.below HB.out)).mono ?_
        rintro r w4 ⟨rfl, hb⟩
        have HB := Lib.hid (bcall HB.out hb)
        have HM1 := Lib.hid (HM1.out.below hb)
        have HM2 := Lib.hid (HM2.out.below hb)
        clear hb
        go_wp2_with fail
        refine (PS.out _ HM1.out.row (mo_take HM2.out _).row).mono ?_
        rintro r w5 ⟨rfl, hb⟩
        have HB := Lib.hid (bcall HB.out hb)
        clear hb
        go_wp2
        go_ret
        exact ⟨rfl, HB.out⟩
    obtain ⟨p, rfl, hat⟩ := tl_at HL.out k hlt
    have ix := fun W => indexT p l.length kc k hlt W
    obtain ⟨c0, c1, c2⟩ := hat _ HB.out
    have HU := Lib.hid (show l[k] = l[k] from rfl)
    rw [show ∀ q : Addr, q.add 2 = ⟨q.block, q.off + 2, none⟩ from Tl.add_two] at c2
    clear c1 hat
    have HN := Lib.hid (fun (h : 0 ≤ l[k].2.2 ∧ l[k].2.2 ≤ 255 ∧ l[k].2.1.size ≤ 255) j (hj : j < l.length) (hjk : j < k + 1) => show 0 ≤ l[j].2.2 ∧ l[j].2.2 ≤ 255 ∧ l[j].2.1.size ≤ 255 from by
      by_cases hjk2 : j < k
      · exact HK.out j hj hjk2
      · obtain rfl : j = k := by omega
        exact h)
    clear HK HU
    generalize l[k].2.2 = n at *
    generalize l[k].2.1 = d at *
    by_cases h0 : n < 0
    · clear HN
      go_wp2_with fail
      refine (awake_any _ (HT.out.below HB.out)).mono ?_
      rintro r w2 ⟨rfl, hb⟩
      have HB := Lib.hid (bcall HB.out hb)
      clear hb
      go_wp2
      go_ret
      exact ⟨rfl, HB.out⟩
    by_cases h255 : 255 < n
    · clear HN
      go_wp2_with fail
      refine (awake_any _ (HT.out.below HB.out)).mono ?_
      rintro r w2 ⟨rfl, hb⟩
      have HB := Lib.hid (bcall HB.out hb)
      clear hb
      go_wp2
      go_ret
      exact ⟨rfl, HB.out⟩
    by_cases hd255 : 255 < d.size
    · have hd255' : (255 : Int) < (d.size : Int) := by omega
      clear HN
      go_wp2_with fail
      refine (awake_any _ (HT.out.below HB.out)).mono ?_
      rintro r w2 ⟨rfl, hb⟩
      have HB := Lib.hid (bcall HB.out hb)
      clear hb
      go_wp2
      go_ret
      exact ⟨rfl, HB.out⟩
    have hd255' : ¬ (255 : Int) < (d.size : Int) := by omega
    have HK := Lib.hid (HN.out ⟨by omega, by omega, by omega⟩)
    clear HN
    go_wp2
    go_roundw
    case rel => exact ⟨k + 1, hlt, by go_num, HK, HB⟩
    case measure => simp [intOf]; omega

theorem own : ownKnob Tryd.prog.godebug = none := by kernel_rfl

set_option maxRecDepth 100000 in
theorem lifted (os : Os) (started : os.Started) (H : Type) (enc : TypeId × Value → H) :
    ReturnsInHanded {} Tryd.checked os 4 .any (fun w args => (Rows.intakePartsSpec.pre enc Tryd.prog Tryd.f4 Rows.intakePartsRow.domain false w args ∧ laidMetH Tryd.prog Rows.intakePartsRow.laid w) ∧ sizedMet enc Tryd.prog Tryd.f4 (OpenSpec.ofChange Rows.intakePartsSpec) false w args)
      (Rows.intakePartsSpec.post enc Tryd.prog Tryd.f4 false true false false) := by
  refine returnsInHanded_of_change_and (C := Tryd.checked) (X := fun w _ => laidMetH Tryd.prog Rows.intakePartsRow.laid w) (fun _ _ _ hh h => h.of_heap hh) own started (by kernel_rfl) Tryd.func4
    (ChangeSpec.witness_shaped (enc := enc) (C := Tryd.checked) (os := os) (X := fun w _ => laidMetH Tryd.prog Rows.intakePartsRow.laid w) false (World.laidAll Tryd.prog os Rows.intakePartsRow.laid) #[.slice none 0 0, .int .u8 0] 8 (World.laidAll_os _ _ _)
      (World.shaped_of_ZipB (by kernel_rfl) (by kernel_rfl)) (by kernel_rfl) (by kernel_rfl) (by kernel_rfl)
      (by rw [MakeChecks.laidMetH_plain _ _ _ (by kernel_rfl)]; exact laidMet_laidAll _ (by kernel_rfl) (by kernel_rfl))) ?_
  intro W base args ds gs before hval0 hW _ _ hL0 _
  have hMet := of_laid hL0
  have hval : ∀ (j : Nat) t v, Tryd.f4.params[j]? = some t → args[j]? = some v → Value.okWide Tryd.prog W .any base t v := hval0
  have hW' := hW
  have hlt := fun x hx => hW'.lt x hx
  obtain ⟨p, q, hA0, hV, rfl, hfz, hnd⟩ := hW
  have hA : DataW.TrodAll enc Tryd.prog W 0 (fun _ => true) true Tryd.f4.params.toList args.toList ds p := hA0
  rw [Tryd.params4] at hA hval
  obtain ⟨v0, vs0, d0, ds0, p0, q0, hargs, rfl, rfl, h0, r0⟩ := trodAll_cons hA
  obtain ⟨v1, vs1, d1, ds1, p1, q1, rfl, rfl, rfl, h1, r1⟩ := trodAll_cons r0
  obtain ⟨rfl, rfl, rfl⟩ := trodAll_nil r1
  obtain rfl : args = #[v0, v1] := by cases args; simp_all
  obtain ⟨rfl, rfl⟩ := trodVars_none hV
  obtain ⟨a, l, k, rfl, hl, hn, hkc⟩ := by_tlvs2 (hval 0 30 v0 rfl rfl) h0
  have k1 := h1
  obtain ⟨n, rfl, rfl, rfl, wf⟩ := open_int Tryd.underlying5 (hval 1 5 v1 rfl rfl) k1
  clear hA0 hval0
  simp only [List.append_nil] at hW' hlt
  refine (walk a l k n W hl hn hkc wf hMet).mono fun e W' ⟨he, hg⟩ => ?_
  subst he
  exact ⟨_, rfl, _, _, _, [], _, [], hW', trodAll_mk1 (shut_bool Tryd.underlying4 _), (trodAll_cons_mk (again (by kernel_rfl) (of_decide_eq_true (by kernel_rfl)) h0 hg fun x hx => hlt x (by first | exact absurd hx (by simp) | simp [hx])) (trodAll_cons_mk (again (by kernel_rfl) (of_decide_eq_true (by kernel_rfl)) h1 hg fun x hx => hlt x (by first | exact absurd hx (by simp) | simp [hx])) trodAll_mk0)), rfl, hg.frame _, fun h => by cases h⟩

theorem over : Rows.IntakePartsSaid :=
  OpenClaim.holds_of_wide 4 Tryd.f4 rfl rfl rfl rfl rfl rfl rfl ⟨rfl, rfl, rfl, rfl, rfl⟩ rfl rfl rfl rfl rfl (by kernel_rfl) Tryd.func4 (by kernel_rfl)
    (of_decide_eq_true (by kernel_rfl)) (by unfold Func.isWrapper; first | (rw [if_pos (by decide +kernel)]; kernel_rfl) | (rw [if_neg (by decide +kernel)]; exact ⟨rfl, rfl⟩))
    (fun os started H enc _ => lifted os started H enc)

theorem proved : Rows.IntakePartsCardSaid :=
  Claim7.holds_tied_plain_at .later [] _ true _ _
    over (fun _ h => by cases h) (by kernel_rfl) (fun _ h => by cases h) intakeParts_row_tie rfl ⟨rfl, rfl⟩ (by kernel_rfl) rfl
    (fun f fn hf hfn => by
      obtain rfl : f = 4 := Option.some.inj ((show Tryd.prog.funcNamed "roadbook/roadbooklaw23.IntakeParts" = some 4 by kernel_rfl).symm.trans hf) |>.symm
      obtain rfl : fn = Tryd.f4 := (Option.some.inj (Tryd.func4.symm.trans hfn)).symm
      exact ⟨by kernel_rfl, fun j t ht => by
        rw [Tryd.params4] at ht
        have hm : t ∈ [30, 5] := by simpa using Array.mem_of_getElem? ht
        have hall : ([30, 5].all fun u => !Tryd.prog.wantsStandIn u) = true := by kernel_rfl
        exact (show Tryd.prog.wantsStandIn t = false by simpa using List.all_eq_true.1 hall t hm)⟩)
    (by kernel_rfl)
#print axioms proved
end Go.Proofs.YtpkmpinbpfblfaaDoor.intakeParts
