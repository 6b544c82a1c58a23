/-
  The statement SubPads, of any Subs and any paddings. No conditions.
-/
import Derived.Test.YtgfjhemfhfdklaaS8
namespace Go.Proofs.Ytgfjhemfhfdklaa.subPads
open Go.ChangeShapes Go.WideShapes Go.ChangeAt Go.RowKit
open Go.ChangeMaps (open_string shut_string)
open Go.Proofs.Ytgfjhemfhfdklaa.Ms
open Go.Proofs.Ytgfjhemfhfdklaa.Cnt
open Go.Proofs.Ytgfjhemfhfdklaa.Sm
open Go.Proofs.Ytgfjhemfhfdklaa.S1
open Go.Proofs.Ytgfjhemfhfdklaa.S2
open Go.Proofs.Ytgfjhemfhfdklaa.S3
open Go.Proofs.Ytgfjhemfhfdklaa.S4
open Go.Proofs.Ytgfjhemfhfdklaa.S5
open Go.Proofs.Ytgfjhemfhfdklaa.S6
open Go.Proofs.Ytgfjhemfhfdklaa.S7
open Go.Proofs.Ytgfjhemfhfdklaa.S8
open Go.Proofs.Ytgfjhemfhfdklaa.Open
set_option linter.unusedVariables false

theorem bytes_same (a : ByteArray) : (a.toList == a.toList) = true := by simp
theorem bool_same (a : Bool) : (a == a) = true := by simp
theorem int_same (a : Int) : (a == a) = true := by simp

set_option maxHeartbeats 6400000 in
set_option maxRecDepth 100000 in
theorem walk (a : Option Addr) (c : Nat) (l : List El) (b : Option Addr) (d : Nat) (m : List Int) (w : World) (hl : SRow w a l) (hlc : l.length ≤ c) (hm : BRow w b m) :
    Calls Try.prog 5 #[.slice a l.length c, .slice b m.length d] w fun r w' => r = .returned (.bool true) ∧ Below w.heap.size w w' := by
  have PF := Lib.hid (few_any a c l w hl)
  have HM := Lib.hid hm
  clear hm
  by_cases hf : fewS l = true
  rotate_left
  · have hf : fewS l = false := by simpa using hf
    rw [hf] at PF
    clear hf hl
    go_enter Try.func5, Try.ntmps5
    go_wp2_with fail
    refine (PF.out).mono ?_
    rintro r w1 ⟨rfl, hb⟩
    have HB := Lib.hid hb
    clear hb  PF
    go_wp2_with fail
    refine (awake_any _).mono ?_
    rintro r w2 ⟨rfl, hb⟩
    have HB := Lib.hid (bcall HB.out hb)
    clear hb
    go_wp2
    go_ret
    exact ⟨rfl, HB.out⟩
  have HL1 := Lib.hid (few_len hf)
  have HL2 := Lib.hid (show ∀ x ∈ l, x.1.size ≤ 1099511627776 from fun x hx => by have := few_size hf x hx; omega)
  rw [hf] at PF
  have HR := Lib.hid hl
  clear hf hl
  have PR := Lib.hid (fun W (hb : Below w.heap.size w W) => right_any a c l W (HR.out.below hb) (by have := HL1.out; omega) HL2.out)
  by_cases hok : okS l = true
  rotate_left
  · have hok : okS l = false := by simpa using hok
    rw [hok] at PR
    clear hok
    go_enter Try.func5, Try.ntmps5
    go_wp2_with fail
    refine (PF.out).mono ?_
    rintro r w1 ⟨rfl, hb⟩
    have HB := Lib.hid hb
    clear hb  PF
    go_wp2_with fail
    refine (PR.out _ HB.out).mono ?_
    rintro r w2 ⟨rfl, hb⟩
    have HB := Lib.hid (bcall HB.out hb)
    clear hb  PR
    go_wp2_with fail
    refine (awake_any _).mono ?_
    rintro r w3 ⟨rfl, hb⟩
    have HB := Lib.hid (bcall HB.out hb)
    clear hb
    go_wp2
    go_ret
    exact ⟨rfl, HB.out⟩
  rw [hok] at PR
  have HO := Lib.hid hok
  clear hok
  by_cases hp : 60 < m.length
  · go_enter Try.func5, Try.ntmps5
    go_wp2_with fail
    refine (PF.out).mono ?_
    rintro r w1 ⟨rfl, hb⟩
    have HB := Lib.hid hb
    clear hb  PF
    go_wp2_with fail
    refine (PR.out _ HB.out).mono ?_
    rintro r w2 ⟨rfl, hb⟩
    have HB := Lib.hid (bcall HB.out hb)
    clear hb  PR
    go_wp2_with fail
    refine (awake_any _).mono ?_
    rintro r w3 ⟨rfl, hb⟩
    have HB := Lib.hid (bcall HB.out hb)
    clear hb
    go_wp2
    go_ret
    exact ⟨rfl, HB.out⟩
  have HP := Lib.hid (show m.length ≤ 60 by omega)
  go_enter Try.func5, Try.ntmps5
  go_wp2_with fail
  refine (PF.out).mono ?_
  rintro r w1 ⟨rfl, hb⟩
  have HB := Lib.hid hb
  clear hb  PF
  go_wp2_with fail
  refine (PR.out _ HB.out).mono ?_
  rintro r w2 ⟨rfl, hb⟩
  have HB := Lib.hid (bcall HB.out hb)
  clear hb  PR
  have HLC := Lib.hid hlc
  have hl60 : (l.length : Int) ≤ 60 := by have := HL1.out; omega
  go_wp2
  go_loopw [5, 6] (fun s i wr => ∃ (k : Nat) (u : ByteArray), k ≤ l.length + 1 ∧ i = .int .i64 k ∧ s = .string u ∧ Hid (Pd l k u) ∧ Hid (u.size ≤ 204 * k) ∧ Hid (Below w.heap.size w wr)) (fun _ i _ => l.length + 1 - (intOf i).toNat)
  case atStart => exact ⟨0, ⟨#[]⟩, Nat.zero_le _, rfl, rfl, Lib.hid (Pd.zero l), Lib.hid (Nat.zero_le _), HB⟩
  case round =>
    clear HB
    obtain ⟨k, u, hk, rfl, rfl, HU, HS, HB⟩ := hrel
    have hk0 : (k : Int) ≤ 61 := by omega
    by_cases hlt : k ≤ l.length
    rotate_left
    · obtain rfl : k = l.length + 1 := by omega
      have P1 := Lib.hid (fun W => get_own u W (by have := HS.out; have := HL1.out; omega))
      rw [HU.out.out (Nat.le_succ _) HO.out] at P1
      have R1 := Lib.hid (HR.out.below HB.out)
      have HLl := Lib.hid (show l.length ≤ 1048576 by have := HL1.out; omega)
      clear HU HS hlt hk
      go_wp2_with fail
      refine (P1.out _).mono ?_
      rintro r w3 ⟨a1, k1, rfl, m1, hb⟩
      have R1 := Lib.hid (R1.out.below hb)
      have M1 := Lib.hid m1.row
      have HB := Lib.hid (bcall HB.out hb)
      clear hb  P1 m1
      dsimp only [List.length_nil]
      go_wp2_with fail
      refine (awake_any _).mono ?_
      rintro r w4 ⟨rfl, hb⟩
      have R1 := Lib.hid (R1.out.below hb)
      have M1 := Lib.hid (M1.out.below hb)
      have HB := Lib.hid (bcall HB.out hb)
      clear hb
      have PS := Lib.hid (same_any a a1 c k1 l l _ R1.out M1.out HLl.out HLl.out)
      rw [decide_eq_true rfl] at PS
      go_wp2_with fail
      refine (PS.out).mono ?_
      rintro r w5 ⟨rfl, hb⟩
      have HB := Lib.hid (bcall HB.out hb)
      clear hb  PS M1 R1
      go_wp2
      go_ret
      exact ⟨rfl, HB.out⟩
    by_cases hpl : k < m.length
    · obtain ⟨q, rfl, hqq, c0, g0, g1⟩ := (HM.out.below HB.out) k hpl
      generalize m[k] = v at *
      go_upto_region 9 with fail
      have hv0 : 0 ≤ v % 5 := by omega
      obtain ⟨n, hn⟩ := Int.eq_ofNat_of_zero_le hv0
      have hn5 : n < 5 := by omega
      rw [hn]
      clear hn hv0 g0 g1
      clear hqq c0
      have i5 := fun W => index_five wr.heap.size n hn5 W
      have c5 := cell_five wr n hn5
      have HUP := Lib.hid (HU.out.pad hn5)
      have hpz := (pad_facts hn5).2.2.2.2
      have HSP : Hid ((u ++ padB n).size ≤ 204 * k + 4) := Lib.hid (by rw [ByteArray.size_append]; have := HS.out; omega)
      have ct := F6.cat_is u (padB n) _ (by have := HS.out; omega) (by omega) rfl
      clear HU HS hpz
      have HB := Lib.hid (balloc HB.out (.cells padC 9))
      generalize u ++ padB n = u1 at *
      generalize padB n = z0 at *
      go_upto_region 10 with (first | (refine bs_five rfl rfl ?_))
      generalize wr.alloc (.cells padC 9) = W1 at *
      clear i5 c5 ct
      by_cases hlt2 : k < l.length
      · obtain ⟨p, rfl, hpp, -, -⟩ := (HR.out.below HB.out) k hlt2
        have R1 := Lib.hid (row_one (HR.out.below HB.out) k hlt2)
        have sl := fun W => slice_one p l.length c k ((k : Int) + 1) rfl (by have := HLC.out; omega) W
        have ho := okS_one HO.out (List.getElem_mem hlt2)
        have PP := Lib.hid (put_any (some (p.add (k * 2))) (c - k) [l[k]] _ R1.out (by show 1 ≤ 2000; omega) (okS_mem ho))
        rw [ho] at PP
        have HU2 := Lib.hid (HUP.out.one hlt2 HO.out)
        have hps := putS_le [l[k]]
        have ct := F6.cat_is u1 (putS [l[k]]) _ (by have := HSP.out; omega) (by omega) rfl
        have HS2 : Hid ((u1 ++ putS [l[k]]).size ≤ 204 * (k + 1)) := Lib.hid (by rw [ByteArray.size_append]; have := HSP.out; omega)
        clear ho hps hpp
        generalize u1 ++ putS [l[k]] = u2 at *
        generalize putS [l[k]] = z at *
        generalize hq : p.add (k * 2) = q at *
        generalize c - k = ck at *
        clear hq
        go_wp2_with fail
        refine PP.out.mono ?_
        rintro e w7 ⟨rfl, hb⟩
        have HB := Lib.hid (bcall HB.out hb)
        clear hb PP sl
        go_wp2
        go_roundw
        case rel => exact ⟨k + 1, u2, by omega, by go_num, rfl, HU2, HS2, HB⟩
        case measure => simp [intOf]; omega
      · have HU2 := Lib.hid (HUP.out.fin (show l.length ≤ k by omega))
        have HS2 : Hid (u1.size ≤ 204 * (k + 1)) := Lib.hid (by have := HSP.out; omega)
        go_wp2
        go_roundw
        case rel => exact ⟨k + 1, u1, by omega, by go_num, rfl, HU2, HS2, HB⟩
        case measure => simp [intOf]; omega
    · have HSP : Hid (u.size ≤ 204 * k + 4) := Lib.hid (by have := HS.out; omega)
      by_cases hlt2 : k < l.length
      · obtain ⟨p, rfl, hpp, -, -⟩ := (HR.out.below HB.out) k hlt2
        have R1 := Lib.hid (row_one (HR.out.below HB.out) k hlt2)
        have sl := fun W => slice_one p l.length c k ((k : Int) + 1) rfl (by have := HLC.out; omega) W
        have ho := okS_one HO.out (List.getElem_mem hlt2)
        have PP := Lib.hid (put_any (some (p.add (k * 2))) (c - k) [l[k]] _ R1.out (by show 1 ≤ 2000; omega) (okS_mem ho))
        rw [ho] at PP
        have HU2 := Lib.hid (HU.out.one hlt2 HO.out)
        have hps := putS_le [l[k]]
        have ct := F6.cat_is u (putS [l[k]]) _ (by have := HSP.out; omega) (by omega) rfl
        have HS2 : Hid ((u ++ putS [l[k]]).size ≤ 204 * (k + 1)) := Lib.hid (by rw [ByteArray.size_append]; have := HSP.out; omega)
        clear ho hps hpp
        generalize u ++ putS [l[k]] = u2 at *
        generalize putS [l[k]] = z at *
        generalize hq : p.add (k * 2) = q at *
        generalize c - k = ck at *
        clear hq
        go_wp2_with fail
        refine PP.out.mono ?_
        rintro e w7 ⟨rfl, hb⟩
        have HB := Lib.hid (bcall HB.out hb)
        clear hb PP sl
        go_wp2
        go_roundw
        case rel => exact ⟨k + 1, u2, by omega, by go_num, rfl, HU2, HS2, HB⟩
        case measure => simp [intOf]; omega
      · have HU2 := Lib.hid (HU.out.fin (show l.length ≤ k by omega))
        have HS2 : Hid (u.size ≤ 204 * (k + 1)) := Lib.hid (by have := HSP.out; omega)
        go_wp2
        go_roundw
        case rel => exact ⟨k + 1, u, by omega, by go_num, rfl, HU2, HS2, HB⟩
        case measure => simp [intOf]; omega

theorem own : ownKnob Try.prog.godebug = none := by kernel_rfl

set_option maxRecDepth 100000 in
theorem lifted (os : Os) (started : os.Started) (H : Type) (enc : TypeId × Value → H) :
    ReturnsInHanded {} Try.checked os 5 .any (Rows.subPadsSpec.pre6 enc Try.prog Try.f5 Rows.subPadsRow.domain false) (Rows.subPadsSpec.post enc Try.prog Try.f5 false true false false) := by
  refine returnsInHanded_of_change (C := Try.checked) own started (by kernel_rfl) Try.func5
    (ChangeSpec.witness6 (enc := enc) (C := Try.checked) false ⟨#[], #[.slice none 0 0, .slice none 0 0], []⟩ 8 (by kernel_rfl) (by kernel_rfl) (by kernel_rfl) (by kernel_rfl)) ?_
  intro W base args ds gs before hval0 hW hcnd _
  have hval : ∀ (j : Nat) t v, Try.f5.params[j]? = some t → args[j]? = some v → Value.okWide Try.prog W .any base t v := hval0
  have hW' := hW
  have hlt := fun x hx => hW'.lt x hx
  obtain ⟨p, q, hA0, hV, rfl, hfz, hnd⟩ := hW
  have hA : DataW.TrodAll enc Try.prog W 0 (fun _ => true) true Try.f5.params.toList args.toList ds p := hA0
  rw [Try.params5] at hA hval
  obtain ⟨v0, vs0, d0, ds0, p0, q0, hargs, rfl, rfl, h0, r0⟩ := trodAll_cons hA
  obtain ⟨v1, vs1, d1, ds1, p1, q1, rfl, rfl, rfl, h1, r1⟩ := trodAll_cons r0
  obtain ⟨rfl, rfl, rfl⟩ := trodAll_nil r1
  obtain rfl : args = #[v0, v1] := by cases args; simp_all
  obtain ⟨rfl, rfl⟩ := trodVars_none hV
  obtain ⟨a, l, c, rfl, hl, hc⟩ := by_subs2 (hval 0 22 v0 rfl rfl) h0
  obtain ⟨b, m, d, rfl, hm⟩ := by_bytes (hval 1 32 v1 rfl rfl) h1
  clear hA0 hval0
  simp only [List.append_nil] at hW' hlt
  refine (walk a c l b d m W hl hc hm).mono fun e W' ⟨he, hg⟩ => ?_
  subst he
  exact ⟨_, rfl, _, _, _, [], _, [], hW', trodAll_mk1 (shut_bool Try.underlying4 _), (trodAll_cons_mk (again (by kernel_rfl) (of_decide_eq_true (by kernel_rfl)) h0 hg fun x hx => hlt x (by first | exact absurd hx (by simp) | simp [hx])) (trodAll_cons_mk (again (by kernel_rfl) (of_decide_eq_true (by kernel_rfl)) h1 hg fun x hx => hlt x (by first | exact absurd hx (by simp) | simp [hx])) trodAll_mk0)), rfl, hg.frame _, fun h => by cases h⟩

theorem over : Rows.subPadsRow.holds Try.pinned (OpenSpec.ofChange Rows.subPadsSpec) :=
  OpenClaim.holds_of_wide 5 Try.f5 rfl rfl rfl rfl rfl rfl rfl ⟨rfl, rfl, rfl, rfl, rfl⟩ rfl rfl rfl rfl rfl (by kernel_rfl) Try.func5 (by kernel_rfl)
    (of_decide_eq_true (by kernel_rfl)) (by unfold Func.isWrapper; first | (rw [if_pos (by decide +kernel)]; kernel_rfl) | (rw [if_neg (by decide +kernel)]; exact ⟨rfl, rfl⟩))
    (fun os started H enc _ => lifted os started H enc)

theorem proved : Rows.SubPadsSaid :=
  over
#print axioms proved
end Go.Proofs.Ytgfjhemfhfdklaa.subPads
