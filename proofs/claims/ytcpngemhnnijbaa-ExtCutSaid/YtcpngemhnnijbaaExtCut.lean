/-
  The statement ExtCut, of any extensions and any cut. No conditions.
-/
import Derived.Test.YtcpngemhnnijbaaXo
namespace Go.Proofs.Ytcpngemhnnijbaa.extCut
open Go.ChangeShapes Go.WideShapes Go.ChangeAt Go.RowKit
open Go.ChangeMaps (open_string shut_string)
open Go.Proofs.Ytcpngemhnnijbaa.Ms
open Go.Proofs.Ytcpngemhnnijbaa.Xv
open Go.Proofs.Ytcpngemhnnijbaa.Xc
open Go.Proofs.Ytcpngemhnnijbaa.Xp
open Go.Proofs.Ytcpngemhnnijbaa.Xa
open Go.Proofs.Ytcpngemhnnijbaa.Xo
open Go.Proofs.Ytcpngemhnnijbaa.Cnt
open Go.Proofs.Ytcpngemhnnijbaa.Open
set_option linter.unusedVariables false

theorem put_size {l : List El} (h : okX l = true) : (putS l).size = bytesN l := by
  rw [putS_yes h, ← encX_len]
  rfl
theorem sl_h (s : ByteArray) (j : Int) (hi : Nat) (hj : j = hi) (h2 : hi ≤ s.size) (W : World) :
    (Instr.slice 9 (.string s) none (some (.int .i64 j)) none).run Try.prog W = .ok (.string (s.extract 0 hi)) W := by
  subst hj
  have := run_slice_string_h (P := Try.prog) (t := 9) (s := s) W Try.underlying9 .i64 (hi : Int) (by omega) (by omega)
  simpa using this
theorem first_of (s : ByteArray) (n : Nat) : (s.extract 0 n).data.toList = s.data.toList.take n := by
  rw [ByteArray.data_extract, Array.toList_extract]
  simp
theorem enc_take_len (l : List El) (k : Nat) : (encX (l.take k)).length = bytesN (l.take k) := encX_len _
theorem cut_at {l : List El} {k n : Nat} (h : okX l = true) (hk : k ≤ l.length) (h1 : bytesN (l.take k) = n) : outX ((putS l).extract 0 n) = (l.take k, 0, 0) := by
  refine out_yes (okX_take h k) ?_
  rw [first_of, putS_yes h]
  show (encX l).take n = _
  have : encX l = encX (l.take k) ++ encX (l.drop k) := by rw [← encX_append, List.take_append_drop]
  rw [this]
  exact List.take_left' (by rw [enc_take_len, h1])
theorem cut_in {l : List El} {k n : Nat} (h : okX l = true) (hk : k < l.length) (h1 : bytesN (l.take k) < n) (h2 : n < bytesN (l.take (k + 1))) : outX ((putS l).extract 0 n) = ([], ((bytesN (l.take k) : Nat) : Int), 2) := by
  have ho : ok1 l[k] := okX_mem h _ (List.getElem_mem hk)
  rw [bytes_take l k hk] at h2
  rw [← enc_take_len]
  have hl : n - bytesN (l.take k) < (enc1 l[k]).length := by rw [enc1_len]; omega
  refine out_no (r := (enc1 l[k]).take (n - bytesN (l.take k))) (okX_take h k) ?_ (cut1_part ho _ hl) ?_
  · rw [first_of, putS_yes h]
    show (encX l).take n = _
    have e : encX l = encX (l.take k) ++ (enc1 l[k] ++ encX (l.drop (k + 1))) := by
      conv => lhs; rw [← List.take_append_drop k l]
      rw [encX_append, List.drop_eq_getElem_cons hk, encX_cons]
    rw [e, List.take_append, enc_take_len, List.take_of_length_le (by rw [enc_take_len]; omega), List.take_append_of_le_length (by omega)]
  · intro h0
    have := congrArg List.length h0
    rw [List.length_take, List.length_nil] at this
    omega

set_option maxHeartbeats 6400000 in
set_option maxRecDepth 100000 in
theorem walk (a : Option Addr) (c : Nat) (l : List El) (cu : Int) (w : World) (hl : SRow w a l) (hn : l.length ≤ 9223372036854775807) (hcu : (Lit.int .u16 cu).wf = true) :
    Calls Try.prog 5 #[.slice a l.length c, .int .u16 cu] w fun r w' => r = .returned (.bool true) ∧ Below w.heap.size w w' := by
  have hcu2 : 0 ≤ cu ∧ cu ≤ 65535 := by
    have h : IntKind.u16.min ≤ cu ∧ cu ≤ IntKind.u16.max := by simpa [Lit.wf] using hcu
    rwa [show IntKind.u16.min = 0 by decide, show IntKind.u16.max = 65535 by decide] at h
  clear hcu
  have PF := Lib.hid (few_any a c l w hl)
  by_cases hf : fewS l = true
  rotate_left
  · have hf : fewS l = false := by simpa using hf
    rw [hf] at PF
    clear hf hl hn
    go_enter Try.func5, Try.ntmps5
    go_wp2_with fail
    refine (PF.out).mono ?_
    rintro r w1 ⟨rfl, hb⟩
    have HB := Lib.hid hb
    clear hb  PF
    go_wp2_with fail
    refine (awake_any _).mono ?_
    rintro r w2 ⟨rfl, hb⟩
    have HB := Lib.hid (HB.out.trans (hb.mono HB.out.size))
    clear hb  
    go_wp2
    go_ret
    exact ⟨rfl, HB.out⟩
  have HL1 := Lib.hid (few_len hf)
  have HL2 := Lib.hid (few_size hf)
  rw [hf] at PF
  have R0 := Lib.hid hl
  have PP := Lib.hid (fun W (h : SRow W a l) => put_any a c l W h (by have := HL1.out; omega) HL2.out)
  clear hf hl hn
  by_cases hok : okX l = true
  rotate_left
  · have hok : okX l = false := by simpa using hok
    rw [hok, putS_no hok] at PP
    clear hok
    go_enter Try.func5, Try.ntmps5
    go_wp2_with fail
    refine (PF.out).mono ?_
    rintro r w1 ⟨rfl, hb⟩
    have HB := Lib.hid hb
    clear hb  PF
    have R1 := Lib.hid (R0.out.below HB.out)
    go_wp2_with fail
    refine (PP.out _ R1.out).mono ?_
    rintro r w2 ⟨rfl, hb⟩
    have HB := Lib.hid (HB.out.trans (hb.mono HB.out.size))
    clear hb  PP R1
    go_wp2_with fail
    refine (awake_any _).mono ?_
    rintro r w3 ⟨rfl, hb⟩
    have HB := Lib.hid (HB.out.trans (hb.mono HB.out.size))
    clear hb  
    go_wp2
    go_ret
    exact ⟨rfl, HB.out⟩
  have HQ := Lib.hid (put_size hok)
  have HK : Hid (bytesN l ≤ 200000) := Lib.hid (by have := bytes_most hok; have := HL1.out; omega)
  have HI := Lib.hid (fun (k n : Nat) (hk : k < l.length) h1 h2 => cut_in (k := k) (n := n) hok hk h1 h2)
  have HA := Lib.hid (fun (k n : Nat) (hk : k ≤ l.length) h1 => cut_at (k := k) (n := n) hok hk h1)
  rw [hok] at PP
  clear hok
  generalize putS l = z at *
  have hzi : (z.size : Int) ≤ 200000 := by have := HQ.out; have := HK.out; omega
  go_enter Try.func5, Try.ntmps5
  go_wp2_with fail
  refine (PF.out).mono ?_
  rintro r w1 ⟨rfl, hb⟩
  have HB := Lib.hid hb
  clear hb  PF
  have R1 := Lib.hid (R0.out.below HB.out)
  go_wp2_with fail
  refine (PP.out _ R1.out).mono ?_
  rintro r w2 ⟨rfl, hb⟩
  have R1 := Lib.hid (R1.out.below hb)
  have HB := Lib.hid (HB.out.trans (hb.mono HB.out.size))
  clear hb  PP
  go_upto_region 7 with fail
  have em1 := Int.emod_nonneg cu (b := (z.size : Int) + 1) (by omega)
  have em2 := Int.emod_lt_of_pos cu (b := (z.size : Int) + 1) (by omega)
  obtain ⟨n, hn, hle⟩ : ∃ n : Nat, cu % ((z.size : Int) + 1) = n ∧ n ≤ z.size := ⟨(cu % ((z.size : Int) + 1)).toNat, by omega, by omega⟩
  rw [hn]
  have HLe := Lib.hid hle
  have hni : (n : Int) ≤ 200000 := by omega
  have SL := fun W => sl_h z (n : Int) n rfl hle W
  have PG := Lib.hid (fun W => get_any (z.extract 0 n) W (by rw [ByteArray.size_extract]; omega))
  clear hn hle hcu2 em1 em2
  go_wp2
  go_loopw [8, 9] (fun at_ wh wr => ∃ k : Nat, k ≤ l.length ∧ at_ = .int .i64 (bytesN (l.take k) : Nat) ∧ wh = .int .i64 k ∧ Hid (bytesN (l.take k) ≤ n) ∧ wr = w2) (fun _ wh _ => l.length - (intOf wh).toNat)
  case atStart => exact ⟨0, Nat.zero_le _, rfl, rfl, Lib.hid (Nat.zero_le _), rfl⟩
  case round =>
    obtain ⟨k, hk, rfl, rfl, HN, rfl⟩ := hrel
    have hkk : (k : Int) ≤ 60 := by have := HL1.out; omega
    have hq : ((bytesN (l.take k) : Nat) : Int) ≤ 200000 := by have := HN.out; omega
    by_cases hlt : k < l.length
    · obtain ⟨p, rfl, hp, c0, c1⟩ := R1.out k hlt
      have HT := Lib.hid (bytes_take l k hlt)
      have HX := Lib.hid (HI.out k n hlt)
      have HY := Lib.hid (HA.out k n hk)
      have HTk := Lib.hid (show (l.take k).length = k by rw [List.length_take]; omega)
      have hsz := HL2.out _ (List.getElem_mem hlt)
      have hkl : (k : Int) < (l.length : Int) := by omega
      rw [add_one] at c1
      clear c0
      generalize l[k] = u at *
      generalize hqe : bytesN (l.take k) = q at *
      have HQe := Lib.hid hqe
      clear hqe
      obtain ⟨d, t⟩ := u
      dsimp only at hsz c1 HT
      have hdi : (d.size : Int) ≤ 1099511627776 := by omega
      clear hsz
      by_cases hin : q + 2 + d.size ≤ n
      · have h1 : (q : Int) + 2 + (d.size : Int) ≤ (n : Int) := by omega
        have HN1 : Hid (bytesN (l.take (k + 1)) ≤ n) := Lib.hid (by rw [HT.out]; omega)
        have HE : Hid (((bytesN (l.take (k + 1)) : Nat) : Int) = (q : Int) + 2 + (d.size : Int)) := Lib.hid (by rw [HT.out]; push_cast; omega)
        clear hin HX HY HTk HN
        go_wp2
        go_roundw
        case rel => exact ⟨k + 1, hlt, by rw [HE.out], by go_num, HN1, by first | rfl | trivial⟩
        case measure => simp [intOf]; omega
      · have h1 : ¬ (q : Int) + 2 + (d.size : Int) ≤ (n : Int) := by omega
        have hw : n < bytesN (l.take (k + 1)) := by rw [HT.out]; omega
        by_cases hqn : q < n
        · have hqi : (q : Int) < (n : Int) := by omega
          have hqq : ((q : Int) == (q : Int)) = true := by simp
          rw [HX.out hqn hw] at PG
          clear HX HY HT hw hin hqn HN
          go_wp2_with fail
          refine (PG.out _).mono ?_
          rintro r w3 ⟨a1, k1, rfl, m1, hb⟩
          have M1 := Lib.hid m1
          have HB := Lib.hid (HB.out.trans (hb.mono HB.out.size))
          clear hb m1 PG
          dsimp only [List.length_nil]
          go_wp2_with fail
          refine (awake_any _).mono ?_
          rintro r w4 ⟨rfl, hb⟩
          have M1 := Lib.hid (M1.out.below hb)
          have HB := Lib.hid (HB.out.trans (hb.mono HB.out.size))
          clear hb  
          clear M1
          go_wp2
          go_ret
          exact ⟨rfl, HB.out⟩
        · have hqe : q = n := by have := HN.out; omega
          have hqi : ¬ (n : Int) < (n : Int) := by omega
          subst hqe
          rw [HY.out rfl] at PG
          generalize l.take k = m at *
          have hqq : ((m.length : Int) == (k : Int)) = true := by rw [HTk.out]; simp
          clear HX HY HT hw hin hqn HN
          go_wp2_with fail
          refine (PG.out _).mono ?_
          rintro r w3 ⟨a1, k1, rfl, m1, hb⟩
          have M1 := Lib.hid m1
          have HB := Lib.hid (HB.out.trans (hb.mono HB.out.size))
          clear hb m1 PG
          dsimp only [List.length_nil]
          go_wp2_with fail
          refine (awake_any _).mono ?_
          rintro r w4 ⟨rfl, hb⟩
          have M1 := Lib.hid (M1.out.below hb)
          have HB := Lib.hid (HB.out.trans (hb.mono HB.out.size))
          clear hb  
          clear M1
          go_wp2
          go_ret
          exact ⟨rfl, HB.out⟩
    · obtain rfl : k = l.length := by omega
      have hqe : bytesN (l.take l.length) = n := by
        have h1 := HN.out
        have h2 := HLe.out
        have h3 := HQ.out
        rw [List.take_length] at h1 ⊢
        omega
      have HY := Lib.hid (HA.out l.length n (Nat.le_refl _) hqe)
      have hqi : ¬ (n : Int) < (n : Int) := by omega
      rw [HY.out] at PG
      rw [List.take_length] at PG hqe
      have hqq : ((l.length : Int) == (l.length : Int)) = true := by simp
      rw [List.take_length]
      rw [hqe]
      clear HY HN hqe
      go_wp2_with fail
      refine (PG.out _).mono ?_
      rintro r w3 ⟨a1, k1, rfl, m1, hb⟩
      have M1 := Lib.hid m1
      have HB := Lib.hid (HB.out.trans (hb.mono HB.out.size))
      clear hb m1 PG
      dsimp only [List.length_nil]
      go_wp2_with fail
      refine (awake_any _).mono ?_
      rintro r w4 ⟨rfl, hb⟩
      have M1 := Lib.hid (M1.out.below hb)
      have HB := Lib.hid (HB.out.trans (hb.mono HB.out.size))
      clear hb  
      clear M1
      go_wp2
      go_ret
      exact ⟨rfl, HB.out⟩

theorem own : ownKnob Try.prog.godebug = none := by kernel_rfl

set_option maxRecDepth 100000 in
theorem lifted (os : Os) (started : os.Started) (H : Type) (enc : TypeId × Value → H) :
    ReturnsInHanded {} Try.checked os 5 .any (Rows.extCutSpec.pre6 enc Try.prog Try.f5 Rows.extCutRow.domain false) (Rows.extCutSpec.post enc Try.prog Try.f5 false true false false) := by
  refine returnsInHanded_of_change (C := Try.checked) own started (by kernel_rfl) Try.func5
    (ChangeSpec.witness6 (enc := enc) (C := Try.checked) false ⟨#[], #[.slice none 0 0, .int .u16 0], []⟩ 8 (by kernel_rfl) (by kernel_rfl) (by kernel_rfl) (by kernel_rfl)) ?_
  intro W base args ds gs before hval0 hW hcnd _
  have hval : ∀ (j : Nat) t v, Try.f5.params[j]? = some t → args[j]? = some v → Value.okWide Try.prog W .any base t v := hval0
  have hW' := hW
  have hlt := fun x hx => hW'.lt x hx
  obtain ⟨p, q, hA0, hV, rfl, hfz, hnd⟩ := hW
  have hA : DataW.TrodAll enc Try.prog W 0 (fun _ => true) true Try.f5.params.toList args.toList ds p := hA0
  rw [Try.params5] at hA hval
  obtain ⟨v0, vs0, d0, ds0, p0, q0, hargs, rfl, rfl, h0, r0⟩ := trodAll_cons hA
  obtain ⟨v1, vs1, d1, ds1, p1, q1, rfl, rfl, rfl, h1, r1⟩ := trodAll_cons r0
  obtain ⟨rfl, rfl, rfl⟩ := trodAll_nil r1
  obtain rfl : args = #[v0, v1] := by cases args; simp_all
  obtain ⟨rfl, rfl⟩ := trodVars_none hV
  obtain ⟨a, l, c, rfl, hl, ln⟩ := by_subs (hval 0 22 v0 rfl rfl) h0
  have k1 := h1
  obtain ⟨cu, rfl, rfl, rfl, wf⟩ := open_int Try.underlying36 (hval 1 36 v1 rfl rfl) k1
  clear hA0 hval0
  simp only [List.append_nil] at hW' hlt
  refine (walk a c l cu W hl ln wf).mono fun e W' ⟨he, hg⟩ => ?_
  subst he
  exact ⟨_, rfl, _, _, _, [], _, [], hW', trodAll_mk1 (shut_bool Try.underlying4 _), (trodAll_cons_mk (again (by kernel_rfl) (of_decide_eq_true (by kernel_rfl)) h0 hg fun x hx => hlt x (by first | exact absurd hx (by simp) | simp [hx])) (trodAll_cons_mk (again (by kernel_rfl) (of_decide_eq_true (by kernel_rfl)) h1 hg fun x hx => hlt x (by first | exact absurd hx (by simp) | simp [hx])) trodAll_mk0)), rfl, hg.frame _, fun h => by cases h⟩

theorem over : Rows.extCutRow.holds Try.pinned (OpenSpec.ofChange Rows.extCutSpec) :=
  OpenClaim.holds_of_wide 5 Try.f5 rfl rfl rfl rfl rfl rfl rfl ⟨rfl, rfl, rfl, rfl, rfl⟩ rfl rfl rfl rfl rfl (by kernel_rfl) Try.func5 (by kernel_rfl)
    (of_decide_eq_true (by kernel_rfl)) (by unfold Func.isWrapper; first | (rw [if_pos (by decide +kernel)]; kernel_rfl) | (rw [if_neg (by decide +kernel)]; exact ⟨rfl, rfl⟩))
    (fun os started H enc _ => lifted os started H enc)

theorem proved : Rows.ExtCutSaid :=
  over
#print axioms proved
end Go.Proofs.Ytcpngemhnnijbaa.extCut
