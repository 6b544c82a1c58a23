/-
  The statement ExtBack, of any extensions and any bytes. No conditions.
-/
import Derived.Test.YtcpngemhnnijbaaXo
namespace Go.Proofs.Ytcpngemhnnijbaa.extBack
open Go.ChangeShapes Go.WideShapes Go.ChangeAt Go.RowKit
open Go.ChangeMaps (open_string shut_string)
open Go.Proofs.Ytcpngemhnnijbaa.Ms
open Go.Proofs.Ytcpngemhnnijbaa.Xv
open Go.Proofs.Ytcpngemhnnijbaa.Xc
open Go.Proofs.Ytcpngemhnnijbaa.Xp
open Go.Proofs.Ytcpngemhnnijbaa.Xa
open Go.Proofs.Ytcpngemhnnijbaa.Xo
open Go.Proofs.Ytcpngemhnnijbaa.Cnt
open Go.Proofs.Ytcpngemhnnijbaa.Open
set_option linter.unusedVariables false

theorem of_ok {l : List El} (h : okX l = true) : ∀ x ∈ l, x.1.size ≤ 1099511627776 := fun x hx => by
  have := (okX_mem h x hx).2.2
  omega
theorem put_out {l : List El} (h : okX l = true) : outX (putS l) = (l, 0, 0) := by
  rw [putS_yes h]
  exact out_yes h rfl
theorem put_size {l : List El} (h : okX l = true) : (putS l).size = bytesN l := by
  rw [putS_yes h, ← encX_len]
  rfl
theorem put_of {s : ByteArray} {l : List El} (h : okX l = true) (hs : s.data.toList = encX l) : putS l = s := by
  rw [putS_yes h, ← hs]
theorem out_nul : outX ⟨#[]⟩ = ([], 0, 0) := out_yes (l := []) rfl rfl
theorem bytes_same (a : ByteArray) : (a.toList == a.toList) = true := by simp

set_option maxHeartbeats 6400000 in
set_option maxRecDepth 100000 in
theorem walk (a : Option Addr) (c : Nat) (l : List El) (s : ByteArray) (w : World) (hl : SRow w a l) (hn : l.length ≤ 9223372036854775807) (hm : s.size ≤ maxLen) :
    Calls Try.prog 4 #[.slice a l.length c, .string s] w fun r w' => r = .returned (.bool true) ∧ Below w.heap.size w w' := by
  unfold maxLen at hm
  have PF := Lib.hid (few_any a c l w hl)
  by_cases hf : fewS l = true
  rotate_left
  · have hf : fewS l = false := by simpa using hf
    rw [hf] at PF
    clear hf hl hn
    go_enter Try.func4, Try.ntmps4
    go_wp2_with fail
    refine (PF.out).mono ?_
    rintro r w1 ⟨rfl, hb⟩
    have HB := Lib.hid hb
    clear hb  PF
    go_wp2_with fail
    refine (awake_any _).mono ?_
    rintro r w2 ⟨rfl, hb⟩
    have HB := Lib.hid (HB.out.trans (hb.mono HB.out.size))
    clear hb  
    go_wp2
    go_ret
    exact ⟨rfl, HB.out⟩
  have HL1 := Lib.hid (few_len hf)
  have HL2 := Lib.hid (few_size hf)
  rw [hf] at PF
  have R1 := Lib.hid hl
  clear hf hl
  by_cases hs : 1000 < s.size
  · clear hn
    go_enter Try.func4, Try.ntmps4
    go_wp2_with fail
    refine (PF.out).mono ?_
    rintro r w1 ⟨rfl, hb⟩
    have HB := Lib.hid hb
    clear hb  PF
    go_wp2_with fail
    refine (awake_any _).mono ?_
    rintro r w2 ⟨rfl, hb⟩
    have HB := Lib.hid (HB.out.trans (hb.mono HB.out.size))
    clear hb  
    go_wp2
    go_ret
    exact ⟨rfl, HB.out⟩
  have P2 := Lib.hid (fun W => get_any s W (by omega))
  have PP := Lib.hid (fun W (h : SRow W a l) => put_any a c l W h (by have := HL1.out; omega) HL2.out)
  have hs2 : (s.size : Int) ≤ 1000 := by omega
  have HSz := Lib.hid (show s.size ≤ 1000 by omega)
  clear hs hm hn
  by_cases hok : okX l = true
  rotate_left
  · have hok : okX l = false := by simpa using hok
    rw [hok, putS_no hok] at PP
    have P1 := Lib.hid (fun W => get_any ⟨#[]⟩ W (by decide))
    rw [out_nul] at P1
    clear hok
    go_enter Try.func4, Try.ntmps4
    go_wp2_with fail
    refine (PF.out).mono ?_
    rintro r w1 ⟨rfl, hb⟩
    have HB := Lib.hid hb
    clear hb  PF
    have R1 := Lib.hid (R1.out.below HB.out)
    go_wp2_with fail
    refine (PP.out _ R1.out).mono ?_
    rintro r w2 ⟨rfl, hb⟩
    have R1 := Lib.hid (R1.out.below hb)
    have HB := Lib.hid (HB.out.trans (hb.mono HB.out.size))
    clear hb  PP
    go_wp2_with fail
    refine (P1.out _).mono ?_
    rintro r w3 ⟨a1, k1, rfl, m1, hb⟩
    have M1 := Lib.hid m1
    have HB := Lib.hid (HB.out.trans (hb.mono HB.out.size))
    clear hb m1 P1
    dsimp only [List.length_nil]
    clear M1 R1
    rcases out_cases s with ⟨b, ob, eb, qb⟩ | ⟨b, rb, ob, eb, cb, nb, qb⟩
    rotate_left
    · rw [qb] at P2
      have hbz : ((encX b).length : Int) < (s.size : Int) := by
        have h1 := size_of eb
        rw [List.length_append] at h1
        have h2 : 0 < rb.length := by
          cases rb with
          | nil => exact absurd rfl nb
          | cons _ _ => simp
        omega
      clear qb eb ob cb nb
      generalize (encX b).length = pb at *
      go_wp2_with fail
      refine (P2.out _).mono ?_
      rintro r w4 ⟨a2, k2, rfl, m1, hb⟩
      have M2 := Lib.hid m1
      have HB := Lib.hid (HB.out.trans (hb.mono HB.out.size))
      clear hb m1 P2
      dsimp only [List.length_nil]
      go_wp2_with fail
      refine (awake_any _).mono ?_
      rintro r w5 ⟨rfl, hb⟩
      have HB := Lib.hid (HB.out.trans (hb.mono HB.out.size))
      clear hb  
      go_wp2
      go_ret
      exact ⟨rfl, HB.out⟩
    rw [qb] at P2
    have HBl : Hid (b.length ≤ 1000) := Lib.hid (by
      have h1 := size_of eb
      have h2 := len_le b
      have := HSz.out
      omega)
    have PB := Lib.hid (fun (x : Option Addr) (y : Nat) W (h : SRow W x b) => put_any x y b W h HBl.out (of_ok ob))
    rw [ob, put_of ob eb] at PB
    have hbs := bytes_same s
    clear qb eb ob
    go_wp2_with fail
    refine (P2.out _).mono ?_
    rintro r w4 ⟨a2, k2, rfl, m1, hb⟩
    have M2 := Lib.hid m1
    have HB := Lib.hid (HB.out.trans (hb.mono HB.out.size))
    clear hb m1 P2
    dsimp only [List.length_nil]
    go_wp2_with fail
    refine (PB.out a2 k2 _ M2.out).mono ?_
    rintro r w5 ⟨rfl, hb⟩
    have HB := Lib.hid (HB.out.trans (hb.mono HB.out.size))
    clear hb  PB M2
    go_wp2_with fail
    refine (awake_any _).mono ?_
    rintro r w6 ⟨rfl, hb⟩
    have HB := Lib.hid (HB.out.trans (hb.mono HB.out.size))
    clear hb  
    go_wp2
    go_ret
    exact ⟨rfl, HB.out⟩
  have hz : (putS l).size ≤ 200000 := by
    have h1 := put_size hok
    have h2 := bytes_most hok
    have := HL1.out
    omega
  have P1 := Lib.hid (fun W => get_any (putS l) W hz)
  rw [put_out hok] at P1
  rw [hok] at PP
  have HQ := Lib.hid (show ((putS l).size : Int) = (bytesN l : Nat) by rw [put_size hok])
  have PY := Lib.hid (fun W (h : SRow W a l) => rbytes_any a c l W h (by have := HL1.out; omega) (by have h1 := bytes_most hok; have := HL1.out; omega))
  have HK : Hid (bytesN l ≤ 200000) := Lib.hid (by have := put_size hok; omega)
  clear hok hz
  generalize putS l = z at *
  rw [← HQ.out] at PY
  go_enter Try.func4, Try.ntmps4
  go_wp2_with fail
  refine (PF.out).mono ?_
  rintro r w1 ⟨rfl, hb⟩
  have HB := Lib.hid hb
  clear hb  PF
  have R1 := Lib.hid (R1.out.below HB.out)
  go_wp2_with fail
  refine (PP.out _ R1.out).mono ?_
  rintro r w2 ⟨rfl, hb⟩
  have R1 := Lib.hid (R1.out.below hb)
  have HB := Lib.hid (HB.out.trans (hb.mono HB.out.size))
  clear hb  PP
  go_wp2_with fail
  refine (P1.out _).mono ?_
  rintro r w3 ⟨a1, k1, rfl, m1, hb⟩
  have R1 := Lib.hid (R1.out.below hb)
  have M1 := Lib.hid m1
  have HB := Lib.hid (HB.out.trans (hb.mono HB.out.size))
  clear hb m1 P1
  dsimp only [List.length_nil]
  have PS := Lib.hid (RSame.rsame_any (mS a l c) (mS a1 l k1) _ (in_mS R1.out (by have := HL1.out; omega)) (in_mS M1.out (by have := HL1.out; omega)))
  rw [same_mS, decide_eq_true rfl] at PS
  have hzz : ((z.size : Int) == (z.size : Int)) = true := by simp
  go_wp2_with fail
  refine (PS.out).mono ?_
  rintro r w4 ⟨rfl, hb⟩
  have R1 := Lib.hid (R1.out.below hb)
  have HB := Lib.hid (HB.out.trans (hb.mono HB.out.size))
  clear hb  PS M1
  go_wp2_with fail
  refine (PY.out _ R1.out).mono ?_
  rintro r w5 ⟨rfl, hb⟩
  have HB := Lib.hid (HB.out.trans (hb.mono HB.out.size))
  clear hb  PY R1
  rcases out_cases s with ⟨b, ob, eb, qb⟩ | ⟨b, rb, ob, eb, cb, nb, qb⟩
  rotate_left
  · rw [qb] at P2
    have hbz : ((encX b).length : Int) < (s.size : Int) := by
      have h1 := size_of eb
      rw [List.length_append] at h1
      have h2 : 0 < rb.length := by
        cases rb with
        | nil => exact absurd rfl nb
        | cons _ _ => simp
      omega
    clear qb eb ob cb nb
    generalize (encX b).length = pb at *
    go_wp2_with fail
    refine (P2.out _).mono ?_
    rintro r w6 ⟨a2, k2, rfl, m1, hb⟩
    have M2 := Lib.hid m1
    have HB := Lib.hid (HB.out.trans (hb.mono HB.out.size))
    clear hb m1 P2
    dsimp only [List.length_nil]
    go_wp2_with fail
    refine (awake_any _).mono ?_
    rintro r w7 ⟨rfl, hb⟩
    have HB := Lib.hid (HB.out.trans (hb.mono HB.out.size))
    clear hb  
    go_wp2
    go_ret
    exact ⟨rfl, HB.out⟩
  rw [qb] at P2
  have HBl : Hid (b.length ≤ 1000) := Lib.hid (by
    have h1 := size_of eb
    have h2 := len_le b
    have := HSz.out
    omega)
  have PB := Lib.hid (fun (x : Option Addr) (y : Nat) W (h : SRow W x b) => put_any x y b W h HBl.out (of_ok ob))
  rw [ob, put_of ob eb] at PB
  have hbs := bytes_same s
  clear qb eb ob
  go_wp2_with fail
  refine (P2.out _).mono ?_
  rintro r w6 ⟨a2, k2, rfl, m1, hb⟩
  have M2 := Lib.hid m1
  have HB := Lib.hid (HB.out.trans (hb.mono HB.out.size))
  clear hb m1 P2
  dsimp only [List.length_nil]
  go_wp2_with fail
  refine (PB.out a2 k2 _ M2.out).mono ?_
  rintro r w7 ⟨rfl, hb⟩
  have HB := Lib.hid (HB.out.trans (hb.mono HB.out.size))
  clear hb  PB M2
  go_wp2_with fail
  refine (awake_any _).mono ?_
  rintro r w8 ⟨rfl, hb⟩
  have HB := Lib.hid (HB.out.trans (hb.mono HB.out.size))
  clear hb  
  go_wp2
  go_ret
  exact ⟨rfl, HB.out⟩

theorem own : ownKnob Try.prog.godebug = none := by kernel_rfl

set_option maxRecDepth 100000 in
theorem lifted (os : Os) (started : os.Started) (H : Type) (enc : TypeId × Value → H) :
    ReturnsInHanded {} Try.checked os 4 .any (Rows.extBackSpec.pre6 enc Try.prog Try.f4 Rows.extBackRow.domain false) (Rows.extBackSpec.post enc Try.prog Try.f4 false true false false) := by
  refine returnsInHanded_of_change (C := Try.checked) own started (by kernel_rfl) Try.func4
    (ChangeSpec.witness6 (enc := enc) (C := Try.checked) false ⟨#[], #[.slice none 0 0, .string ByteArray.empty], []⟩ 8 (by kernel_rfl) (by kernel_rfl) (by kernel_rfl) (by kernel_rfl)) ?_
  intro W base args ds gs before hval0 hW hcnd _
  have hval : ∀ (j : Nat) t v, Try.f4.params[j]? = some t → args[j]? = some v → Value.okWide Try.prog W .any base t v := hval0
  have hW' := hW
  have hlt := fun x hx => hW'.lt x hx
  obtain ⟨p, q, hA0, hV, rfl, hfz, hnd⟩ := hW
  have hA : DataW.TrodAll enc Try.prog W 0 (fun _ => true) true Try.f4.params.toList args.toList ds p := hA0
  rw [Try.params4] at hA hval
  obtain ⟨v0, vs0, d0, ds0, p0, q0, hargs, rfl, rfl, h0, r0⟩ := trodAll_cons hA
  obtain ⟨v1, vs1, d1, ds1, p1, q1, rfl, rfl, rfl, h1, r1⟩ := trodAll_cons r0
  obtain ⟨rfl, rfl, rfl⟩ := trodAll_nil r1
  obtain rfl : args = #[v0, v1] := by cases args; simp_all
  obtain ⟨rfl, rfl⟩ := trodVars_none hV
  obtain ⟨a, l, c, rfl, hl, ln⟩ := by_subs (hval 0 22 v0 rfl rfl) h0
  have k1 := h1
  obtain ⟨s, rfl, rfl, rfl, ws⟩ := open_string Try.underlying9 (hval 1 9 v1 rfl rfl) k1
  clear hA0 hval0
  simp only [List.append_nil] at hW' hlt
  refine (walk a c l s W hl ln ws).mono fun e W' ⟨he, hg⟩ => ?_
  subst he
  exact ⟨_, rfl, _, _, _, [], _, [], hW', trodAll_mk1 (shut_bool Try.underlying4 _), (trodAll_cons_mk (again (by kernel_rfl) (of_decide_eq_true (by kernel_rfl)) h0 hg fun x hx => hlt x (by first | exact absurd hx (by simp) | simp [hx])) (trodAll_cons_mk (again (by kernel_rfl) (of_decide_eq_true (by kernel_rfl)) h1 hg fun x hx => hlt x (by first | exact absurd hx (by simp) | simp [hx])) trodAll_mk0)), rfl, hg.frame _, fun h => by cases h⟩

theorem over : Rows.extBackRow.holds Try.pinned (OpenSpec.ofChange Rows.extBackSpec) :=
  OpenClaim.holds_of_wide 4 Try.f4 rfl rfl rfl rfl rfl rfl rfl ⟨rfl, rfl, rfl, rfl, rfl⟩ rfl rfl rfl rfl rfl (by kernel_rfl) Try.func4 (by kernel_rfl)
    (of_decide_eq_true (by kernel_rfl)) (by unfold Func.isWrapper; first | (rw [if_pos (by decide +kernel)]; kernel_rfl) | (rw [if_neg (by decide +kernel)]; exact ⟨rfl, rfl⟩))
    (fun os started H enc _ => lifted os started H enc)

theorem proved : Rows.ExtBackSaid :=
  over
#print axioms proved
end Go.Proofs.Ytcpngemhnnijbaa.extBack
