/-
  There and back, of values alone: routes that have a datagram come back of it, and of it cut off between entries. No conditions.
-/
import Derived.Test.YtfaobpmbiocafaaMa
import Derived.Test.YtfaobpmbiocafaaAp
namespace Go.Proofs.Ytfaobpmbiocafaa.Mb
open Go.ChangeShapes Go.WideShapes Go.ChangeAt Go.RowKit
open Go.Proofs.Ytfaobpmbiocafaa.Ms
open Go.Proofs.Ytfaobpmbiocafaa.Rp
open Go.Proofs.Ytfaobpmbiocafaa.Ps
open Go.Proofs.Ytfaobpmbiocafaa.Es
open Go.Proofs.Ytfaobpmbiocafaa.Own (k1)
open Go.Proofs.Ytfaobpmbiocafaa.Bk (E)
open Go.Proofs.Ytfaobpmbiocafaa.Wr (cmd_or right_cmd right_route)
open Go.Proofs.Ytfaobpmbiocafaa.Ma
set_option linter.unusedVariables false
set_option maxRecDepth 100000

theorem bytes_of {a b : ByteArray} (h : a.toList = b.toList) : a = b := by
  rw [ByteArray.toList_eq, ByteArray.toList_eq] at h
  exact ByteArray.ext (Array.toList_inj.1 h)
/-- What a route that may be says, field by field. -/
structure Rt (m : M) : Prop where
  kind : m.kind = 1
  bare : Bare.bare1 m = true
  c : isCmd m.cmd = true
  v : isCmd m.ver = true
  a : authB m = true
  r : routeB m = true
theorem right_rt {m : M} (h : rightB m = true) : Rt m := by
  unfold rightB headB at h
  simp only [Bool.and_eq_true, beq_iff_eq] at h
  exact ⟨h.1, h.2.1, h.2.2.1.1, h.2.2.1.2.1, h.2.2.1.2.2, h.2.2.2⟩
theorem right_z {s : ByteArray} {n : Int} (hs : s.size = 4) (h : Pre.rightZ s n = true) : 0 ≤ n ∧ n ≤ 32 := by
  unfold Pre.rightZ at h
  simp only [Bool.and_eq_true, decide_eq_true_eq] at h
  omega
theorem fits_met {n : Int} (h : isMet n = true) : Oct.fitsB n 4 = true := by
  unfold isMet at h
  simp only [Bool.and_eq_true, decide_eq_true_eq] at h
  rw [Oct.fitsB_iff]
  have : ((Oct.pw (4 : Int).toNat : Nat) : Int) = 4294967296 := by decide
  rw [this]
  omega
theorem ofB_mask {n : Int} (h : 0 ≤ n ∧ n ≤ 32) : Mask.ofB n = Mask.maskB n.toNat ∧ Mask.isMask (Mask.ofB n) = true ∧ ((Mask.plenN (Mask.ofB n) : Nat) : Int) = n ∧ (Mask.ofB n).size = 4 := by
  obtain ⟨k, rfl⟩ := Int.eq_ofNat_of_zero_le h.1
  have hk : k ≤ 32 := by omega
  rw [(Mask.ofB_in k hk).1]
  exact ⟨rfl, Mask.isMask_mask k hk, by rw [Mask.plen_mask k hk], Wr.mask_size k hk⟩
theorem none_ok : (ByteArray.mk #[0, 0, 0, 0]).size = 4 ∧ isN ⟨#[0, 0, 0, 0]⟩ = true := ⟨rfl, (isN_iff _).2 rfl⟩

/-- A route that may be: its entry has bytes, and no error; and it is that entry's route. -/
theorem right_entry {m : M} (h : rightB m = true) (al : Bool) (hal : m.family = 0 → al = true) :
    Ent.okE (entryM m) = true ∧ ckE (hdX m.cmd m.ver m.auth) (entryM m) al = 0 ∧ plenE (hdX m.cmd m.ver m.auth) (entryM m) = m.plen ∧ (m.family = 0 ∨ m.family = 2) := by
  obtain ⟨hk, hb, hc, hv, ha, hr⟩ := right_rt h
  obtain ⟨s1, s2⟩ := Rn.route_sizes hr
  unfold routeB at hr
  by_cases f0 : m.family = 0
  · rw [if_pos f0] at hr
    have hr2 := hr
    unfold allB at hr
    simp only [Bool.and_eq_true, beq_iff_eq] at hr
    obtain ⟨q1, q2, q3, q4, q5, q6⟩ := hr
    have hm : maskM m = ⟨#[0, 0, 0, 0]⟩ := by unfold maskM; rw [if_neg (fun hh => by have := hh.1; omega)]
    have hp : plenE (hdX m.cmd m.ver m.auth) (entryM m) = m.plen := by unfold plenE; rw [if_pos (show (entryM m).fam = 0 from f0), q3]
    refine ⟨?_, ?_, hp, .inl f0⟩
    · unfold Ent.okE
      show (Oct.fitsB m.family 2 && Oct.fitsB m.tag 2 && decide (m.pfx.size = 4) && decide ((maskM m).size = 4) && decide (m.next.size = 4) && Oct.fitsB m.metric 4) = true
      rw [f0, q2, q6, s1, s2, hm]
      decide
    · unfold ckE ck0
      rw [if_pos (show (entryM m).fam = 0 from f0), hal f0]
      have hR : rightB (routeM (hdX m.cmd m.ver m.auth) (entryM m)) = true := by
        unfold rightB
        rw [bare_route]
        have h1 : headB (routeM (hdX m.cmd m.ver m.auth) (entryM m)) = true := by
          show (isCmd m.cmd && (isCmd m.ver && authB m)) = true
          rw [hc, hv, ha]; rfl
        have h2 : routeB (routeM (hdX m.cmd m.ver m.auth) (entryM m)) = true := by
          unfold routeB
          rw [if_pos (show (routeM (hdX m.cmd m.ver m.auth) (entryM m)).family = 0 from f0)]
          unfold allB
          show (m.cmd == 1 && (m.tag == 0 && (plenE (hdX m.cmd m.ver m.auth) (entryM m) == 0 && (isN m.pfx && (isN m.next && m.metric == 16))))) = true
          rw [hp]
          exact hr2
        rw [h1, h2]
        rfl
      rw [hR, show isN (entryM m).mask = true from by show isN (maskM m) = true; rw [hm]; exact none_ok.2]
      rfl
  rw [if_neg f0] at hr
  by_cases f2 : m.family = 2
  rotate_left
  · rw [if_neg f2] at hr; cases hr
  rw [if_pos f2, Bool.and_eq_true] at hr
  obtain ⟨hmet, hr⟩ := hr
  have hcm : ckMet (entryM m) = 0 := by unfold ckMet; rw [show isMet (entryM m).met = true from hmet]; rfl
  by_cases v1 : m.ver = 1
  · rw [if_pos v1] at hr
    unfold oneB at hr
    simp only [Bool.and_eq_true, beq_iff_eq, decide_eq_true_eq] at hr
    obtain ⟨q1, q2, q3, q4⟩ := hr
    have hm : maskM m = ⟨#[0, 0, 0, 0]⟩ := by unfold maskM; rw [if_neg (fun hh => by have := hh.2; omega)]
    have hp : plenE (hdX m.cmd m.ver m.auth) (entryM m) = m.plen := by unfold plenE; rw [if_neg (show ¬ (entryM m).fam = 0 from f0), if_pos (show (hdX m.cmd m.ver m.auth).ver = 1 from v1), q2]
    refine ⟨?_, ?_, hp, .inr f2⟩
    · unfold Ent.okE
      show (Oct.fitsB m.family 2 && Oct.fitsB m.tag 2 && decide (m.pfx.size = 4) && decide ((maskM m).size = 4) && decide (m.next.size = 4) && Oct.fitsB m.metric 4) = true
      rw [f2, q1, s1, s2, hm, fits_met hmet]
      decide
    · unfold ckE ck1
      rw [if_neg (show ¬ (entryM m).fam = 0 from f0), if_pos (show (entryM m).fam = 2 from f2), if_pos (show (hdX m.cmd m.ver m.auth).ver = 1 from v1), hcm]
      have : ((entryM m).tag == 0 && (isN (entryM m).mask && isN (entryM m).next)) = true := by
        show (m.tag == 0 && (isN (maskM m) && isN m.next)) = true
        rw [q1, hm, none_ok.2, q4]
        rfl
      rw [this]
      rfl
  · rw [if_neg v1] at hr
    have v2 : m.ver = 2 := by rcases cmd_or hv with h | h <;> omega
    unfold twoB at hr
    simp only [Bool.and_eq_true, decide_eq_true_eq] at hr
    obtain ⟨q1, q2, q3, q4⟩ := hr
    have hz := right_z s1 q3
    have hm : maskM m = Mask.ofB m.plen := by unfold maskM; rw [if_pos ⟨f2, v2⟩]
    obtain ⟨o1, o2, o3, o4⟩ := ofB_mask hz
    have hp : plenE (hdX m.cmd m.ver m.auth) (entryM m) = m.plen := by
      unfold plenE
      rw [if_neg (show ¬ (entryM m).fam = 0 from f0), if_neg (show ¬ (hdX m.cmd m.ver m.auth).ver = 1 from v1)]
      show ((Mask.plenN (maskM m) : Nat) : Int) = m.plen
      rw [hm, o3]
    refine ⟨?_, ?_, hp, .inr f2⟩
    · unfold Ent.okE
      show (Oct.fitsB m.family 2 && Oct.fitsB m.tag 2 && decide (m.pfx.size = 4) && decide ((maskM m).size = 4) && decide (m.next.size = 4) && Oct.fitsB m.metric 4) = true
      rw [f2, q1, s1, s2, hm, o4, fits_met hmet]
      decide
    · unfold ckE ck2
      rw [if_neg (show ¬ (entryM m).fam = 0 from f0), if_pos (show (entryM m).fam = 2 from f2), if_neg (show ¬ (hdX m.cmd m.ver m.auth).ver = 1 from v1), hcm]
      have : (Mask.isMask (entryM m).mask && Pre.rightZ (entryM m).addr ((Mask.plenN (entryM m).mask : Nat) : Int)) = true := by
        show (Mask.isMask (maskM m) && Pre.rightZ m.pfx ((Mask.plenN (maskM m) : Nat) : Int)) = true
        rw [hm, o2, o3, q3]
        rfl
      rw [this]
      rfl

theorem same_route {m : M} (h : rightB m = true) : M.same m (routeM (hdX m.cmd m.ver m.auth) (entryM m)) = true := by
  obtain ⟨hk, hb, _⟩ := right_rt h
  have hp := (right_entry h true (fun _ => rfl)).2.2.1
  unfold Bare.bare1 M.same M.flatE at hb
  unfold M.same M.flatE
  simp only [Bool.and_eq_true] at hb ⊢
  obtain ⟨⟨b0, b1, b2, b3, b4, b5, b6, b7, b8, b9, b10, b11, b12, b13, b14, b15, b16, b17, b18, b19, b20, b21, b22⟩, b23, b24⟩ := hb
  refine ⟨⟨?_, b1, b2, b3, b4, b5, b6, ?_, b8, b9, b10, b11, b12, b13, b14, b15, b16, b17, b18, b19, b20, b21, b22⟩, b23, b24⟩
  · show (m.kind == 1) = true
    rw [hk]; rfl
  · show (m.plen == plenE (hdX m.cmd m.ver m.auth) (entryM m)) = true
    rw [hp]
    simp

/-- Routes that have a datagram. -/
structure Wrt (l : List M) : Prop where
  n1 : 1 ≤ l.length
  r : ∀ m ∈ l, rightB m = true
  n2 : l.length ≤ most (at0 l 0)
  t : ∀ i, 0 < i → i < l.length → tog (at0 l 0) (at0 l i) = true
theorem enc_two (l : List M) : ((enc l).2.2 ≠ 0 ∧ (enc l).1 = ⟨#[]⟩ ∧ 0 ≤ (enc l).2.1 ∧ (enc l).2.1 ≤ (l.length : Int)) ∨ (Wrt l ∧ enc l = (⟨(wrtL l).toArray⟩, 0, 0)) := by
  rcases bad_cases (ckW l) l.length with ⟨k, h1, h2, h3, _⟩ | ⟨hw, _⟩
  · rw [enc_wrong h1 h2 h3]
    exact .inl ⟨show (1 : Int) ≠ 0 by decide, rfl, Int.natCast_nonneg _, by show ((k : Nat) : Int) ≤ l.length; omega⟩
  by_cases h0 : l.length = 0
  · rw [enc_none h0]
    exact .inl ⟨show (8 : Int) ≠ 0 by decide, rfl, Int.le_refl _, Int.natCast_nonneg _⟩
  rcases bad_cases (ckT l) l.length with ⟨k, h1, h2, h3, _⟩ | ⟨ht, _⟩
  · rw [enc_apart hw h1 h2 h3]
    exact .inl ⟨h3, rfl, Int.natCast_nonneg _, by show ((k : Nat) : Int) ≤ l.length; omega⟩
  · refine .inr ⟨⟨by omega, all_right hw, ?_, ?_⟩, enc_ok hw h0 ht⟩
    · refine Decidable.byContradiction fun hn => ?_
      have := ht (most (at0 l 0)) (by omega)
      rw [Tg.ckT_most rfl] at this
      exact absurd this (by decide)
    · intro i hi hl
      have := ht i hl
      unfold ckT at this
      by_cases hm : i = most (at0 l 0)
      · rw [if_pos hm] at this; exact absurd this (by decide)
      · rw [if_neg hm] at this
        cases htg : tog (at0 l 0) (at0 l i)
        · rw [if_pos ⟨hi, htg⟩] at this; exact absurd this (by decide)
        · rfl
theorem at0_take (l : List M) (k i : Nat) (h : i < k) : at0 (l.take k) i = at0 l i := by
  unfold at0
  rw [List.getD_eq_getElem?_getD, List.getD_eq_getElem?_getD, List.getElem?_take, if_pos h]
theorem Wrt.take {l : List M} (W : Wrt l) {k : Nat} (h1 : 1 ≤ k) (h2 : k ≤ l.length) : Wrt (l.take k) := by
  have hl : (l.take k).length = k := by simp; omega
  refine ⟨by omega, fun m hm => W.r m (List.mem_of_mem_take hm), ?_, ?_⟩
  · rw [hl, at0_take l k 0 (by omega)]
    exact Nat.le_trans h2 W.n2
  · intro i hi hil
    rw [hl] at hil
    rw [at0_take l k 0 (by omega), at0_take l k i hil]
    exact W.t i hi (by omega)
theorem line20 {m : M} (h : rightB m = true) : (lineL m).length = 20 ∧ Ent.E.of (Ent.putE (entryM m)) = entryM m ∧ (lineL m).take 2 = Ent.layN m.family 2 := by
  have hk := (right_entry h true (fun _ => rfl)).1
  obtain ⟨h1, h2⟩ := Ent.put_back _ hk
  refine ⟨by unfold lineL; simpa using h1, h2, ?_⟩
  unfold lineL Ent.putE
  rw [if_pos hk]
  show (Ent.laidE (entryM m)).take 2 = _
  unfold Ent.laidE
  have hf : Oct.fitsB (entryM m).fam 2 = true := by
    unfold Ent.okE at hk
    simp only [Bool.and_eq_true] at hk
    exact hk.1.1.1.1.1
  have : (Ent.layN (entryM m).fam 2).length = 2 := (Ent.numL_layN _ 2 hf).2
  rw [List.take_append_of_le_length (by omega), List.take_of_length_le (by omega)]
  rfl
theorem chunks : ∀ {l : List M}, (∀ m ∈ l, (lineL m).length = 20) → (l.flatMap lineL).length = 20 * l.length ∧ ∀ i (hi : i < l.length), ((l.flatMap lineL).drop (20 * i)).take 20 = lineL l[i]
  | [], _ => ⟨rfl, fun i hi => absurd hi (by simp)⟩
  | m :: l, h => by
    obtain ⟨h1, h2⟩ := chunks (l := l) (fun x hx => h x (by simp [hx]))
    have hm := h m (by simp)
    refine ⟨by rw [List.flatMap_cons, List.length_append, h1, hm, List.length_cons]; omega, fun i hi => ?_⟩
    rw [List.flatMap_cons]
    match i, hi with
    | 0, _ => rw [Nat.mul_zero, List.drop_zero, List.take_append_of_le_length (by omega), List.take_of_length_le (by omega)]; rfl
    | i + 1, hi =>
      rw [List.drop_append, List.drop_of_length_le (by omega), List.nil_append, hm, show 20 * (i + 1) - 20 = 20 * i by omega]
      exact h2 i (by simpa using hi)
theorem layN_cmd2 {n : Int} (h : isCmd n = true) : ∃ x : UInt8, Ent.layN n 1 = [x] ∧ n = (x.toNat : Int) := by
  rcases cmd_or h with rfl | rfl
  · exact ⟨1, rfl, rfl⟩
  · exact ⟨2, rfl, rfl⟩
theorem isA_fam {s : ByteArray} {n : Int} (hn : n = 0 ∨ n = 2) (h : s.data.toList.take 2 = Ent.layN n 2) : Au.isA s = false := by
  have hs : Au.starts s = false := by
    unfold Au.starts
    rw [ByteArray.toList_eq, Ent.ext_list, List.drop_zero, h]
    rcases hn with rfl | rfl <;> rfl
  unfold Au.isA
  rw [hs, Bool.and_false]

/-- What the bytes of routes say. -/
structure Says (b : ByteArray) (l : List M) (p0 : Nat) : Prop where
  hd : (hdAt b).2 = 0
  cn : (cnAt b).2 = 0
  m : hdM b = hdX (at0 l 0).cmd (at0 l 0).ver (at0 l 0).auth
  atp : atN b = p0
  size : b.size = p0 + 20 * l.length
  p : p0 = 4 ∧ (at0 l 0).auth.size = 0 ∨ p0 = 24 ∧ (at0 l 0).auth.size = 18
  e : ∀ i, i < l.length → entP b (p0 + 20 * i) = entryM (Es.at0 l i)
theorem cn_of {b : ByteArray} {n : Nat} (h : b.size = 4 + 20 * n) (h1 : 1 ≤ n) (h2 : n ≤ 25) : (cnAt b).2 = 0 := by
  unfold cnAt
  rw [if_neg (by omega), if_neg (by omega), if_neg (by omega)]
theorem hd_of {b : ByteArray} (h4 : 4 ≤ b.size) (hc : isCmd (bt b 0) = true) (hv : isCmd (bt b 1) = true) (h2 : bt b 2 = 0) (h3 : bt b 3 = 0) : (hdAt b).2 = 0 := by
  unfold hdAt
  rw [if_neg (by omega), hc, hv, zero_two b h4, h2, h3]
  rfl
theorem auth_or {m : M} (h : authB m = true) : m.auth.size = 0 ∨ m.auth.size = 18 ∧ m.ver = 2 := by
  unfold authB at h
  simp only [Bool.or_eq_true, Bool.and_eq_true, decide_eq_true_eq, beq_iff_eq] at h
  exact h

theorem wrt_says {l : List M} (W : Wrt l) : ∃ p0, Says ⟨(wrtL l).toArray⟩ l p0 := by
  have h1 := W.n1
  have hf0 : at0 l 0 = l[0] := at0_eq l 0 (by omega)
  have hrf : rightB (at0 l 0) = true := by rw [hf0]; exact W.r _ (List.getElem_mem _)
  obtain ⟨hk, hb, hc, hv, ha, hr⟩ := right_rt hrf
  obtain ⟨x0, e0, c0⟩ := layN_cmd2 hc
  obtain ⟨x1, e1, c1⟩ := layN_cmd2 hv
  have h20 : ∀ m ∈ l, (lineL m).length = 20 := fun m hm => (line20 (W.r m hm)).1
  obtain ⟨hl, hch⟩ := chunks h20
  have hm2 := W.n2
  generalize hF : l.flatMap lineL = F at *
  have hL : (ByteArray.mk (wrtL l).toArray).data.toList = x0 :: x1 :: 0 :: 0 :: ((Au.putA (at0 l 0).auth).data.toList ++ F) := by
    show wrtL l = _
    unfold wrtL hdL
    rw [e0, e1, hF]
    simp
  generalize hbb : ByteArray.mk (wrtL l).toArray = b at *
  have b0 : bt b 0 = (at0 l 0).cmd := by unfold bt; rw [hL, c0]; rfl
  have b1 : bt b 1 = (at0 l 0).ver := by unfold bt; rw [hL, c1]; rfl
  have b2 : bt b 2 = 0 := by unfold bt; rw [hL]; rfl
  have b3 : bt b 3 = 0 := by unfold bt; rw [hL]; rfl
  have hbs : b.size = 4 + ((Au.putA (at0 l 0).auth).size + 20 * l.length) := by
    have h : b.data.toList.length = b.size := by simp
    have h' : (Au.putA (at0 l 0).auth).data.toList.length = (Au.putA (at0 l 0).auth).size := by simp
    rw [← h, hL]
    simp only [List.length_cons, List.length_append, hl, h']
    omega
  have hx : (b.extract 4 24).data.toList = ((Au.putA (at0 l 0).auth).data.toList ++ F).take 20 := by rw [Ent.ext_list, hL]; rfl
  have hent : ∀ p i, p = 4 + (Au.putA (at0 l 0).auth).size → i < l.length → entP b (p + 20 * i) = entryM (at0 l i) := by
    intro p i hp hi
    have hri := W.r _ (List.getElem_mem hi)
    unfold entP
    have : b.extract (p + 20 * i) (p + 20 * i + 20) = Ent.putE (entryM l[i]) := by
      apply Ent.text_eq
      rw [Ent.ext_list, hL, show p + 20 * i + 20 - (p + 20 * i) = 20 by omega]
      have hd : (x0 :: x1 :: 0 :: 0 :: ((Au.putA (at0 l 0).auth).data.toList ++ F)).drop (p + 20 * i) = F.drop (20 * i) := by
        have h' : (Au.putA (at0 l 0).auth).data.toList.length = (Au.putA (at0 l 0).auth).size := by simp
        rw [show p + 20 * i = (20 * i + (Au.putA (at0 l 0).auth).size) + 1 + 1 + 1 + 1 by omega]
        simp only [List.drop_succ_cons]
        rw [List.drop_append, List.drop_of_length_le (by omega), List.nil_append, h', show 20 * i + (Au.putA (at0 l 0).auth).size - (Au.putA (at0 l 0).auth).size = 20 * i by omega]
      rw [hd, hch i hi]
      rfl
    rw [this, at0_eq l i hi]
    exact (line20 hri).2.1
  rcases auth_or ha with ha0 | ⟨ha8, hv2⟩
  · have hpe : Au.putA (at0 l 0).auth = ByteArray.empty := (Au.put_no (by omega)).2
    have hes : (at0 l 0).auth = ByteArray.empty := ByteArray.ext (Array.eq_empty_of_size_eq_zero ha0)
    have hps : (Au.putA (at0 l 0).auth).size = 0 := by rw [hpe]; rfl
    have hmost : most (at0 l 0) = 25 := by unfold most; rw [if_pos ha0]
    have hi : Au.isA (b.extract 4 24) = false := by
      refine isA_fam (right_entry hrf true (fun _ => rfl)).2.2.2 ?_
      rw [hx, hpe]
      show (([] ++ F).take 20).take 2 = _
      have := hch 0 (by omega)
      rw [Nat.mul_zero, List.drop_zero] at this
      rw [List.nil_append, this, ← hf0]
      exact (line20 hrf).2.2
    have hs : says b = false := by unfold says; rw [hi, Bool.and_false]
    refine ⟨4, hd_of (by omega) (b0 ▸ hc) (b1 ▸ hv) b2 b3, cn_of (n := l.length) (by omega) h1 (by omega), ?_, ?_, by omega, .inl ⟨rfl, ha0⟩, fun i hi => hent 4 i (by omega) hi⟩
    · unfold hdM base
      rw [hs, b0, b1, hes]
      rfl
    · unfold atN; rw [hs]; rfl
  · obtain ⟨_, hi1, hg⟩ := Au.put_back ha8
    have hps : (Au.putA (at0 l 0).auth).size = 20 := Au.isA_size hi1
    have hmost : most (at0 l 0) = 24 := by unfold most; rw [if_neg (by omega)]
    have hpx : b.extract 4 24 = Au.putA (at0 l 0).auth := by
      apply Ent.text_eq
      have h' : (Au.putA (at0 l 0).auth).data.toList.length = (Au.putA (at0 l 0).auth).size := by simp
      rw [hx, List.take_append_of_le_length (by omega), List.take_of_length_le (by omega)]
    have hs : says b = true := by unfold says; rw [hpx, hi1, b1, hv2]; rfl
    refine ⟨24, hd_of (by omega) (b0 ▸ hc) (b1 ▸ hv) b2 b3, cn_of (n := l.length + 1) (by omega) (by omega) (by omega), ?_, ?_, by omega, .inr ⟨rfl, ha8⟩, fun i hi => hent 24 i (by omega) hi⟩
    · unfold hdM base
      rw [hs, b0, b1, if_pos rfl, hpx, hg]
      rfl
    · unfold atN; rw [hs]; rfl

theorem take_chunks {l : List M} (h : ∀ m ∈ l, (lineL m).length = 20) {k : Nat} (hk : k ≤ l.length) : (l.take k).flatMap lineL = (l.flatMap lineL).take (20 * k) := by
  have h1 := (chunks (l := l.take k) (fun m hm => h m (List.mem_of_mem_take hm))).1
  have hl : (l.take k).length = k := by simp; omega
  rw [hl] at h1
  have e : l.flatMap lineL = (l.take k).flatMap lineL ++ (l.drop k).flatMap lineL := by rw [← List.flatMap_append, List.take_append_drop]
  rw [e, List.take_append_of_le_length (by omega)]
  exact (List.take_of_length_le (by omega)).symm
theorem Wrt.heads {l : List M} (W : Wrt l) {i : Nat} (hi : i < l.length) : hdX (at0 l i).cmd (at0 l i).ver (at0 l i).auth = hdX (at0 l 0).cmd (at0 l 0).ver (at0 l 0).auth ∧ ((at0 l i).family = 0 → l.length = 1) := by
  by_cases h0 : i = 0
  · subst h0
    refine ⟨rfl, fun hf => ?_⟩
    refine Decidable.byContradiction fun hn => ?_
    have := W.t 1 (by omega) (by have := W.n1; omega)
    unfold tog at this
    simp only [Bool.and_eq_true, bne_iff_ne, ne_eq] at this
    exact this.1 hf
  · have := W.t i (by omega) hi
    unfold tog at this
    simp only [Bool.and_eq_true, bne_iff_ne, ne_eq, beq_iff_eq] at this
    obtain ⟨_, h2, h3, h4, h5⟩ := this
    refine ⟨?_, fun hf => absurd hf h2⟩
    rw [← h3, ← h4, ← bytes_of h5]

theorem wrt_out {l : List M} (W : Wrt l) : ∃ l', out ⟨(wrtL l).toArray⟩ = (l', 0, 0) ∧ All.sameL l l' = true ∧ l'.length = l.length ∧ Ap.Flat l' := by
  obtain ⟨p0, S⟩ := wrt_says W
  have h1 := W.n1
  generalize ByteArray.mk (wrtL l).toArray = b at *
  have hp : p0 = 4 ∨ p0 = 24 := by rcases S.p with h | h <;> omega
  have hcn : cntN b = l.length := by unfold cntN; rw [S.atp, S.size]; omega
  have hck : ∀ i, i < l.length → ckE (hdM b) (entP b (p0 + 20 * i)) (decide (p0 + 20 = b.size)) = 0 := by
    intro i hi
    have hri : rightB (at0 l i) = true := by rw [at0_eq l i hi]; exact W.r _ (List.getElem_mem hi)
    obtain ⟨q1, q2⟩ := W.heads hi
    rw [S.e i hi, S.m, ← q1]
    exact (right_entry hri _ (fun hf => by have := q2 hf; have := S.size; simp; omega)).2.1
  refine ⟨rts (hdM b) b p0 l.length, ?_, ?_, rts_len _ _ _ _, fun m hm => by
    simp only [rts, List.mem_map] at hm
    obtain ⟨i, _, rfl⟩ := hm
    exact ⟨show (hdM b).ll = [] by rw [S.m]; rfl, show (hdM b).sl = [] by rw [S.m]; rfl⟩⟩
  · unfold out
    rw [if_neg (by simpa using S.hd), if_neg (by simpa using S.cn), S.atp, if_neg (by have := S.size; omega), hcn]
    exact ents_none hck
  · refine All.sameL_yes (rts_len _ _ _ _).symm fun i hx hy => ?_
    have hri := W.r _ (List.getElem_mem hx)
    have e : (rts (hdM b) b p0 l.length)[i] = routeM (hdM b) (entP b (p0 + 20 * i)) := by simp [rts]
    obtain ⟨q1, _⟩ := W.heads hx
    rw [e, S.e i hx, S.m, ← q1, at0_eq l i hx]
    exact same_route hri
theorem wrt_size {l : List M} (W : Wrt l) : ∃ p0, (wrtL l).length = p0 + 20 * l.length ∧ (p0 = 4 ∧ (at0 l 0).auth.size = 0 ∧ l.length ≤ 25 ∨ p0 = 24 ∧ (at0 l 0).auth.size = 18 ∧ l.length ≤ 24) := by
  obtain ⟨p0, S⟩ := wrt_says W
  have hz : (ByteArray.mk (wrtL l).toArray).size = (wrtL l).length := by show (wrtL l).toArray.size = _; simp
  refine ⟨p0, by rw [← hz]; exact S.size, ?_⟩
  have := W.n2
  unfold most at this
  rcases S.p with ⟨h1, h2⟩ | ⟨h1, h2⟩
  · rw [if_pos h2] at this; exact .inl ⟨h1, h2, this⟩
  · rw [if_neg (by omega)] at this; exact .inr ⟨h1, h2, this⟩

/-- Cut off between entries, it is the datagram of the first routes. -/
theorem cut_yes {l : List M} (W : Wrt l) {n : Nat} (hn : n < (wrtL l).length) (h24 : 24 ≤ n) (h20 : n % 20 = 4) (hA : ¬ ((at0 l 0).auth.size ≠ 0 ∧ n = 24)) :
    ∃ k, 1 ≤ k ∧ k < l.length ∧ (ByteArray.mk (wrtL l).toArray).extract 0 n = ⟨(wrtL (l.take k)).toArray⟩ := by
  obtain ⟨p0, hs, hp⟩ := wrt_size W
  refine ⟨(n - p0) / 20, by omega, by omega, ?_⟩
  apply Ent.text_eq
  rw [Ent.ext_list, List.drop_zero, Nat.sub_zero]
  show (wrtL l).take n = wrtL (l.take ((n - p0) / 20))
  have h20' : ∀ m ∈ l, (lineL m).length = 20 := fun m hm => (line20 (W.r m hm)).1
  have hfl := (chunks h20').1
  have hh : (hdL (at0 l 0)).length = p0 := by
    have : (wrtL l).length = (hdL (at0 l 0)).length + (l.flatMap lineL).length := by unfold wrtL; rw [List.length_append]
    omega
  have e0 : at0 (l.take ((n - p0) / 20)) 0 = at0 l 0 := at0_take l _ 0 (by omega)
  unfold wrtL
  rw [e0, take_chunks h20' (by omega), List.take_append, hh, List.take_of_length_le (by omega), show n - p0 = 20 * ((n - p0) / 20) by omega]
  congr 2
  omega
/-- Cut off elsewhere, it is none. -/
theorem cut_no {l : List M} (W : Wrt l) {n : Nat} (hn : n < (wrtL l).length) (h : (out ((ByteArray.mk (wrtL l).toArray).extract 0 n)).2.2 = 0) : 24 ≤ n ∧ n % 20 = 4 ∧ ¬ ((at0 l 0).auth.size ≠ 0 ∧ n = 24) := by
  obtain ⟨k, p0, au, g⟩ := out_good h
  obtain ⟨q0, S⟩ := wrt_says W
  have hz : ((ByteArray.mk (wrtL l).toArray).extract 0 n).size = n := by
    rw [ByteArray.size_extract]
    have : (ByteArray.mk (wrtL l).toArray).size = (wrtL l).length := by show (wrtL l).toArray.size = _; simp
    omega
  have hs := g.size
  have h1 := g.n1
  rw [hz] at hs
  have hp : p0 = 4 ∨ p0 = 24 := by rcases g.auth with ⟨h, _⟩ | ⟨h, _⟩ <;> omega
  refine ⟨by omega, by omega, ?_⟩
  rintro ⟨ha, rfl⟩
  generalize ByteArray.mk (wrtL l).toArray = b at *
  have hq : q0 = 24 := by rcases S.p with ⟨_, h2⟩ | ⟨h2, _⟩ <;> omega
  have hsb : says b = true := by
    have := S.atp
    unfold atN at this
    cases hx : says b
    · rw [hx, hq] at this; exact absurd this (by decide)
    · rfl
  have hsc : says (b.extract 0 24) = says b := by
    have e1 : bt (b.extract 0 24) 1 = bt b 1 := by
      unfold bt
      rw [Ent.ext_list, List.drop_zero, List.getD_eq_getElem?_getD, List.getD_eq_getElem?_getD, List.getElem?_take, if_pos (by omega)]
    have e2 : (b.extract 0 24).extract 4 24 = b.extract 4 24 := by
      apply Ent.text_eq
      rw [Ent.ext_list, Ent.ext_list, Ent.ext_list, List.drop_zero, List.drop_take, List.take_take]
      rfl
    unfold says
    rw [e1, e2]
  rcases g.auth with ⟨_, _, hf⟩ | ⟨hp24, _, _⟩
  · rw [hsc, hsb] at hf; cases hf
  · omega
end Go.Proofs.Ytfaobpmbiocafaa.Mb
