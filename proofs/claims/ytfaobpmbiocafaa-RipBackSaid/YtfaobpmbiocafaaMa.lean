/-
  There and back, of values alone: bytes that are a datagram are that of their routes. No conditions.
-/
import Derived.Test.YtfaobpmbiocafaaWr
namespace Go.Proofs.Ytfaobpmbiocafaa.Ma
open Go.ChangeShapes Go.WideShapes Go.ChangeAt Go.RowKit
open Go.Proofs.Ytfaobpmbiocafaa.Ms
open Go.Proofs.Ytfaobpmbiocafaa.Rp
open Go.Proofs.Ytfaobpmbiocafaa.Ps
open Go.Proofs.Ytfaobpmbiocafaa.Es
open Go.Proofs.Ytfaobpmbiocafaa.Own (k1)
open Go.Proofs.Ytfaobpmbiocafaa.Bk (E)
open Go.Proofs.Ytfaobpmbiocafaa.Ck (E4)
open Go.Proofs.Ytfaobpmbiocafaa.Wr (cmd_or right_cmd right_route)
set_option linter.unusedVariables false
set_option maxRecDepth 100000

/-- What all routes of a datagram share. -/
def hdX (cmd ver : Int) (au : ByteArray) : M := { M.zero with kind := 1, cmd := cmd, ver := ver, auth := au }
/-- The entry's numbers are those of bytes. -/
structure Fit (e : E) : Prop where
  (a : e.addr.size = 4) (m : e.mask.size = 4) (n : e.next.size = 4) (f0 : 0 ≤ e.fam) (f1 : e.fam ≤ 65535) (t0 : 0 ≤ e.tag) (t1 : e.tag ≤ 65535)
theorem numL_two (l : List UInt8) (h : l.length = 2) : (Cur.numL l : Int) ≤ 65535 := by
  match l, h with
  | [a, b], _ =>
    have ha := a.toNat_lt
    have hb := b.toNat_lt
    have : Cur.numL [a, b] = a.toNat * 256 + b.toNat := by simp [Cur.numL]
    rw [this]
    omega
theorem fit_of (s : ByteArray) (h : s.size = 20) : Fit (Ent.E.of s) := by
  have hl : s.data.toList.length = 20 := by simpa using h
  have h4 := Ck.ent4 s h
  exact ⟨h4.a, h4.m, h4.n, Int.natCast_nonneg _, numL_two _ (by simp; omega), Int.natCast_nonneg _, numL_two _ (by simp; omega)⟩
theorem bare_route (cmd ver : Int) (au : ByteArray) (e : E) : Bare.bare1 (routeM (hdX cmd ver au) e) = true := by
  unfold Bare.bare1 M.same M.flatE
  simp [routeM, hdX, k1, M.zero]
theorem maskB_of {s : ByteArray} (h : Mask.isMask s = true) : Mask.ofB ((Mask.plenN s : Nat) : Int) = s := by
  have hp : Mask.plenN s = Mask.lenOf s := by unfold Mask.plenN; rw [if_pos h]
  rw [hp, (Mask.ofB_in _ (Mask.lenOf_le s)).1]
  unfold Mask.isMask at h
  simpa using h
theorem ckMet_ok {e : E} (h : ckMet e = 0) : isMet e.met = true := by
  unfold ckMet at h
  cases hm : isMet e.met
  · rw [hm] at h; simp at h
  · rfl

/-- An entry without an error: its route may be, and its entry is that. -/
theorem entry_ok {cmd ver : Int} {au : ByteArray} {e : E} {al : Bool} (hc : isCmd cmd = true) (hv : isCmd ver = true) (ha : authB (hdX cmd ver au) = true) (hf : Fit e) (h : ckE (hdX cmd ver au) e al = 0) :
    rightB (routeM (hdX cmd ver au) e) = true ∧ entryM (routeM (hdX cmd ver au) e) = e ∧ (e.fam = 0 → al = true) := by
  have hd : headB (routeM (hdX cmd ver au) e) = true := by
    have : authB (routeM (hdX cmd ver au) e) = authB (hdX cmd ver au) := rfl
    unfold headB
    rw [this, ha]
    show (isCmd cmd && (isCmd ver && true)) = true
    rw [hc, hv]; rfl
  have hr : routeB (routeM (hdX cmd ver au) e) = true → rightB (routeM (hdX cmd ver au) e) = true := by
    intro hr
    unfold rightB
    rw [bare_route, hd, hr]
    rfl
  unfold ckE at h
  by_cases f0 : e.fam = 0
  · rw [if_pos f0] at h
    unfold ck0 at h
    cases hx : (al && (isN e.mask && rightB (routeM (hdX cmd ver au) e)))
    · rw [hx] at h; simp at h
    · simp only [Bool.and_eq_true] at hx
      refine ⟨hx.2.2, ?_, fun _ => hx.1⟩
      have hm := (isN_iff _).1 hx.2.1
      have hk : maskM (routeM (hdX cmd ver au) e) = e.mask := by
        rw [hm]; unfold maskM; rw [if_neg]
        intro hh
        have : e.fam = 2 := hh.1
        omega
      unfold entryM
      rw [hk]
      rfl
  rw [if_neg f0] at h
  by_cases f2 : e.fam = 2
  · rw [if_pos f2] at h
    by_cases v1 : ver = 1
    · rw [if_pos (show (hdX cmd ver au).ver = 1 from v1)] at h
      unfold ck1 at h
      cases hx : (e.tag == 0 && (isN e.mask && isN e.next))
      · rw [hx] at h; simp at h
      · rw [hx, if_pos rfl] at h
        have hm := ckMet_ok h
        simp only [Bool.and_eq_true] at hx
        refine ⟨hr ?_, ?_, fun h0 => absurd h0 f0⟩
        · unfold routeB
          rw [if_neg (show ¬ (routeM (hdX cmd ver au) e).family = 0 from f0), if_pos (show (routeM (hdX cmd ver au) e).family = 2 from f2), if_pos (show (routeM (hdX cmd ver au) e).ver = 1 from v1)]
          unfold oneB
          have hp : plenE (hdX cmd ver au) e = 32 := by unfold plenE; rw [if_neg f0, if_pos (show (hdX cmd ver au).ver = 1 from v1)]
          show (isMet e.met && (e.tag == 0 && (plenE (hdX cmd ver au) e == 32 && (decide (e.addr.size = 4) && isN e.next)))) = true
          rw [hm, hx.1, hp, hx.2.2, hf.a]
          rfl
        · have hk : maskM (routeM (hdX cmd ver au) e) = e.mask := by
            rw [(isN_iff _).1 hx.2.1]; unfold maskM; rw [if_neg]
            intro hh
            have : ver = 2 := hh.2
            omega
          unfold entryM
          rw [hk]
          rfl
    · rw [if_neg (show ¬ (hdX cmd ver au).ver = 1 from v1)] at h
      have v2 : ver = 2 := by rcases cmd_or hv with h | h <;> omega
      unfold ck2 at h
      cases hx : (Mask.isMask e.mask && Pre.rightZ e.addr ((Mask.plenN e.mask : Nat) : Int))
      · rw [hx] at h; simp at h
      · rw [hx, if_pos rfl] at h
        have hm := ckMet_ok h
        simp only [Bool.and_eq_true] at hx
        have hp : plenE (hdX cmd ver au) e = ((Mask.plenN e.mask : Nat) : Int) := by unfold plenE; rw [if_neg f0, if_neg (show ¬ (hdX cmd ver au).ver = 1 from v1)]
        refine ⟨hr ?_, ?_, fun h0 => absurd h0 f0⟩
        · unfold routeB
          rw [if_neg (show ¬ (routeM (hdX cmd ver au) e).family = 0 from f0), if_pos (show (routeM (hdX cmd ver au) e).family = 2 from f2), if_neg (show ¬ (routeM (hdX cmd ver au) e).ver = 1 from v1)]
          unfold twoB
          show (isMet e.met && (Oct.fitsB e.tag 2 && (decide (e.addr.size = 4) && (Pre.rightZ e.addr (plenE (hdX cmd ver au) e) && decide (e.next.size = 4))))) = true
          rw [hm, Rn.fits2, decide_eq_true hf.t0, decide_eq_true hf.t1, hp, hx.2, hf.a, hf.n]
          rfl
        · have hk : maskM (routeM (hdX cmd ver au) e) = e.mask := by
            unfold maskM
            rw [if_pos ⟨f2, v2⟩]
            show Mask.ofB (plenE (hdX cmd ver au) e) = e.mask
            rw [hp, maskB_of hx.1]
          unfold entryM
          rw [hk]
          rfl
  · rw [if_neg f2] at h
    simp at h

/-- Which of the answers it is. -/
theorem bad_cases (f : Nat → Int) (n : Nat) : (∃ k, k < n ∧ (∀ i, i < k → f i = 0) ∧ f k ≠ 0 ∧ bad f n = some k) ∨ ((∀ i, i < n → f i = 0) ∧ bad f n = none) := by
  have first : (∃ k, k < n ∧ (∀ i, i < k → f i = 0) ∧ f k ≠ 0) ∨ (∀ i, i < n → f i = 0) := by
    induction n with
    | zero => exact .inr (fun i hi => absurd hi (by omega))
    | succ n ih =>
      rcases ih with ⟨k, h1, h2, h3⟩ | h
      · exact .inl ⟨k, by omega, h2, h3⟩
      · by_cases hn : f n = 0
        · exact .inr (fun i hi => by
            by_cases hin : i < n
            · exact h i hin
            · obtain rfl : i = n := by omega
              exact hn)
        · exact .inl ⟨n, by omega, h, hn⟩
  rcases first with ⟨k, h1, h2, h3⟩ | h
  · exact .inl ⟨k, h1, h2, h3, bad_some h1 h2 h3⟩
  · exact .inr ⟨h, bad_none h⟩

theorem ents_err (h : M) (b : ByteArray) (p n : Nat) (al : Bool) (hb : b.size = p + 20 * n) : (ents h b p n al).2.2 ≠ 0 → (ents h b p n al).1 = [] ∧ 0 ≤ (ents h b p n al).2.1 ∧ (ents h b p n al).2.1 ≤ b.size := by
  intro hn
  rcases bad_cases (fun i => ckE h (entP b (p + 20 * i)) al) n with ⟨k, h1, h2, h3, h4⟩ | ⟨h1, h2⟩
  · have : ents h b p n al = ([], ((p + 20 * k : Nat) : Int), ckE h (entP b (p + 20 * k)) al) := by unfold ents; rw [h4]
    rw [this]
    exact ⟨rfl, Int.natCast_nonneg _, by show ((p + 20 * k : Nat) : Int) ≤ b.size; omega⟩
  · exfalso
    apply hn
    unfold ents
    rw [h2]

theorem out_err (b : ByteArray) (h : (out b).2.2 ≠ 0) : (out b).1 = [] ∧ 0 ≤ (out b).2.1 ∧ (out b).2.1 ≤ b.size := by
  unfold out at h ⊢
  by_cases h1 : (hdAt b).2 = 0
  · rw [if_neg (by simpa using h1)] at h ⊢
    by_cases h2 : (cnAt b).2 = 0
    · rw [if_neg (by simpa using h2)] at h ⊢
      by_cases h3 : atN b = b.size
      · rw [if_pos h3]; exact ⟨rfl, Int.natCast_nonneg _, Int.le_refl _⟩
      · rw [if_neg h3] at h ⊢
        obtain ⟨h4, _⟩ := hd_ok h1
        obtain ⟨n, n1, n2, hn⟩ := cn_ok h2 h4
        have := atN_or b
        exact ents_err _ _ _ _ _ (by unfold cntN; omega) h
    · rw [if_pos h2]
      obtain ⟨h4, _⟩ := hd_ok h1
      refine ⟨rfl, ?_, ?_⟩
      · show 0 ≤ (cnAt b).1
        unfold cnAt
        split <;> (try split) <;> (try split) <;> simp
      · show (cnAt b).1 ≤ b.size
        unfold cnAt
        split
        · simp
        split
        · simp
        split
        · show (504 : Int) ≤ b.size; omega
        · simp
  · rw [if_pos h1]
    refine ⟨rfl, ?_, ?_⟩
    · show 0 ≤ (hdAt b).1
      unfold hdAt
      split <;> (try split) <;> (try split) <;> (try split) <;> simp
    · show (hdAt b).1 ≤ b.size
      unfold hdAt
      by_cases q : b.size < 4
      · rw [if_pos q]; simp
      rw [if_neg q]
      split
      · simp
      split
      · show (1 : Int) ≤ b.size; omega
      split
      · show (2 : Int) ≤ b.size; omega
      · simp

theorem zero_two (b : ByteArray) (h : 4 ≤ b.size) : Oct.zeroB (b.extract 2 4).data.toList = (bt b 2 == 0 && bt b 3 == 0) := by
  have h2 : 2 < b.size := by omega
  have h3 : 3 < b.size := by omega
  have e : (b.extract 2 4).data.toList = [b[2], b[3]] := by
    apply List.ext_getElem
    · simp; omega
    · intro i h1 h4
      match i, h4 with
      | 0, _ => simp [ByteArray.getElem_eq_getElem_data]
      | 1, _ => simp [ByteArray.getElem_eq_getElem_data]
  rw [e, ← bt_eq b 2 h2, ← bt_eq b 3 h3]
  unfold Oct.zeroB
  have q : ∀ c : UInt8, (c == 0) = ((c.toNat : Int) == 0) := fun c => by
    rw [Bool.eq_iff_iff, beq_iff_eq, beq_iff_eq, ← UInt8.toNat_inj]
    show c.toNat = 0 ↔ _
    omega
  simp [q]

/-- What a datagram without an error is. -/
structure Good (b : ByteArray) (n p0 : Nat) (au : ByteArray) : Prop where
  hd : hdM b = hdX (bt b 0) (bt b 1) au
  at0 : atN b = p0
  size : b.size = p0 + 20 * n
  n1 : 1 ≤ n
  n2 : n ≤ most (hdM b)
  c : isCmd (bt b 0) = true
  v : isCmd (bt b 1) = true
  z2 : bt b 2 = 0
  z3 : bt b 3 = 0
  auth : (p0 = 4 ∧ au = ⟨#[]⟩ ∧ says b = false) ∨ (p0 = 24 ∧ au = Au.getA (b.extract 4 24) ∧ says b = true)
  ck : ∀ i, i < n → ckE (hdM b) (entP b (p0 + 20 * i)) (decide (p0 + 20 = b.size)) = 0
  out : out b = (rts (hdM b) b p0 n, 0, 0)
theorem getA_size {s : ByteArray} (h : Au.isA s = true) : (Au.getA s).size = 18 := by
  have hz := Au.isA_size h
  unfold Au.getA
  rw [if_pos h, ByteArray.size_extract]
  omega
theorem most_hd {cmd ver : Int} {au : ByteArray} : most (hdX cmd ver au) = if au.size = 0 then 25 else 24 := rfl
theorem out_good {b : ByteArray} (h : (out b).2.2 = 0) : ∃ n p0 au, Good b n p0 au := by
  have ho : out b = out b := rfl
  unfold out at h
  by_cases h1 : (hdAt b).2 = 0
  rotate_left
  · rw [if_pos h1] at h; exact absurd h h1
  rw [if_neg (by simpa using h1)] at h
  by_cases h2 : (cnAt b).2 = 0
  rotate_left
  · rw [if_pos h2] at h; exact absurd h h2
  rw [if_neg (by simpa using h2)] at h
  by_cases h3 : atN b = b.size
  · rw [if_pos h3] at h; simp at h
  rw [if_neg h3] at h
  obtain ⟨h4, hc, hv, hz⟩ := hd_ok h1
  obtain ⟨n, n1, n2, hn⟩ := cn_ok h2 h4
  rw [zero_two b h4, Bool.and_eq_true, beq_iff_eq, beq_iff_eq] at hz
  have hor := atN_or b
  have hsz : b.size = atN b + 20 * cntN b := by unfold cntN; omega
  have hout : ents (hdM b) b (atN b) (cntN b) (decide (atN b + 20 = b.size)) = (rts (hdM b) b (atN b) (cntN b), 0, 0) ∧ ∀ i, i < cntN b → ckE (hdM b) (entP b (atN b + 20 * i)) (decide (atN b + 20 = b.size)) = 0 := by
    rcases bad_cases (fun i => ckE (hdM b) (entP b (atN b + 20 * i)) (decide (atN b + 20 = b.size))) (cntN b) with ⟨k, q1, q2, q3, q4⟩ | ⟨q1, q2⟩
    · exfalso
      apply q3
      have : ents (hdM b) b (atN b) (cntN b) (decide (atN b + 20 = b.size)) = ([], ((atN b + 20 * k : Nat) : Int), ckE (hdM b) (entP b (atN b + 20 * k)) (decide (atN b + 20 = b.size))) := by unfold ents; rw [q4]
      rw [this] at h
      exact h
    · exact ⟨ents_none q1, q1⟩
  have hO : out b = (rts (hdM b) b (atN b) (cntN b), 0, 0) := by
    unfold out
    rw [if_neg (by simpa using h1), if_neg (by simpa using h2), if_neg h3, hout.1]
  cases hs : says b
  · have ha : atN b = 4 := by unfold atN; rw [hs]; rfl
    refine ⟨cntN b, 4, ⟨#[]⟩, ?_, ha, by omega, by omega, ?_, hc, hv, hz.1, hz.2, .inl ⟨rfl, rfl, hs⟩, by rw [← ha]; exact hout.2, by rw [← ha]; exact hO⟩
    · unfold hdM; rw [hs]; rfl
    · have : most (hdM b) = 25 := by unfold hdM; rw [hs]; rfl
      omega
  · have ha : atN b = 24 := by unfold atN; rw [hs]; rfl
    have hi : Au.isA (b.extract 4 24) = true := by unfold says at hs; simp only [Bool.and_eq_true] at hs; exact hs.2
    refine ⟨cntN b, 24, Au.getA (b.extract 4 24), ?_, ha, by omega, by omega, ?_, hc, hv, hz.1, hz.2, .inr ⟨rfl, rfl, hs⟩, by rw [← ha]; exact hout.2, by rw [← ha]; exact hO⟩
    · unfold hdM; rw [hs]; rfl
    · have : most (hdM b) = 24 := by
        unfold hdM; rw [hs]
        unfold most
        rw [if_neg]
        show ¬ (Au.getA (b.extract 4 24)).size = 0
        rw [getA_size hi]
        omega
      omega

theorem Good.authB {b : ByteArray} {n p0 : Nat} {au : ByteArray} (g : Good b n p0 au) : Rp.authB (hdX (bt b 0) (bt b 1) au) = true := by
  unfold Rp.authB
  rcases g.auth with ⟨_, rfl, _⟩ | ⟨_, rfl, hs⟩
  · rfl
  · unfold says at hs
    simp only [Bool.and_eq_true] at hs
    show (decide ((Au.getA (b.extract 4 24)).size = 0) || (decide ((Au.getA (b.extract 4 24)).size = 18) && bt b 1 == 2)) = true
    rw [getA_size hs.2, hs.1]
    rfl
theorem Good.fit {b : ByteArray} {n p0 : Nat} {au : ByteArray} (g : Good b n p0 au) {i : Nat} (hi : i < n) : Fit (entP b (p0 + 20 * i)) := by
  refine fit_of _ ?_
  rw [ByteArray.size_extract]
  have := g.size
  omega
theorem Good.ent {b : ByteArray} {n p0 : Nat} {au : ByteArray} (g : Good b n p0 au) {i : Nat} (hi : i < n) :
    rightB (routeM (hdM b) (entP b (p0 + 20 * i))) = true ∧ entryM (routeM (hdM b) (entP b (p0 + 20 * i))) = entP b (p0 + 20 * i) ∧ ((entP b (p0 + 20 * i)).fam = 0 → n = 1) := by
  have hc := g.ck i hi
  rw [g.hd] at hc ⊢
  obtain ⟨h1, h2, h3⟩ := entry_ok g.c g.v g.authB (g.fit hi) hc
  refine ⟨h1, h2, fun h => ?_⟩
  have := h3 h
  simp only [decide_eq_true_eq] at this
  have := g.size
  omega
theorem rts_at (h : M) (b : ByteArray) (p n i : Nat) (hi : i < n) : Es.at0 (rts h b p n) i = routeM h (entP b (p + 20 * i)) := by
  rw [at0_eq _ _ (by rw [rts_len]; exact hi)]
  simp [rts]
theorem take_pieces (L : List UInt8) : ∀ k, (List.range k).flatMap (fun i => (L.drop (20 * i)).take 20) = L.take (20 * k)
  | 0 => by simp
  | k + 1 => by
    rw [List.range_succ, List.flatMap_append, take_pieces L k, show 20 * (k + 1) = 20 * k + 20 by omega, List.take_add]
    simp
theorem flatMap_same {α β : Type} {f g : α → List β} : ∀ {l : List α}, (∀ x ∈ l, f x = g x) → l.flatMap f = l.flatMap g
  | [], _ => rfl
  | x :: l, h => by
    rw [List.flatMap_cons, List.flatMap_cons, h x (by simp), flatMap_same (l := l) (fun y hy => h y (by simp [hy]))]
theorem list4 (L : List UInt8) (h : 4 ≤ L.length) : ∃ x0 x1 x2 x3 r, L = x0 :: x1 :: x2 :: x3 :: r := by
  match L, h with
  | x0 :: x1 :: x2 :: x3 :: r, _ => exact ⟨x0, x1, x2, x3, r, rfl⟩
theorem layN_cmd {n : Int} {x : UInt8} (h : isCmd n = true) (hx : n = (x.toNat : Int)) : Ent.layN n 1 = [x] := by
  rcases cmd_or h with rfl | rfl
  · have : x = 1 := UInt8.toNat_inj.1 (show x.toNat = 1 by omega)
    subst this; rfl
  · have : x = 2 := UInt8.toNat_inj.1 (show x.toNat = 2 by omega)
    subst this; rfl
theorem Good.head {b : ByteArray} {n p0 : Nat} {au : ByteArray} (g : Good b n p0 au) : hdL (hdX (bt b 0) (bt b 1) au) = b.data.toList.take p0 := by
  have hl : b.data.toList.length = b.size := by simp
  have hsz := g.size
  have hp : 4 ≤ p0 := by rcases g.auth with ⟨h, _⟩ | ⟨h, _⟩ <;> omega
  obtain ⟨x0, x1, x2, x3, r, hL⟩ := list4 b.data.toList (by omega)
  have e0 : bt b 0 = (x0.toNat : Int) := by unfold bt; rw [hL]; rfl
  have e1 : bt b 1 = (x1.toNat : Int) := by unfold bt; rw [hL]; rfl
  have e2 : bt b 2 = (x2.toNat : Int) := by unfold bt; rw [hL]; rfl
  have e3 : bt b 3 = (x3.toNat : Int) := by unfold bt; rw [hL]; rfl
  have y2 : x2 = 0 := UInt8.toNat_inj.1 (show x2.toNat = 0 by have := g.z2; omega)
  have y3 : x3 = 0 := UInt8.toNat_inj.1 (show x3.toNat = 0 by have := g.z3; omega)
  have hh : hdL (hdX (bt b 0) (bt b 1) au) = b.data.toList.take 4 ++ (Au.putA au).data.toList := by
    unfold hdL
    show Ent.layN (bt b 0) 1 ++ (Ent.layN (bt b 1) 1 ++ ([0, 0] ++ (Au.putA au).data.toList)) = _
    rw [layN_cmd g.c e0, layN_cmd g.v e1, hL, y2, y3]
    rfl
  rw [hh]
  rcases g.auth with ⟨rfl, rfl, _⟩ | ⟨rfl, rfl, hs⟩
  · have : (Au.putA ⟨#[]⟩).data.toList = [] := by unfold Au.putA; rw [if_neg (by decide)]; rfl
    rw [this, List.append_nil]
  · unfold says at hs
    simp only [Bool.and_eq_true] at hs
    rw [(Au.get_back hs.2).2, Ent.ext_list, show 24 = 4 + 20 from rfl, List.take_add]
theorem Good.line {b : ByteArray} {n p0 : Nat} {au : ByteArray} (g : Good b n p0 au) {i : Nat} (hi : i < n) : lineL (routeM (hdM b) (entP b (p0 + 20 * i))) = ((b.data.toList.drop p0).drop (20 * i)).take 20 := by
  unfold lineL
  rw [(g.ent hi).2.1]
  have hz : (b.extract (p0 + 20 * i) (p0 + 20 * i + 20)).size = 20 := by
    rw [ByteArray.size_extract]
    have := g.size
    omega
  unfold entP
  rw [(Ent.of_back _ hz).2, Ent.ext_list, List.drop_drop, show p0 + 20 * i + 20 - (p0 + 20 * i) = 20 by omega]
/-- Bytes that are a datagram are that of their routes. -/
theorem Good.back {b : ByteArray} {n p0 : Nat} {au : ByteArray} (g : Good b n p0 au) : enc (rts (hdM b) b p0 n) = (b, 0, 0) := by
  have hlen := rts_len (hdM b) b p0 n
  have hn1 := g.n1
  have f0 := rts_at (hdM b) b p0 n 0 (by omega)
  have hw : ∀ i, i < (rts (hdM b) b p0 n).length → ckW (rts (hdM b) b p0 n) i = 0 := by
    intro i hi
    rw [hlen] at hi
    rw [ckW_zero, rts_at _ _ _ _ _ hi]
    exact (g.ent hi).1
  have ht : ∀ i, i < (rts (hdM b) b p0 n).length → ckT (rts (hdM b) b p0 n) i = 0 := by
    intro i hi
    rw [hlen] at hi
    unfold ckT
    have hm : most (Es.at0 (rts (hdM b) b p0 n) 0) = most (hdM b) := by rw [f0]; rfl
    rw [if_neg (by rw [hm]; have := g.n2; omega), if_neg]
    rintro ⟨h0, htg⟩
    rw [f0, rts_at _ _ _ _ _ hi] at htg
    have a0 : (entP b (p0 + 20 * 0)).fam ≠ 0 := fun h => by have := (g.ent (i := 0) (by omega)).2.2 h; omega
    have ai : (entP b (p0 + 20 * i)).fam ≠ 0 := fun h => by have := (g.ent hi).2.2 h; omega
    have : tog (routeM (hdM b) (entP b (p0 + 20 * 0))) (routeM (hdM b) (entP b (p0 + 20 * i))) = true := by
      unfold tog
      show ((entP b (p0 + 20 * 0)).fam != 0 && ((entP b (p0 + 20 * i)).fam != 0 && ((hdM b).cmd == (hdM b).cmd && ((hdM b).ver == (hdM b).ver && (hdM b).auth.toList == (hdM b).auth.toList)))) = true
      simp [ai]
      simpa using a0
    rw [this] at htg
    cases htg
  rw [enc_ok hw (by omega) ht]
  congr 1
  apply ByteArray.ext
  apply Array.toList_inj.1
  show wrtL (rts (hdM b) b p0 n) = b.data.toList
  unfold wrtL
  rw [f0]
  have h1 : hdL (routeM (hdM b) (entP b (p0 + 20 * 0))) = b.data.toList.take p0 := by
    rw [← g.head, g.hd]
    rfl
  have h2 : (rts (hdM b) b p0 n).flatMap lineL = b.data.toList.drop p0 := by
    have : (rts (hdM b) b p0 n).flatMap lineL = (List.range n).flatMap (fun i => ((b.data.toList.drop p0).drop (20 * i)).take 20) := by
      unfold rts
      rw [List.flatMap_map]
      apply flatMap_same
      intro i hi
      exact g.line (List.mem_range.1 hi)
    rw [this, take_pieces, List.take_of_length_le]
    have hl : b.data.toList.length = b.size := by simp
    rw [List.length_drop, hl]
    have := g.size
    omega
  rw [h1, h2, List.take_append_drop]
end Go.Proofs.Ytfaobpmbiocafaa.Ma
