/-
  There and back, of numbers and bytes alone: an entry's bytes and the entry of twenty bytes. No conditions.
-/
import Derived.Test.YtfaobpmbiocafaaEn
namespace Go.Proofs.Ytfaobpmbiocafaa.Ent
open Go.ChangeShapes Go.WideShapes Go.ChangeAt Go.RowKit
open Go.Proofs.Ytfaobpmbiocafaa.Cur
open Go.Proofs.Ytfaobpmbiocafaa.Oct
open Go.Proofs.Ytfaobpmbiocafaa.Bk
set_option linter.unusedVariables false
set_option maxRecDepth 100000

theorem numL_from (l : List UInt8) : ∀ n : Nat, l.foldl (fun n c => n * 256 + c.toNat) n = n * 256 ^ l.length + numL l := by
  induction l with
  | nil => intro n; simp [numL]
  | cons c l ih =>
    intro n
    unfold numL
    rw [List.foldl_cons, List.foldl_cons, ih, ih (0 * 256 + c.toNat), List.length_cons, Nat.pow_succ, Nat.add_mul, Nat.zero_mul, Nat.zero_add, Nat.mul_assoc, Nat.mul_comm 256]
    omega
theorem numL_cons (c : UInt8) (l : List UInt8) : numL (c :: l) = c.toNat * 256 ^ l.length + numL l := by
  unfold numL
  rw [List.foldl_cons, numL_from, Nat.zero_mul, Nat.zero_add]
  rfl
theorem numL_be (n : Nat) : ∀ k, numL (be n k) = n % pw k := by
  intro k
  induction k with
  | zero => rw [pw_zero, Nat.mod_one]; rfl
  | succ k ih =>
    rw [be, numL_cons, ih, be_length, pw_succ, Nat.mod_mul]
    show _ * pw k + _ = _
    have : (UInt8.ofNat (n / pw k)).toNat = n / pw k % 256 := by simp
    rw [this, Nat.mul_comm, Nat.add_comm]
theorem numL_inj : ∀ {a b : List UInt8}, a.length = b.length → numL a = numL b → a = b := by
  intro a
  induction a with
  | nil => intro b h _; cases b with
    | nil => rfl
    | cons _ _ => simp at h
  | cons c a ih =>
    intro b h e
    cases b with
    | nil => simp at h
    | cons d b =>
      have hl : a.length = b.length := by simpa using h
      rw [numL_cons, numL_cons, hl] at e
      have h1 := numL_lt a
      have h2 := numL_lt b
      rw [hl] at h1
      have hp : 0 < 256 ^ b.length := Nat.pow_pos (by decide)
      have hq := congrArg (· / 256 ^ b.length) e
      simp only [Nat.mul_comm _ (256 ^ b.length), Nat.mul_add_div hp, Nat.div_eq_of_lt h1, Nat.div_eq_of_lt h2, Nat.add_zero] at hq
      have hc : c = d := UInt8.toNat_inj.1 hq
      subst hc
      rw [ih hl (by omega)]
theorem be_numL (l : List UInt8) (k : Nat) (h : l.length = k) : be (numL l) k = l := by
  refine numL_inj (by rw [be_length, h]) ?_
  rw [numL_be, Nat.mod_eq_of_lt]
  have := numL_lt l
  rw [h] at this
  exact this
theorem layN_numL (l : List UInt8) (k : Nat) (h : l.length = k) (h1 : 1 ≤ k) (h7 : k ≤ 7) : fitsB (numL l) k = true ∧ layN (numL l) k = l := by
  have hf : fitsB (numL l) k = true := by
    have := numL_lt l
    rw [h] at this
    rw [fitsB_iff]
    refine ⟨by omega, by omega, by omega, ?_⟩
    simpa [pw] using (Int.ofNat_lt.2 this)
  refine ⟨hf, ?_⟩
  unfold layN
  rw [if_pos hf, Int.toNat_natCast, be_numL l k h]
theorem numL_layN (v : Int) (k : Nat) (hf : fitsB v k = true) : ((numL (layN v k) : Nat) : Int) = v ∧ (layN v k).length = k := by
  obtain ⟨_, _, h0, h1⟩ := (fitsB_iff v k).1 hf
  unfold layN
  rw [if_pos hf, numL_be, be_length]
  obtain ⟨n, rfl⟩ := Int.eq_ofNat_of_zero_le h0
  have : n < pw k := by simpa using h1
  rw [Int.toNat_natCast, Nat.mod_eq_of_lt this]
  exact ⟨rfl, rfl⟩
theorem parts20 : ∀ l : List UInt8, l.length = 20 → l.take 2 ++ ((l.drop 2).take 2 ++ ((l.drop 4).take 4 ++ ((l.drop 8).take 4 ++ ((l.drop 12).take 4 ++ (l.drop 16).take 4)))) = l := by
  intro l h
  match l, h with
  | [a0, a1, a2, a3, a4, a5, a6, a7, a8, a9, a10, a11, a12, a13, a14, a15, a16, a17, a18, a19], _ => rfl
theorem parts_of (x1 x2 x3 x4 x5 x6 : List UInt8) (h1 : x1.length = 2) (h2 : x2.length = 2) (h3 : x3.length = 4) (h4 : x4.length = 4) (h5 : x5.length = 4) (h6 : x6.length = 4) :
    (x1 ++ (x2 ++ (x3 ++ (x4 ++ (x5 ++ x6))))).length = 20 ∧ (x1 ++ (x2 ++ (x3 ++ (x4 ++ (x5 ++ x6))))).take 2 = x1 ∧ ((x1 ++ (x2 ++ (x3 ++ (x4 ++ (x5 ++ x6))))).drop 2).take 2 = x2 ∧
    ((x1 ++ (x2 ++ (x3 ++ (x4 ++ (x5 ++ x6))))).drop 4).take 4 = x3 ∧ ((x1 ++ (x2 ++ (x3 ++ (x4 ++ (x5 ++ x6))))).drop 8).take 4 = x4 ∧ ((x1 ++ (x2 ++ (x3 ++ (x4 ++ (x5 ++ x6))))).drop 12).take 4 = x5 ∧ ((x1 ++ (x2 ++ (x3 ++ (x4 ++ (x5 ++ x6))))).drop 16).take 4 = x6 := by
  match x1, h1, x2, h2, x3, h3, x4, h4, x5, h5, x6, h6 with
  | [a0, a1], _, [b0, b1], _, [c0, c1, c2, c3], _, [d0, d1, d2, d3], _, [e0, e1, e2, e3], _, [f0, f1, f2, f3], _ => exact ⟨rfl, rfl, rfl, rfl, rfl, rfl, rfl⟩
theorem text_eq {a b : ByteArray} (h : a.data.toList = b.data.toList) : a = b := ByteArray.ext (Array.toList_inj.1 h)

/-- Twenty bytes are those of their entry. -/
theorem of_back (s : ByteArray) (h : s.size = 20) : okE (E.of s) = true ∧ putE (E.of s) = s := by
  have hl : s.data.toList.length = 20 := by simpa using h
  obtain ⟨f1, l1⟩ := layN_numL (s.data.toList.take 2) 2 (by simp; omega) (by omega) (by omega)
  obtain ⟨f2, l2⟩ := layN_numL ((s.data.toList.drop 2).take 2) 2 (by simp; omega) (by omega) (by omega)
  obtain ⟨f3, l3⟩ := layN_numL ((s.data.toList.drop 16).take 4) 4 (by simp; omega) (by omega) (by omega)
  have z3 : (s.extract 4 8).size = 4 := by simp; omega
  have z4 : (s.extract 8 12).size = 4 := by simp; omega
  have z5 : (s.extract 12 16).size = 4 := by simp; omega
  have hk : okE (E.of s) = true := by
    unfold okE E.of
    simp only [z3, z4, z5, decide_true, Bool.and_true, Bool.and_eq_true]
    exact ⟨⟨f1, f2⟩, f3⟩
  refine ⟨hk, ?_⟩
  unfold putE
  rw [if_pos hk]
  refine text_eq ?_
  show laidE (E.of s) = _
  unfold laidE E.of layT
  simp only [l1, l2, l3, z3, z4, z5, if_true, ext_list]
  exact parts20 _ hl

/-- An entry that has bytes is that of these. -/
theorem put_back (e : E) (h : okE e = true) : (putE e).size = 20 ∧ E.of (putE e) = e := by
  have hp : putE e = ⟨(laidE e).toArray⟩ := by unfold putE; rw [if_pos h]
  unfold okE at h
  simp only [Bool.and_eq_true, decide_eq_true_eq] at h
  obtain ⟨⟨⟨⟨⟨f1, f2⟩, z3⟩, z4⟩, z5⟩, f6⟩ := h
  obtain ⟨n1, k1⟩ := numL_layN e.fam 2 f1
  obtain ⟨n2, k2⟩ := numL_layN e.tag 2 f2
  obtain ⟨n6, k6⟩ := numL_layN e.met 4 f6
  have t3 : layT e.addr = e.addr.data.toList := by unfold layT; rw [if_pos z3]
  have t4 : layT e.mask = e.mask.data.toList := by unfold layT; rw [if_pos z4]
  have t5 : layT e.next = e.next.data.toList := by unfold layT; rw [if_pos z5]
  obtain ⟨q0, q1, q2, q3, q4, q5, q6⟩ := parts_of (layN e.fam 2) (layN e.tag 2) (layT e.addr) (layT e.mask) (layT e.next) (layN e.met 4) k1 k2 (by rw [t3]; simpa using z3) (by rw [t4]; simpa using z4) (by rw [t5]; simpa using z5) k6
  have hd : (putE e).data.toList = laidE e := by rw [hp]
  refine ⟨?_, ?_⟩
  · rw [hp]; show (laidE e).toArray.size = 20; rw [List.size_toArray]; exact q0
  · unfold E.of
    rw [hd]
    have x3 : (putE e).extract 4 8 = e.addr := text_eq (by rw [ext_list, hd, ← t3]; exact q3)
    have x4 : (putE e).extract 8 12 = e.mask := text_eq (by rw [ext_list, hd, ← t4]; exact q4)
    have x5 : (putE e).extract 12 16 = e.next := text_eq (by rw [ext_list, hd, ← t5]; exact q5)
    rw [x3, x4, x5]
    unfold laidE
    rw [q1, q2, q6, n1, n2, n6]
theorem put_none (e : E) (h : okE e = false) : putE e = ⟨#[]⟩ := by unfold putE; rw [h]; rfl
end Go.Proofs.Ytfaobpmbiocafaa.Ent
