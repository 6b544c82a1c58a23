/-
  What Get answers, of any text; a struct laid in a new block; there and back, of numbers and bytes alone. Condition: texts no longer than a text may be.
-/
import Derived.Test.YthfdcmijciclkaaRy
namespace Go.Proofs.Ythfdcmijciclkaa.Rte
open Go.ChangeShapes Go.WideShapes Go.ChangeAt Go.RowKit
open Go.Proofs.Ythfdcmijciclkaa.Cur
open Go.Proofs.Ythfdcmijciclkaa.Oct
open Go.Proofs.Ythfdcmijciclkaa.Bk
set_option linter.unusedVariables false
set_option maxRecDepth 100000
set_option maxRecDepth 100000

/-- A new block, of a struct's zero, in which a struct is laid at once. -/
theorem laid_new (t : TypeId) (w : World) (z cs : Array Value) : Bk t ((w.alloc (.cells z t)).setRow w.heap.size cs) w.heap.size cs := (Bk.new t w z).put cs
theorem laid_old {t : TypeId} {w : World} {b : Nat} {cs : Array Value} (h : Bk t w b cs) (t' : TypeId) (z cs' : Array Value) : Bk t ((w.alloc (.cells z t')).setRow w.heap.size cs') b cs := (h.old _).row (by have := h.lt; omega) _
theorem laid_below {a w : World} {B : Nat} (h : Below B a w) (hB : B ≤ w.heap.size) (t : TypeId) (z cs : Array Value) : Below B a ((w.alloc (.cells z t)).setRow w.heap.size cs) := below_setRow (h.alloc hB _) hB cs

/-- What Get answers. -/
def getE (s : ByteArray) : E := if s.size = 20 then E.of s else E.zero
def getB (s : ByteArray) : Bool := decide (s.size = 20)
theorem get_any (s : ByteArray) (w : World) (hs : s.size ≤ maxLen) :
    Calls Try.prog 18 #[.string s] w fun e w' => e = .returned (.tuple #[.agg (getE s).cells, .bool (getB s)]) ∧ Below w.heap.size w w' := by
  by_cases h : s.size = 20
  · have := get_yes s w h
    unfold getE getB
    rw [if_pos h, decide_eq_true h]; exact this
  · have := get_no s w hs h
    unfold getE getB
    rw [if_neg h, decide_eq_false h]; exact this
theorem rget_any (s : ByteArray) (w : World) (hs : s.size ≤ maxLen) :
    Calls Try.prog 21 #[.string s] w fun e w' => e = .returned (.tuple #[.agg (getE s).cells, .bool (getB s)]) ∧ Below w.heap.size w w' := by
  by_cases h : s.size = 20
  · have := rget_yes s w h
    unfold getE getB
    rw [if_pos h, decide_eq_true h]; exact this
  · have := rget_no s w hs h
    unfold getE getB
    rw [if_neg h, decide_eq_false h]; exact this
theorem numL_from (l : List UInt8) : ∀ n : Nat, l.foldl (fun n c => n * 256 + c.toNat) n = n * 256 ^ l.length + numL l := by
  induction l with
  | nil => intro n; simp [numL]
  | cons c l ih =>
    intro n
    unfold numL
    rw [List.foldl_cons, List.foldl_cons, ih, ih (0 * 256 + c.toNat), List.length_cons, Nat.pow_succ, Nat.add_mul, Nat.zero_mul, Nat.zero_add, Nat.mul_assoc, Nat.mul_comm 256]
    omega

theorem numL_cons (c : UInt8) (l : List UInt8) : numL (c :: l) = c.toNat * 256 ^ l.length + numL l := by
  unfold numL
  rw [List.foldl_cons, numL_from, Nat.zero_mul, Nat.zero_add]
  rfl

theorem numL_be (n : Nat) : ∀ k, numL (be n k) = n % pw k := by
  intro k
  induction k with
  | zero => rw [pw_zero, Nat.mod_one]; rfl
  | succ k ih =>
    rw [be, numL_cons, ih, be_length, pw_succ, Nat.mod_mul]
    show _ * pw k + _ = _
    have : (UInt8.ofNat (n / pw k)).toNat = n / pw k % 256 := by simp
    rw [this, Nat.mul_comm, Nat.add_comm]

theorem numL_inj : ∀ {a b : List UInt8}, a.length = b.length → numL a = numL b → a = b := by
  intro a
  induction a with
  | nil => intro b h _; cases b with
    | nil => rfl
    | cons _ _ => simp at h
  | cons c a ih =>
    intro b h e
    cases b with
    | nil => simp at h
    | cons d b =>
      have hl : a.length = b.length := by simpa using h
      rw [numL_cons, numL_cons, hl] at e
      have h1 := numL_lt a
      have h2 := numL_lt b
      rw [hl] at h1
      have hp : 0 < 256 ^ b.length := Nat.pow_pos (by decide)
      have hq := congrArg (· / 256 ^ b.length) e
      simp only [Nat.mul_comm _ (256 ^ b.length), Nat.mul_add_div hp, Nat.div_eq_of_lt h1, Nat.div_eq_of_lt h2, Nat.add_zero] at hq
      have hc : c = d := UInt8.toNat_inj.1 hq
      subst hc
      rw [ih hl (by omega)]

theorem be_numL (l : List UInt8) (k : Nat) (h : l.length = k) : be (numL l) k = l := by
  refine numL_inj (by rw [be_length, h]) ?_
  rw [numL_be, Nat.mod_eq_of_lt]
  have := numL_lt l
  rw [h] at this
  exact this

theorem layN_numL (l : List UInt8) (k : Nat) (h : l.length = k) (h1 : 1 ≤ k) (h7 : k ≤ 7) : fitsB (numL l) k = true ∧ layN (numL l) k = l := by
  have hf : fitsB (numL l) k = true := by
    have := numL_lt l
    rw [h] at this
    rw [fitsB_iff]
    refine ⟨by omega, by omega, by omega, ?_⟩
    simpa [pw] using (Int.ofNat_lt.2 this)
  refine ⟨hf, ?_⟩
  unfold layN
  rw [if_pos hf, Int.toNat_natCast, be_numL l k h]

theorem numL_layN (v : Int) (k : Nat) (hf : fitsB v k = true) : ((numL (layN v k) : Nat) : Int) = v ∧ (layN v k).length = k := by
  obtain ⟨_, _, h0, h1⟩ := (fitsB_iff v k).1 hf
  unfold layN
  rw [if_pos hf, numL_be, be_length]
  obtain ⟨n, rfl⟩ := Int.eq_ofNat_of_zero_le h0
  have : n < pw k := by simpa using h1
  rw [Int.toNat_natCast, Nat.mod_eq_of_lt this]
  exact ⟨rfl, rfl⟩

theorem text_eq {a b : ByteArray} (h : a.data.toList = b.data.toList) : a = b := ByteArray.ext (Array.toList_inj.1 h)

theorem parts20 : ∀ l : List UInt8, l.length = 20 → l.take 16 ++ ((l.drop 16).take 2 ++ ((l.drop 18).take 1 ++ (l.drop 19).take 1)) = l := by
  intro l h
  match l, h with
  | [a0, a1, a2, a3, a4, a5, a6, a7, a8, a9, a10, a11, a12, a13, a14, a15, a16, a17, a18, a19], _ => rfl
theorem parts_of (x1 x2 x3 x4 : List UInt8) (h1 : x1.length = 16) (h2 : x2.length = 2) (h3 : x3.length = 1) (h4 : x4.length = 1) :
    (x1 ++ (x2 ++ (x3 ++ x4))).length = 20 ∧ (x1 ++ (x2 ++ (x3 ++ x4))).take 16 = x1 ∧ ((x1 ++ (x2 ++ (x3 ++ x4))).drop 16).take 2 = x2 ∧
    ((x1 ++ (x2 ++ (x3 ++ x4))).drop 18).take 1 = x3 ∧ ((x1 ++ (x2 ++ (x3 ++ x4))).drop 19).take 1 = x4 := by
  match x1, h1, x2, h2, x3, h3, x4, h4 with
  | [a0, a1, a2, a3, a4, a5, a6, a7, a8, a9, a10, a11, a12, a13, a14, a15], _, [b0, b1], _, [c0], _, [d0], _ => exact ⟨rfl, rfl, rfl, rfl, rfl⟩
theorem put_list (e : E) (h : okE e = true) : (putE e).data.toList = e.addr.data.toList ++ (layN e.tag 2 ++ (layN e.fam 1 ++ layN e.met 1)) := by
  rw [put_yes_eq e h]
  simp [ByteArray.data_append]
theorem size_list (a : ByteArray) : a.data.toList.length = a.size := by simp
theorem ok_parts (e : E) (h : okE e = true) : e.addr.size = 16 ∧ e.mask.size = 0 ∧ e.next.size = 0 ∧ fitsB e.tag 2 = true ∧ fitsB e.fam 1 = true ∧ fitsB e.met 1 = true := by
  unfold okE at h
  simp only [Bool.and_eq_true, decide_eq_true_eq] at h
  obtain ⟨⟨⟨⟨⟨h1, h2⟩, h3⟩, h4⟩, h5⟩, h6⟩ := h
  exact ⟨h1, h2, h3, h4, h5, h6⟩
theorem ok_of {e : E} (h1 : e.addr.size = 16) (h2 : e.mask.size = 0) (h3 : e.next.size = 0) (h4 : fitsB e.tag 2 = true) (h5 : fitsB e.fam 1 = true) (h6 : fitsB e.met 1 = true) : okE e = true := by
  unfold okE
  rw [decide_eq_true h1, decide_eq_true h2, decide_eq_true h3, h4, h5, h6]
  rfl
theorem nil_size {a : ByteArray} (h : a.size = 0) : (⟨#[]⟩ : ByteArray) = a := text_eq (List.length_eq_zero_iff.1 (by rw [size_list]; exact h)).symm

/-- Twenty bytes are those of their entry. -/
theorem of_back (s : ByteArray) (h : s.size = 20) : okE (E.of s) = true ∧ putE (E.of s) = s := by
  have hl : s.data.toList.length = 20 := by simpa using h
  obtain ⟨f1, l1⟩ := layN_numL ((s.data.toList.drop 16).take 2) 2 (by simp; omega) (by omega) (by omega)
  obtain ⟨f2, l2⟩ := layN_numL ((s.data.toList.drop 18).take 1) 1 (by simp; omega) (by omega) (by omega)
  obtain ⟨f3, l3⟩ := layN_numL ((s.data.toList.drop 19).take 1) 1 (by simp; omega) (by omega) (by omega)
  have z : (s.extract 0 16).size = 16 := by simp; omega
  have hk : okE (E.of s) = true := ok_of z rfl rfl f1 f2 f3
  refine ⟨hk, text_eq ?_⟩
  rw [put_list _ hk]
  show (s.extract 0 16).data.toList ++ (layN (numL ((s.data.toList.drop 16).take 2) : Nat) 2 ++ (layN (numL ((s.data.toList.drop 18).take 1) : Nat) 1 ++ layN (numL ((s.data.toList.drop 19).take 1) : Nat) 1)) = _
  rw [l1, l2, l3, ext_list]
  exact parts20 _ hl

/-- An entry that has bytes is that of these. -/
theorem put_back (e : E) (h : okE e = true) : (putE e).size = 20 ∧ E.of (putE e) = e := by
  obtain ⟨z1, z2, z3, f1, f2, f3⟩ := ok_parts e h
  obtain ⟨n1, k1⟩ := numL_layN e.tag 2 f1
  obtain ⟨n2, k2⟩ := numL_layN e.fam 1 f2
  obtain ⟨n3, k3⟩ := numL_layN e.met 1 f3
  obtain ⟨q0, q1, q2, q3, q4⟩ := parts_of e.addr.data.toList (layN e.tag 2) (layN e.fam 1) (layN e.met 1) (by rw [size_list]; exact z1) k1 k2 k3
  have hd := put_list e h
  refine ⟨by rw [← size_list, hd]; exact q0, ?_⟩
  unfold E.of
  have x1 : (putE e).extract 0 16 = e.addr := text_eq (by rw [ext_list, hd]; exact q1)
  rw [x1, hd, q2, q3, q4, n1, n2, n3, nil_size z2]
  obtain ⟨fam, tag, addr, mask, next, met⟩ := e
  have : next = mask := (nil_size z3).symm.trans (nil_size z2)
  rw [this]
theorem put_none (e : E) (h : okE e = false) : putE e = ⟨#[]⟩ := put_no_eq e h
theorem put_len (e : E) : (putE e).size ≤ maxLen := by
  cases h : okE e
  · rw [put_none e h]; decide
  · rw [(put_back e h).1]; decide
theorem get_ok (s : ByteArray) (hs : s.size ≤ maxLen) : OkE (getE s) := by
  unfold maxLen at hs
  unfold getE
  split
  · exact ⟨by show (s.extract 0 16).size ≤ maxLen; unfold maxLen; simp; omega, by show (0 : Nat) ≤ maxLen; omega, by show (0 : Nat) ≤ maxLen; omega⟩
  · exact ⟨by decide, by decide, by decide⟩
end Go.Proofs.Ythfdcmijciclkaa.Rte
