/-
  What the bytes of extensions are, which extensions bytes are, and where they break off: definitions on values alone, and facts on them. No conditions.
-/
import Derived.Test.YtlelfapmleopaaaCnt
namespace Go.Proofs.Ytlelfapmleopaaa.Xv
open Go.ChangeShapes Go.WideShapes Go.ChangeAt Go.RowKit
open Go.Proofs.Ytlelfapmleopaaa.Ms
open Go.Proofs.Ytlelfapmleopaaa.Cnt
set_option linter.unusedVariables false
set_option maxRecDepth 100000
set_option maxRecDepth 100000

/-- The i-th byte. -/
def bt (b : ByteArray) (i : Nat) : Int := ((b.data.toList.getD i 0).toNat : Int)
theorem bt_eq (b : ByteArray) (i : Nat) (h : i < b.size) : (b[i].toNat : Int) = bt b i := by
  unfold bt
  rw [List.getD_eq_getElem?_getD, List.getElem?_eq_getElem (by simpa using h)]
  rfl
theorem bt_nn (b : ByteArray) (i : Nat) : 0 ≤ bt b i := Int.natCast_nonneg _
theorem bt_lt (b : ByteArray) (i : Nat) : bt b i < 256 := by
  unfold bt
  have := UInt8.toNat_lt (b.data.toList.getD i 0)
  omega

/-- An extension's bytes. -/
def enc1 (x : El) : List UInt8 := UInt8.ofNat x.2.toNat :: UInt8.ofNat x.1.size :: x.1.data.toList
/-- The bytes of extensions. -/
def encX (l : List El) : List UInt8 := l.flatMap enc1
def okX (l : List El) : Bool := mayB l 0 255
def ok1 (x : El) : Prop := 0 ≤ x.2 ∧ x.2 ≤ 255 ∧ x.1.size ≤ 255
theorem okX_nil : okX [] = true := rfl
theorem okX_cons (x : El) (l : List El) : okX (x :: l) = true ↔ ok1 x ∧ okX l = true := by
  unfold okX mayB ok1
  simp
theorem okX_append (a b : List El) : okX (a ++ b) = true ↔ okX a = true ∧ okX b = true := by
  unfold okX mayB
  rw [List.all_append, Bool.and_eq_true]
theorem okX_mem {l : List El} (h : okX l = true) : ∀ x ∈ l, ok1 x := by
  unfold okX mayB at h
  rw [List.all_eq_true] at h
  intro x hx
  have := h x hx
  simpa [ok1] using this
theorem okX_take {l : List El} (h : okX l = true) (k : Nat) : okX (l.take k) = true := by
  rw [← List.take_append_drop k l, okX_append] at h
  exact h.1
theorem encX_nil : encX [] = [] := rfl
theorem encX_cons (x : El) (l : List El) : encX (x :: l) = enc1 x ++ encX l := by simp [encX]
theorem encX_append (a b : List El) : encX (a ++ b) = encX a ++ encX b := by simp [encX]
theorem encX_one (x : El) : encX [x] = enc1 x := by simp [encX]
theorem enc1_len (x : El) : (enc1 x).length = 2 + x.1.size := by simp [enc1]; omega
theorem encX_len (l : List El) : (encX l).length = bytesN l := by
  induction l with
  | nil => rfl
  | cons x l ih => rw [encX_cons, List.length_append, enc1_len, ih]; simp [bytesN]
theorem bytesN_cons (x : El) (l : List El) : bytesN (x :: l) = 2 + x.1.size + bytesN l := by simp [bytesN]
theorem bytesN_append (a b : List El) : bytesN (a ++ b) = bytesN a + bytesN b := by simp [bytesN]
theorem len_le (l : List El) : 2 * l.length ≤ (encX l).length := by
  rw [encX_len]
  induction l with
  | nil => exact Nat.le_refl _
  | cons x l ih => rw [bytesN_cons, List.length_cons]; omega
theorem bytes_most {l : List El} (h : okX l = true) : bytesN l ≤ 257 * l.length := by
  induction l with
  | nil => exact Nat.le_refl _
  | cons x l ih =>
    rw [okX_cons] at h
    have := ih h.2
    have := h.1.2.2
    rw [bytesN_cons, List.length_cons]; omega

/-- The extension with which bytes begin, and what is behind it. -/
def cut1 : List UInt8 → Option (El × List UInt8)
  | t :: n :: r => if n.toNat ≤ r.length then some ((⟨(r.take n.toNat).toArray⟩, (t.toNat : Int)), r.drop n.toNat) else none
  | _ => none
theorem cut1_two (t n : UInt8) (r : List UInt8) : cut1 (t :: n :: r) = if n.toNat ≤ r.length then some ((⟨(r.take n.toNat).toArray⟩, (t.toNat : Int)), r.drop n.toNat) else none := rfl
theorem cut1_some {r r' : List UInt8} {x : El} (h : cut1 r = some (x, r')) : ok1 x ∧ r = enc1 x ++ r' := by
  match r, h with
  | t :: n :: r, h =>
    rw [cut1_two] at h
    by_cases hn : n.toNat ≤ r.length
    · rw [if_pos hn] at h
      simp only [Option.some.injEq, Prod.mk.injEq] at h
      obtain ⟨rfl, rfl⟩ := h
      have hs : (⟨(r.take n.toNat).toArray⟩ : ByteArray).size = n.toNat := by show (r.take n.toNat).toArray.size = _; rw [List.size_toArray, List.length_take]; omega
      have ht := UInt8.toNat_lt t
      have hn' := UInt8.toNat_lt n
      refine ⟨⟨by simp only []; omega, by simp only []; omega, by simp only []; rw [hs]; omega⟩, ?_⟩
      unfold enc1
      simp only [hs]
      simp
    · rw [if_neg hn] at h; cases h
theorem cut1_enc {x : El} (h : ok1 x) (r : List UInt8) : cut1 (enc1 x ++ r) = some (x, r) := by
  obtain ⟨⟨d⟩, t⟩ := x
  obtain ⟨h0, h1, h2⟩ := h
  change d.size ≤ 255 at h2
  simp only [] at h0 h1
  have e1 : (UInt8.ofNat t.toNat).toNat = t.toNat := by rw [UInt8.toNat_ofNat']; omega
  have e2 : (UInt8.ofNat d.size).toNat = d.size := by rw [UInt8.toNat_ofNat']; omega
  show cut1 (UInt8.ofNat t.toNat :: UInt8.ofNat d.size :: (d.toList ++ r)) = _
  rw [cut1_two, e2, if_pos (by simp), e1]
  have : ((t.toNat : Nat) : Int) = t := by omega
  rw [this, List.take_left' (by simp), List.drop_left' (by simp)]
theorem cut1_nil : cut1 [] = none := rfl
/-- Bytes that an extension's are cut off of begin with none. -/
theorem cut1_part {x : El} (h : ok1 x) (n : Nat) (hn : n < (enc1 x).length) : cut1 ((enc1 x).take n) = none := by
  obtain ⟨d, t⟩ := x
  rw [enc1_len] at hn
  obtain ⟨h0, h1, h2⟩ := h
  simp only [] at h0 h1 h2 hn
  unfold enc1
  match n, hn with
  | 0, _ => rfl
  | 1, _ => rfl
  | n + 2, hn =>
    simp only [List.take_succ_cons]
    rw [cut1_two]
    have e2 : (UInt8.ofNat d.size).toNat = d.size := by rw [UInt8.toNat_ofNat']; omega
    rw [e2, if_neg]
    simp
    omega

/-- The extensions cut off of bytes, one behind the other (n at most), and what is left. -/
def run : Nat → List UInt8 → List El × List UInt8
  | 0, r => ([], r)
  | n + 1, r => match cut1 r with
    | none => ([], r)
    | some (x, r') => (x :: (run n r').1, (run n r').2)
theorem run_enc {r : List UInt8} (hr : cut1 r = none) : ∀ (l : List El) (n : Nat), okX l = true → l.length ≤ n → run n (encX l ++ r) = (l, r)
  | [], 0, _, _ => rfl
  | [], n + 1, _, _ => by rw [encX_nil, List.nil_append]; unfold run; rw [hr]
  | x :: l, 0, _, h => absurd h (by simp)
  | x :: l, n + 1, ho, h => by
    rw [okX_cons] at ho
    rw [encX_cons, List.append_assoc]
    unfold run
    rw [cut1_enc ho.1]
    simp only []
    rw [run_enc hr l n ho.2 (by simpa using h)]
theorem all_bytes : ∀ (n : Nat) (s : List UInt8), s.length ≤ n → ∃ l r, okX l = true ∧ s = encX l ++ r ∧ cut1 r = none
  | 0, s, h => ⟨[], s, rfl, rfl, by rw [List.length_eq_zero_iff.1 (Nat.le_zero.1 h)]; rfl⟩
  | n + 1, s, h => by
    cases hc : cut1 s with
    | none => exact ⟨[], s, rfl, rfl, hc⟩
    | some p =>
      obtain ⟨x, r'⟩ := p
      obtain ⟨ho, he⟩ := cut1_some hc
      have hl : r'.length ≤ n := by
        have := congrArg List.length he
        rw [List.length_append, enc1_len] at this
        omega
      obtain ⟨l, r, h1, h2, h3⟩ := all_bytes n r' hl
      exact ⟨x :: l, r, (okX_cons _ _).2 ⟨ho, h1⟩, by rw [he, encX_cons, h2, List.append_assoc], h3⟩

/-- The extensions whose bytes these are, 0 and no error; or none, the place of the first that isn't all there, and the error. -/
def outX (s : ByteArray) : List El × Int × Int :=
  if (run s.size s.data.toList).2 = [] then ((run s.size s.data.toList).1, 0, 0) else ([], ((s.size - (run s.size s.data.toList).2.length : Nat) : Int), 2)
theorem size_of {s : ByteArray} {t : List UInt8} (h : s.data.toList = t) : s.size = t.length := by rw [← h]; simp
theorem run_of {s : ByteArray} {l : List El} {r : List UInt8} (ho : okX l = true) (hs : s.data.toList = encX l ++ r) (hr : cut1 r = none) : run s.size s.data.toList = (l, r) := by
  rw [size_of hs, hs]
  refine run_enc hr l _ ho ?_
  have := len_le l
  rw [List.length_append]
  omega
theorem out_yes {s : ByteArray} {l : List El} (ho : okX l = true) (hs : s.data.toList = encX l) : outX s = (l, 0, 0) := by
  unfold outX
  rw [run_of (r := []) ho (by rw [hs, List.append_nil]) cut1_nil, if_pos rfl]
theorem out_no {s : ByteArray} {l : List El} {r : List UInt8} (ho : okX l = true) (hs : s.data.toList = encX l ++ r) (hr : cut1 r = none) (hn : r ≠ []) : outX s = ([], ((encX l).length : Int), 2) := by
  unfold outX
  rw [run_of ho hs hr, if_neg hn, size_of hs, List.length_append, Nat.add_sub_cancel]
theorem out_cases (s : ByteArray) : (∃ l, okX l = true ∧ s.data.toList = encX l ∧ outX s = (l, 0, 0)) ∨ ∃ l r, okX l = true ∧ s.data.toList = encX l ++ r ∧ cut1 r = none ∧ r ≠ [] ∧ outX s = ([], ((encX l).length : Int), 2) := by
  obtain ⟨l, r, h1, h2, h3⟩ := all_bytes _ s.data.toList (Nat.le_refl _)
  by_cases hr : r = []
  · subst hr
    rw [List.append_nil] at h2
    exact .inl ⟨l, h1, h2, out_yes h1 h2⟩
  · exact .inr ⟨l, r, h1, h2, h3, hr, out_no h1 h2 h3 hr⟩
theorem out_len (s : ByteArray) : (outX s).1.length ≤ s.size := by
  rcases out_cases s with ⟨l, _, h, e⟩ | ⟨l, r, _, _, _, _, e⟩
  · rw [e, size_of h]
    have := len_le l
    simp only []
    omega
  · rw [e]; exact Nat.zero_le _

theorem bt_at {s : ByteArray} {a b : List UInt8} {t : UInt8} (h : s.data.toList = a ++ t :: b) : bt s a.length = (t.toNat : Int) := by
  unfold bt
  rw [h, List.getD_eq_getElem?_getD, List.getElem?_append_right (Nat.le_refl _), Nat.sub_self]
  rfl
theorem cutout {s : ByteArray} {a b c : List UInt8} {i j : Nat} (h : s.data.toList = a ++ (b ++ c)) (hi : a.length = i) (hj : i + b.length = j) : s.extract i j = ⟨b.toArray⟩ := by
  subst hi hj
  apply ByteArray.ext
  apply Array.ext'
  rw [ByteArray.data_extract, Array.toList_extract, h]
  simp
/-- What the text says at the place where an extension begins. -/
theorem at_some {s : ByteArray} {a r r' : List UInt8} {x : El} {p : Nat} (h : s.data.toList = a ++ r) (hp : a.length = p) (hc : cut1 r = some (x, r')) :
    s.size = p + 2 + x.1.size + r'.length ∧ bt s p = x.2 ∧ bt s (p + 1) = (x.1.size : Int) ∧ s.extract (p + 2) (p + 2 + x.1.size) = x.1 ∧ s.extract (p + 2 + x.1.size) s.size = ⟨r'.toArray⟩ ∧ ok1 x := by
  subst hp
  obtain ⟨ho, he⟩ := cut1_some hc
  subst he
  have hz : s.size = a.length + 2 + x.1.size + r'.length := by
    rw [size_of h, List.length_append, List.length_append, enc1_len]; omega
  obtain ⟨⟨d⟩, t⟩ := x
  have hok := ho
  obtain ⟨h0, h1, h2⟩ := ho
  change d.size ≤ 255 at h2
  simp only [] at h0 h1
  have e1 : (UInt8.ofNat t.toNat).toNat = t.toNat := by rw [UInt8.toNat_ofNat']; omega
  have e2 : (UInt8.ofNat d.size).toNat = d.size := by rw [UInt8.toNat_ofNat']; omega
  change s.data.toList = a ++ (UInt8.ofNat t.toNat :: UInt8.ofNat d.size :: (d.toList ++ r')) at h
  refine ⟨hz, ?_, ?_, ?_, ?_, hok⟩
  · rw [bt_at h, e1]; show ((t.toNat : Nat) : Int) = t; omega
  · have h' : s.data.toList = (a ++ [UInt8.ofNat t.toNat]) ++ UInt8.ofNat d.size :: (d.toList ++ r') := by rw [h]; simp
    have := bt_at h'
    rw [List.length_append] at this
    rw [show a.length + 1 = a.length + [UInt8.ofNat t.toNat].length from rfl, this, e2]
    rfl
  · have h' : s.data.toList = (a ++ [UInt8.ofNat t.toNat, UInt8.ofNat d.size]) ++ (d.toList ++ r') := by rw [h]; simp
    exact cutout h' (by simp) (by simp; rfl)
  · have h' : s.data.toList = (a ++ [UInt8.ofNat t.toNat, UInt8.ofNat d.size] ++ d.toList) ++ (r' ++ []) := by rw [h]; simp
    change s.size = a.length + 2 + d.size + r'.length at hz
    show s.extract (a.length + 2 + d.size) s.size = _
    rw [cutout h' (by simp; omega) hz.symm]
theorem at_none {s : ByteArray} {a r : List UInt8} {p : Nat} (h : s.data.toList = a ++ r) (hp : a.length = p) (hc : cut1 r = none) :
    s.size = p + r.length ∧ (s.size < p + 2 ∨ p + 2 ≤ s.size ∧ (s.size : Int) < p + 2 + bt s (p + 1)) := by
  subst hp
  have hz : s.size = a.length + r.length := by rw [size_of h, List.length_append]
  refine ⟨hz, ?_⟩
  match r, hc, hz, h with
  | [], _, hz, _ => left; rw [hz]; simp
  | [_], _, hz, _ => left; rw [hz]; simp
  | t :: n :: r, hc, hz, h =>
    right
    rw [cut1_two] at hc
    have hn : ¬ n.toNat ≤ r.length := fun hn => by rw [if_pos hn] at hc; cases hc
    have h' : s.data.toList = (a ++ [t]) ++ n :: r := by rw [h]; simp
    have := bt_at h'
    rw [List.length_append] at this
    change bt s (a.length + 1) = _ at this
    rw [this, hz]
    simp only [List.length_cons]
    omega
end Go.Proofs.Ytlelfapmleopaaa.Xv
