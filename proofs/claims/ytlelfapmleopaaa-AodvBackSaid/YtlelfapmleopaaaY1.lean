/-
  A route error: whether it may be, its bytes, and which one bytes are: definitions on values alone, and facts on them. No conditions.
-/
import Derived.Test.YtlelfapmleopaaaNu
import Derived.Test.YtlelfapmleopaaaXv
import Derived.Test.YtlelfapmleopaaaOwn
namespace Go.Proofs.Ytlelfapmleopaaa.Y1
open Go.ChangeShapes Go.WideShapes Go.ChangeAt Go.RowKit
open Go.Proofs.Ytlelfapmleopaaa.Ms
open Go.Proofs.Ytlelfapmleopaaa.Cnt
open Go.Proofs.Ytlelfapmleopaaa.Xv
open Go.Proofs.Ytlelfapmleopaaa.Cur (numL)
open Go.Proofs.Ytlelfapmleopaaa.Oct (fitsB)
open Go.Proofs.Ytlelfapmleopaaa.Nu
open Go.Proofs.Ytlelfapmleopaaa.Own (k5 isKind ownM fieldsOf)
set_option linter.unusedVariables false
set_option maxRecDepth 100000
set_option maxRecDepth 100000

/-- May a destination be? -/
def ok1D (x : El) : Bool := decide (x.1.size = 4) && fitsB x.2 4
def okD (l : List El) : Bool := l.all ok1D
/-- A destination's bytes. -/
def enc1D (x : El) : List UInt8 := x.1.data.toList ++ layN x.2 4
def encD (l : List El) : List UInt8 := l.flatMap enc1D
theorem okD_cons (x : El) (l : List El) : okD (x :: l) = true ↔ ok1D x = true ∧ okD l = true := by simp [okD]
theorem okD_mem {l : List El} (h : okD l = true) : ∀ x ∈ l, ok1D x = true := by
  unfold okD at h
  rw [List.all_eq_true] at h
  exact h
theorem okD_take (l : List El) (k : Nat) (h : k < l.length) : okD (l.take (k + 1)) = (okD (l.take k) && ok1D l[k]) := by
  unfold okD
  rw [List.take_succ_eq_append_getElem h, List.all_append]
  simp
theorem okD_not (l : List El) (k : Nat) (h : k < l.length) (hn : ok1D l[k] = false) : okD l = false := by
  rw [Bool.eq_false_iff]
  intro hc
  rw [okD_mem hc _ (List.getElem_mem h)] at hn
  cases hn
theorem encD_nil : encD [] = [] := rfl
theorem encD_cons (x : El) (l : List El) : encD (x :: l) = enc1D x ++ encD l := by simp [encD]
theorem encD_append (a b : List El) : encD (a ++ b) = encD a ++ encD b := by simp [encD]
theorem encD_take (l : List El) (k : Nat) (h : k < l.length) : encD (l.take (k + 1)) = encD (l.take k) ++ enc1D l[k] := by
  rw [List.take_succ_eq_append_getElem h, encD_append]
  simp [encD]
theorem size_list (a : ByteArray) : a.data.toList.length = a.size := by simp
theorem ok1_parts {x : El} (h : ok1D x = true) : x.1.size = 4 ∧ fitsB x.2 4 = true := by
  unfold ok1D at h
  simpa using h
theorem enc1D_len {x : El} (h : ok1D x = true) : (enc1D x).length = 8 := by
  obtain ⟨h1, h2⟩ := ok1_parts h
  unfold enc1D
  rw [List.length_append, size_list, h1, lay_len h2]
theorem enc1D_most (x : El) (h : x.1.size ≤ 4) : (enc1D x).length ≤ 8 := by
  unfold enc1D
  have := layN_len x.2 4
  rw [List.length_append, size_list]
  omega
theorem encD_len {l : List El} (h : okD l = true) : (encD l).length = 8 * l.length := by
  induction l with
  | nil => rfl
  | cons x l ih =>
    rw [okD_cons] at h
    rw [encD_cons, List.length_append, enc1D_len h.1, ih h.2, List.length_cons]
    omega

/-- The destination with which bytes begin; the first n. -/
def one (l : List UInt8) : El := (⟨(l.take 4).toArray⟩, ((numL ((l.drop 4).take 4) : Nat) : Int))
def dests : Nat → List UInt8 → List El
  | 0, _ => []
  | n + 1, l => one l :: dests n (l.drop 8)
theorem dests_len : ∀ (n : Nat) (l : List UInt8), (dests n l).length = n
  | 0, _ => rfl
  | n + 1, l => by unfold dests; rw [List.length_cons, dests_len n]
theorem dests_snoc : ∀ (n : Nat) (l : List UInt8), dests (n + 1) l = dests n l ++ [one (l.drop (8 * n))]
  | 0, l => by unfold dests; rfl
  | n + 1, l => by
    show one l :: dests (n + 1) (l.drop 8) = one l :: dests n (l.drop 8) ++ [one (l.drop (8 * (n + 1)))]
    rw [dests_snoc n, List.drop_drop, show 8 + 8 * n = 8 * (n + 1) by omega]
    rfl
theorem one_enc {x : El} (h : ok1D x = true) (r : List UInt8) : one (enc1D x ++ r) = x := by
  obtain ⟨⟨d⟩, n⟩ := x
  obtain ⟨h1, h2⟩ := ok1_parts h
  have hd : d.toList.length = 4 := by
    have : (⟨d⟩ : ByteArray).data.toList.length = 4 := by rw [size_list]; exact h1
    exact this
  have hn := lay_len h2
  unfold one enc1D
  simp only []
  rw [List.append_assoc, List.take_left' hd, List.drop_left' hd, List.take_left' hn, lay_num h2]
theorem drop_enc {x : El} (h : ok1D x = true) (r : List UInt8) : (enc1D x ++ r).drop 8 = r := List.drop_left' (enc1D_len h)
theorem dests_enc : ∀ (l : List El) (r : List UInt8), okD l = true → dests l.length (encD l ++ r) = l
  | [], _, _ => rfl
  | x :: l, r, h => by
    rw [okD_cons] at h
    rw [encD_cons, List.append_assoc, List.length_cons]
    unfold dests
    rw [one_enc h.1, drop_enc h.1, dests_enc l r h.2]
theorem one_ok (l : List UInt8) (h : 8 ≤ l.length) : ok1D (one l) = true ∧ enc1D (one l) = l.take 8 := by
  have h4 : ((l.drop 4).take 4).length = 4 := by simp; omega
  refine ⟨?_, ?_⟩
  · unfold ok1D one
    have hn : fitsB ((numL ((l.drop 4).take 4) : Nat) : Int) 4 = true := num_fits _ 4 h4 (by omega) (by omega)
    have hs : (⟨(l.take 4).toArray⟩ : ByteArray).size = 4 := by
      show (l.take 4).toArray.size = 4
      simp
      omega
    simp only [hs, hn]
    rfl
  · unfold enc1D one
    simp only []
    rw [num_lay _ 4 h4 (by omega) (by omega)]
    show l.take 4 ++ (l.drop 4).take 4 = l.take 8
    rw [← List.take_add]
theorem dests_ok : ∀ (n : Nat) (l : List UInt8), 8 * n ≤ l.length → okD (dests n l) = true ∧ encD (dests n l) = l.take (8 * n)
  | 0, l, _ => ⟨rfl, rfl⟩
  | n + 1, l, h => by
    obtain ⟨h1, h2⟩ := one_ok l (by omega)
    obtain ⟨h3, h4⟩ := dests_ok n (l.drop 8) (by simp; omega)
    unfold dests
    refine ⟨(okD_cons _ _).2 ⟨h1, h3⟩, ?_⟩
    rw [encD_cons, h2, h4, show 8 * (n + 1) = 8 + 8 * n by omega, List.take_add]
theorem dests_take (n : Nat) (l r : List UInt8) (h : 8 * n ≤ l.length) : dests n (l ++ r) = dests n l := by
  induction n generalizing l with
  | zero => rfl
  | succ n ih =>
    unfold dests
    rw [List.drop_append_of_le_length (by omega), ih _ (by simp; omega)]
    unfold one
    rw [List.take_append_of_le_length (by omega), List.drop_append_of_le_length (by omega), List.take_append_of_le_length (by simp; omega)]

/-- Is it bare? -/
def bare (m : M) : Bool := isKind m && M.same m (ownM m)
/-- May its flags, and how many destinations, be? -/
def nums (m : M) : Bool := decide (0 ≤ m.flags ∧ m.flags ≤ 1) && decide (1 ≤ m.ll.length ∧ m.ll.length ≤ 255)
/-- May it be? -/
def okE (m : M) : Bool := decide (m.kind = 5) && (bare m && (nums m && (okD m.ll && okX m.sl)))
/-- Its bytes ahead of the extensions. -/
def hd (m : M) : List UInt8 := 3 :: UInt8.ofNat (128 * m.flags.toNat) :: 0 :: UInt8.ofNat m.ll.length :: encD m.ll
def encE (m : M) : List UInt8 := hd m ++ encX m.sl
def putE (m : M) : ByteArray := if okE m then ⟨(encE m).toArray⟩ else ⟨#[]⟩
theorem putE_yes {m : M} (h : okE m = true) : putE m = ⟨(encE m).toArray⟩ := by unfold putE; rw [if_pos h]
theorem putE_no {m : M} (h : okE m = false) : putE m = ⟨#[]⟩ := by unfold putE; rw [if_neg (by rw [h]; exact Bool.false_ne_true)]
/-- How many destinations bytes tell. -/
def cnt (s : ByteArray) : Nat := (s.data.toList.getD 3 0).toNat
theorem cnt_bt (s : ByteArray) : bt s 3 = (cnt s : Int) := rfl
theorem cnt_lt (s : ByteArray) : cnt s < 256 := UInt8.toNat_lt _
/-- What stands ahead of the extensions. -/
def hdM (s : ByteArray) : M := { M.zero with kind := 5, flags := bt s 1 / 128, ll := dests (cnt s) (s.data.toList.drop 4) }
def bad (s : ByteArray) : Prop := bt s 1 % 128 ≠ 0 ∨ bt s 2 ≠ 0
instance (s : ByteArray) : Decidable (bad s) := by unfold bad; exact inferInstance
/-- The message ahead of the extensions, where these begin; or where an error is, and which. -/
def headE (s : ByteArray) : M × Int × Int :=
  if s.size < 4 then (M.zero, (s.size : Int), 2) else if bad s then (M.zero, 1, 5) else if cnt s = 0 then (M.zero, 3, 8)
  else if s.size < 4 + 8 * cnt s then (M.zero, (s.size : Int), 2) else (hdM s, ((4 + 8 * cnt s : Nat) : Int), 0)
theorem head_short {s : ByteArray} (h : s.size < 4) : headE s = (M.zero, (s.size : Int), 2) := by unfold headE; rw [if_pos h]
theorem head_bits {s : ByteArray} (h : ¬ s.size < 4) (k : bad s) : headE s = (M.zero, 1, 5) := by unfold headE; rw [if_neg h, if_pos k]
theorem head_none {s : ByteArray} (h : ¬ s.size < 4) (k : ¬ bad s) (c : cnt s = 0) : headE s = (M.zero, 3, 8) := by unfold headE; rw [if_neg h, if_neg k, if_pos c]
theorem head_few {s : ByteArray} (h : ¬ s.size < 4) (k : ¬ bad s) (c : ¬ cnt s = 0) (d : s.size < 4 + 8 * cnt s) : headE s = (M.zero, (s.size : Int), 2) := by unfold headE; rw [if_neg h, if_neg k, if_neg c, if_pos d]
theorem head_yes {s : ByteArray} (h : ¬ s.size < 4) (k : ¬ bad s) (c : ¬ cnt s = 0) (d : ¬ s.size < 4 + 8 * cnt s) : headE s = (hdM s, ((4 + 8 * cnt s : Nat) : Int), 0) := by unfold headE; rw [if_neg h, if_neg k, if_neg c, if_neg d]
/-- The message whose bytes these are, or nothing; the place, the error. -/
def outE (s : ByteArray) : M × Int × Int :=
  if (headE s).2.2 ≠ 0 then (M.zero, (headE s).2.1, (headE s).2.2)
  else if (outX (s.extract (headE s).2.1.toNat s.size)).2.2 = 0 then ({ (headE s).1 with sl := (outX (s.extract (headE s).2.1.toNat s.size)).1 }, 0, 0)
  else (M.zero, (headE s).2.1 + (outX (s.extract (headE s).2.1.toNat s.size)).2.1, (outX (s.extract (headE s).2.1.toNat s.size)).2.2)
theorem out_bad {s : ByteArray} {m : M} {i e : Int} (h : headE s = (m, i, e)) (he : e ≠ 0) : outE s = (M.zero, i, e) := by unfold outE; rw [h, if_pos he]
theorem out_ext {s : ByteArray} {r : M} {n : Nat} {l : List El} {i e : Int} (h : headE s = (r, (n : Int), 0)) (o : outX (s.extract n s.size) = (l, i, e)) (he : e ≠ 0) : outE s = (M.zero, n + i, e) := by
  unfold outE; rw [h]; simp only [Int.toNat_natCast]; rw [o, if_neg (by decide), if_neg he]
theorem out_yes {s : ByteArray} {r : M} {n : Nat} {l : List El} {i : Int} (h : headE s = (r, (n : Int), 0)) (o : outX (s.extract n s.size) = (l, i, 0)) : outE s = ({ r with sl := l }, 0, 0) := by
  unfold outE; rw [h]; simp only [Int.toNat_natCast]; rw [o, if_neg (by decide), if_pos rfl]
theorem parts4 (l : List UInt8) (h : 4 ≤ l.length) : l = l.getD 0 0 :: l.getD 1 0 :: l.getD 2 0 :: l.getD 3 0 :: l.drop 4 := by
  cases l with
  | nil => simp at h
  | cons a l => cases l with
    | nil => simp at h
    | cons b l => cases l with
      | nil => simp at h
      | cons c l => cases l with
        | nil => simp at h
        | cons d l => rfl
structure Nums (m : M) : Prop where
  f0 : 0 ≤ m.flags
  f1 : m.flags ≤ 1
  n0 : 1 ≤ m.ll.length
  n1 : m.ll.length ≤ 255
structure Ok (m : M) : Prop where
  kind : m.kind = 5
  bare : bare m = true
  nums : nums m = true
  dests : okD m.ll = true
  subs : okX m.sl = true
theorem ok_iff (m : M) : okE m = true ↔ Ok m := by
  unfold okE
  simp only [Bool.and_eq_true, decide_eq_true_eq]
  exact ⟨fun ⟨a, b, c, d, e⟩ => ⟨a, b, c, d, e⟩, fun ⟨a, b, c, d, e⟩ => ⟨a, b, c, d, e⟩⟩
theorem nums_iff (m : M) : nums m = true ↔ Nums m := by
  unfold nums
  simp only [Bool.and_eq_true, decide_eq_true_eq]
  exact ⟨fun ⟨⟨a, b⟩, ⟨c, d⟩⟩ => ⟨a, b, c, d⟩, fun ⟨a, b, c, d⟩ => ⟨⟨a, b⟩, ⟨c, d⟩⟩⟩
theorem byte_of {n : Nat} (h : n < 256) : (UInt8.ofNat n).toNat = n := by rw [UInt8.toNat_ofNat']; omega
theorem own_err {m : M} (h : m.kind = 5) : isKind m = true ∧ ownM m = { k5 m with kind := 5 } := by
  have hi : isKind m = true := by simp [isKind, h]
  exact ⟨hi, by simp [ownM, hi, fieldsOf, h]⟩
/-- A message that may be is that of its bytes. -/
theorem put_back (m : M) (h : okE m = true) : outE ⟨(encE m).toArray⟩ = ({ ownM m with la := none, lc := 0, sa := none, sc := 0 }, 0, 0) := by
  obtain ⟨hk, _, hn, hd', hx⟩ := (ok_iff m).1 h
  obtain ⟨f0, f1, n0, n1⟩ := (nums_iff m).1 hn
  have hl : (⟨(encE m).toArray⟩ : ByteArray).data.toList = 3 :: UInt8.ofNat (128 * m.flags.toNat) :: 0 :: UInt8.ofNat m.ll.length :: (encD m.ll ++ encX m.sl) := by
    simp [encE, hd]
  have hz : (⟨(encE m).toArray⟩ : ByteArray).size = 4 + 8 * m.ll.length + (encX m.sl).length := by
    rw [← size_list, hl]
    simp only [List.length_cons, List.length_append, encD_len hd']
    omega
  generalize (⟨(encE m).toArray⟩ : ByteArray) = s at *
  have b1 : bt s 1 = 128 * m.flags := by
    unfold bt
    rw [hl]
    show ((UInt8.ofNat (128 * m.flags.toNat)).toNat : Int) = _
    rw [byte_of (by omega)]
    omega
  have b2 : bt s 2 = 0 := by unfold bt; rw [hl]; rfl
  have b3 : cnt s = m.ll.length := by
    unfold cnt
    rw [hl]
    show (UInt8.ofNat m.ll.length).toNat = _
    exact byte_of (by omega)
  have e4 : s.data.toList.drop 4 = encD m.ll ++ encX m.sl := by rw [hl]; rfl
  have t : (s.extract (4 + 8 * cnt s) s.size).data.toList = encX m.sl := by
    rw [ext_list, b3, ← List.drop_drop, e4, List.drop_left' (encD_len hd'), List.take_of_length_le]
    omega
  rw [out_yes (head_yes (by omega) (by unfold bad; omega) (by omega) (by omega)) (Xv.out_yes hx t), (own_err hk).2]
  have e : hdM s = { k5 m with kind := 5, la := none, lc := 0, sa := none, sl := [], sc := 0 } := by
    unfold hdM k5
    rw [b1, b3, e4, dests_enc _ _ hd', show 128 * m.flags / 128 = m.flags by omega]
    rfl
  rw [e]
  rfl
/-- Bytes of an error are that one's. -/
theorem err_back (s : ByteArray) (l : List El) (h0 : bt s 0 = 3) (h : ¬ s.size < 4) (k : ¬ bad s) (c : ¬ cnt s = 0) (d : ¬ s.size < 4 + 8 * cnt s) (hx : okX l = true) (o : (s.extract (4 + 8 * cnt s) s.size).data.toList = encX l) :
    okE { hdM s with sl := l } = true ∧ encE { hdM s with sl := l } = s.data.toList := by
  have hz : 4 ≤ s.data.toList.length := by rw [size_list]; omega
  have hl := parts4 _ hz
  have hd4 : 8 * cnt s ≤ (s.data.toList.drop 4).length := by rw [List.length_drop, size_list]; omega
  obtain ⟨o1, o2⟩ := dests_ok (cnt s) _ hd4
  have e4 : s.data.toList.drop 4 = encD (dests (cnt s) (s.data.toList.drop 4)) ++ encX l := by
    rw [o2, ← o, ext_list, List.take_of_length_le (i := s.size - (4 + 8 * cnt s)) (by rw [List.length_drop, size_list]; omega), ← List.drop_drop, List.take_append_drop]
  unfold bad at k
  have k1 : bt s 1 % 128 = 0 := by omega
  have k2 : bt s 2 = 0 := by omega
  have p1 := bt_nn s 1
  have p2 := bt_lt s 1
  have p3 := cnt_lt s
  refine ⟨(ok_iff _).2 ⟨rfl, ?_, (nums_iff _).2 ⟨?_, ?_, ?_, ?_⟩, o1, hx⟩, ?_⟩
  · unfold bare
    rw [(own_err rfl).1, (own_err rfl).2]
    unfold M.same M.flatE k5 hdM M.zero
    simp
  · show 0 ≤ bt s 1 / 128; omega
  · show bt s 1 / 128 ≤ 1; omega
  · show 1 ≤ (dests (cnt s) (s.data.toList.drop 4)).length; rw [dests_len]; omega
  · show (dests (cnt s) (s.data.toList.drop 4)).length ≤ 255; rw [dests_len]; omega
  · unfold encE hd
    show (3 :: UInt8.ofNat (128 * (bt s 1 / 128).toNat) :: 0 :: UInt8.ofNat (dests (cnt s) (s.data.toList.drop 4)).length :: encD (dests (cnt s) (s.data.toList.drop 4))) ++ encX l = _
    rw [dests_len]
    have c0 : (3 : UInt8) = s.data.toList.getD 0 0 := by
      refine UInt8.toNat_inj.1 ?_
      have : ((s.data.toList.getD 0 0).toNat : Int) = 3 := h0
      show 3 = _
      omega
    have c1 : UInt8.ofNat (128 * (bt s 1 / 128).toNat) = s.data.toList.getD 1 0 := by
      refine UInt8.toNat_inj.1 ?_
      have : ((s.data.toList.getD 1 0).toNat : Int) = bt s 1 := rfl
      rw [byte_of (by omega)]
      omega
    have c2 : (0 : UInt8) = s.data.toList.getD 2 0 := by
      refine UInt8.toNat_inj.1 ?_
      have : ((s.data.toList.getD 2 0).toNat : Int) = 0 := k2
      show 0 = _
      omega
    have c3 : UInt8.ofNat (cnt s) = s.data.toList.getD 3 0 := by
      refine UInt8.toNat_inj.1 ?_
      rw [byte_of (by omega)]
      rfl
    conv => rhs; rw [hl, ← c0, ← c1, ← c2, ← c3, e4]
    simp only [List.cons_append]
/-- What a head comes to. -/
theorem head_cases (s : ByteArray) : (∃ i e, headE s = (M.zero, i, e) ∧ e ≠ 0 ∧ 0 ≤ i ∧ i ≤ s.size) ∨
    ∃ r, ∃ n : Nat, headE s = (r, (n : Int), 0) ∧ n ≤ 2044 ∧ n ≤ s.size ∧ r = hdM s ∧ n = 4 + 8 * cnt s ∧ ¬ s.size < 4 ∧ ¬ bad s ∧ ¬ cnt s = 0 ∧
      (bt s 0 = 3 → ∀ l, okX l = true → (s.extract n s.size).data.toList = encX l → okE { r with sl := l } = true ∧ encE { r with sl := l } = s.data.toList) := by
  by_cases h : s.size < 4
  · exact .inl ⟨_, _, head_short h, by decide, by omega, by omega⟩
  by_cases k : bad s
  · exact .inl ⟨_, _, head_bits h k, by decide, by decide, by omega⟩
  by_cases c : cnt s = 0
  · exact .inl ⟨_, _, head_none h k c, by decide, by decide, by omega⟩
  by_cases d : s.size < 4 + 8 * cnt s
  · exact .inl ⟨_, _, head_few h k c d, by decide, by omega, by omega⟩
  have := cnt_lt s
  exact .inr ⟨hdM s, 4 + 8 * cnt s, head_yes h k c d, by omega, by omega, rfl, rfl, h, k, c, fun h0 l hx o => err_back s l h0 h k c d hx o⟩
/-- What bytes come to. -/
theorem out_cases (s : ByteArray) : (outE s).2.2 ≠ 0 ∧ (outE s).1 = M.zero ∧ 0 ≤ (outE s).2.1 ∧ (outE s).2.1 ≤ s.size ∨
    ((outE s).2.1 = 0 ∧ (outE s).2.2 = 0 ∧ (bt s 0 = 3 → okE (outE s).1 = true ∧ encE (outE s).1 = s.data.toList)) := by
  rcases head_cases s with ⟨i, e, h, he, h0, h1⟩ | ⟨r, n, h, _, hn, _, _, _, _, _, hb⟩
  · left
    rw [out_bad h he]
    exact ⟨he, rfl, h0, h1⟩
  rcases Xv.out_cases (s.extract n s.size) with ⟨l, h1, h2, h3⟩ | ⟨l, r', h1, h2, h3, h4, h5⟩
  · right
    rw [out_yes h h3]
    exact ⟨rfl, rfl, fun h0 => hb h0 l h1 h2⟩
  · left
    rw [out_ext h h5 (by decide)]
    refine ⟨by show (2 : Int) ≠ 0; decide, rfl, by simp only []; omega, ?_⟩
    have := congrArg List.length h2
    rw [List.length_append, size_list] at this
    simp at this
    simp only []
    omega
theorem hd_len {m : M} (h : okE m = true) : (hd m).length = 4 + 8 * m.ll.length := by
  obtain ⟨_, _, _, h4, _⟩ := (ok_iff m).1 h
  unfold hd
  simp only [List.length_cons, encD_len h4]
  omega
theorem putE_len {m : M} (h : okE m = true) : (putE m).size = 4 + 8 * m.ll.length + bytesN m.sl := by
  rw [putE_yes h]
  show (encE m).length = _
  unfold encE
  rw [List.length_append, encX_len, hd_len h]
theorem putE_size (m : M) (hl : m.sl.length ≤ 60) : (putE m).size ≤ 20000 := by
  cases h : okE m
  · rw [putE_no h]; decide
  · have := bytes_most ((ok_iff m).1 h).subs
    have := ((nums_iff m).1 ((ok_iff m).1 h).nums).n1
    rw [putE_len h]
    omega
end Go.Proofs.Ytlelfapmleopaaa.Y1
