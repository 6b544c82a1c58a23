/-
  A route request: whether it may be, its bytes, and which one bytes are: definitions on values alone, and facts on them. No conditions.
-/
import Derived.Test.YtlelfapmleopaaaNu
import Derived.Test.YtlelfapmleopaaaXv
import Derived.Test.YtlelfapmleopaaaOwn
namespace Go.Proofs.Ytlelfapmleopaaa.Q1
open Go.ChangeShapes Go.WideShapes Go.ChangeAt Go.RowKit
open Go.Proofs.Ytlelfapmleopaaa.Ms
open Go.Proofs.Ytlelfapmleopaaa.Cnt
open Go.Proofs.Ytlelfapmleopaaa.Xv
open Go.Proofs.Ytlelfapmleopaaa.Cur (numL)
open Go.Proofs.Ytlelfapmleopaaa.Oct (fitsB)
open Go.Proofs.Ytlelfapmleopaaa.Nu
open Go.Proofs.Ytlelfapmleopaaa.Own (k3)
set_option linter.unusedVariables false
set_option maxRecDepth 100000
set_option maxRecDepth 100000

/-- Is a request bare? -/
def bare (m : M) : Bool := M.same m { k3 m with kind := m.kind }
/-- Is there room for each of its numbers? -/
def nums (m : M) : Bool := decide (0 ≤ m.flags ∧ m.flags ≤ 31) && (fitsB m.hops 1 && (fitsB m.nonce 4 && (fitsB m.seq 4 && fitsB m.seq2 4)))
/-- May it be a request? -/
def okQ (m : M) : Bool := decide (m.kind = 3) && (bare m && (nums m && (decide (m.addr.size = 4) && (decide (m.orig.size = 4) && okX m.sl))))
/-- The bytes ahead of the extensions. -/
def hd (m : M) : List UInt8 := 1 :: UInt8.ofNat (8 * m.flags.toNat) :: 0 :: UInt8.ofNat m.hops.toNat :: (layN m.nonce 4 ++ (m.addr.data.toList ++ (layN m.seq 4 ++ (m.orig.data.toList ++ layN m.seq2 4))))
def encQ (m : M) : List UInt8 := hd m ++ encX m.sl
def putQ (m : M) : ByteArray := if okQ m then ⟨(encQ m).toArray⟩ else ⟨#[]⟩
theorem putQ_yes {m : M} (h : okQ m = true) : putQ m = ⟨(encQ m).toArray⟩ := by unfold putQ; rw [if_pos h]
theorem putQ_no {m : M} (h : okQ m = false) : putQ m = ⟨#[]⟩ := by unfold putQ; rw [if_neg (by rw [h]; exact Bool.false_ne_true)]
/-- The number of four bytes. -/
def num4 (s : ByteArray) (a : Nat) : Int := ((numL ((s.data.toList.drop a).take 4) : Nat) : Int)
/-- What stands ahead of the extensions. -/
def hdM (s : ByteArray) : M := { M.zero with kind := 3, flags := bt s 1 / 8, hops := bt s 3, nonce := num4 s 4, addr := s.extract 8 12, seq := num4 s 12, orig := s.extract 16 20, seq2 := num4 s 20 }
/-- The request whose bytes these are, or nothing; the place, the error. -/
def outQ (s : ByteArray) : M × Int × Int :=
  if s.size < 24 then (M.zero, (s.size : Int), 2) else if bt s 1 % 8 ≠ 0 ∨ bt s 2 ≠ 0 then (M.zero, 1, 5)
  else if (outX (s.extract 24 s.size)).2.2 = 0 then ({ hdM s with sl := (outX (s.extract 24 s.size)).1 }, 0, 0) else (M.zero, 24 + (outX (s.extract 24 s.size)).2.1, (outX (s.extract 24 s.size)).2.2)
theorem out_short {s : ByteArray} (h : s.size < 24) : outQ s = (M.zero, (s.size : Int), 2) := by unfold outQ; rw [if_pos h]
theorem out_bits {s : ByteArray} (h : ¬ s.size < 24) (k : bt s 1 % 8 ≠ 0 ∨ bt s 2 ≠ 0) : outQ s = (M.zero, 1, 5) := by unfold outQ; rw [if_neg h, if_pos k]
theorem out_ext {s : ByteArray} {l : List El} {i e : Int} (h : ¬ s.size < 24) (k : ¬ (bt s 1 % 8 ≠ 0 ∨ bt s 2 ≠ 0)) (o : outX (s.extract 24 s.size) = (l, i, e)) (he : e ≠ 0) : outQ s = (M.zero, 24 + i, e) := by
  unfold outQ; rw [if_neg h, if_neg k, o, if_neg he]
theorem out_yes {s : ByteArray} {l : List El} {i : Int} (h : ¬ s.size < 24) (k : ¬ (bt s 1 % 8 ≠ 0 ∨ bt s 2 ≠ 0)) (o : outX (s.extract 24 s.size) = (l, i, 0)) : outQ s = ({ hdM s with sl := l }, 0, 0) := by
  unfold outQ; rw [if_neg h, if_neg k, o, if_pos rfl]

theorem cuts (c0 c1 c2 c3 : UInt8) (x1 x2 x3 x4 x5 r : List UInt8) (h1 : x1.length = 4) (h2 : x2.length = 4) (h3 : x3.length = 4) (h4 : x4.length = 4) (h5 : x5.length = 4) :
    ((c0 :: c1 :: c2 :: c3 :: (x1 ++ (x2 ++ (x3 ++ (x4 ++ (x5 ++ r)))))).drop 4).take 4 = x1 ∧ ((c0 :: c1 :: c2 :: c3 :: (x1 ++ (x2 ++ (x3 ++ (x4 ++ (x5 ++ r)))))).drop 8).take 4 = x2 ∧
    ((c0 :: c1 :: c2 :: c3 :: (x1 ++ (x2 ++ (x3 ++ (x4 ++ (x5 ++ r)))))).drop 12).take 4 = x3 ∧ ((c0 :: c1 :: c2 :: c3 :: (x1 ++ (x2 ++ (x3 ++ (x4 ++ (x5 ++ r)))))).drop 16).take 4 = x4 ∧
    ((c0 :: c1 :: c2 :: c3 :: (x1 ++ (x2 ++ (x3 ++ (x4 ++ (x5 ++ r)))))).drop 20).take 4 = x5 ∧ (c0 :: c1 :: c2 :: c3 :: (x1 ++ (x2 ++ (x3 ++ (x4 ++ (x5 ++ r)))))).drop 24 = r ∧
    (c0 :: c1 :: c2 :: c3 :: (x1 ++ (x2 ++ (x3 ++ (x4 ++ (x5 ++ r)))))).length = 24 + r.length := by
  match x1, h1, x2, h2, x3, h3, x4, h4, x5, h5 with
  | [_, _, _, _], _, [_, _, _, _], _, [_, _, _, _], _, [_, _, _, _], _, [_, _, _, _], _ => exact ⟨rfl, rfl, rfl, rfl, rfl, rfl, by simp; omega⟩
theorem four (t : List UInt8) (k : Nat) (l : List UInt8) (h : l.drop k = t) : t = (l.drop k).take 4 ++ l.drop (k + 4) := by
  rw [h, ← List.drop_drop, h, List.take_append_drop]
theorem parts (l : List UInt8) (h : 24 ≤ l.length) : l = l.getD 0 0 :: l.getD 1 0 :: l.getD 2 0 :: l.getD 3 0 :: ((l.drop 4).take 4 ++ ((l.drop 8).take 4 ++ ((l.drop 12).take 4 ++ ((l.drop 16).take 4 ++ ((l.drop 20).take 4 ++ l.drop 24))))) := by
  rw [← four (l.drop 20) 20 l rfl, ← four (l.drop 16) 16 l rfl, ← four (l.drop 12) 12 l rfl, ← four (l.drop 8) 8 l rfl, ← four (l.drop 4) 4 l rfl]
  cases l with
  | nil => simp at h
  | cons a l => cases l with
    | nil => simp at h
    | cons b l => cases l with
      | nil => simp at h
      | cons c l => cases l with
        | nil => simp at h
        | cons d l => rfl
theorem len4 (s : ByteArray) (a : Nat) (h : a + 4 ≤ s.size) : ((s.data.toList.drop a).take 4).length = 4 := by simp; omega
theorem ext4 (s : ByteArray) (a b : Nat) (h : b = a + 4) : (s.extract a b).data.toList = (s.data.toList.drop a).take 4 := by subst h; rw [ext_list, Nat.add_sub_cancel_left]
theorem size_list (a : ByteArray) : a.data.toList.length = a.size := by simp

structure Ok (m : M) : Prop where
  kind : m.kind = 3
  bare : bare m = true
  nums : nums m = true
  addr : m.addr.size = 4
  orig : m.orig.size = 4
  subs : okX m.sl = true
structure Nums (m : M) : Prop where
  f0 : 0 ≤ m.flags
  f1 : m.flags ≤ 31
  hops : fitsB m.hops 1 = true
  nonce : fitsB m.nonce 4 = true
  seq : fitsB m.seq 4 = true
  seq2 : fitsB m.seq2 4 = true
theorem ok_iff (m : M) : okQ m = true ↔ Ok m := by
  unfold okQ
  simp only [Bool.and_eq_true, decide_eq_true_eq]
  exact ⟨fun ⟨a, b, c, d, e, f⟩ => ⟨a, b, c, d, e, f⟩, fun ⟨a, b, c, d, e, f⟩ => ⟨a, b, c, d, e, f⟩⟩
theorem nums_iff (m : M) : nums m = true ↔ Nums m := by
  unfold nums
  simp only [Bool.and_eq_true, decide_eq_true_eq]
  exact ⟨fun ⟨⟨a, b⟩, c, d, e, f⟩ => ⟨a, b, c, d, e, f⟩, fun ⟨a, b, c, d, e, f⟩ => ⟨⟨a, b⟩, c, d, e, f⟩⟩
theorem fits_one {n : Int} (h : fitsB n 1 = true) : 0 ≤ n ∧ n < 256 := by
  obtain ⟨_, _, h0, h1⟩ := (Oct.fitsB_iff n 1).1 h
  exact ⟨h0, by simpa [Oct.pw] using h1⟩
theorem one_fits {n : Int} (h0 : 0 ≤ n) (h1 : n < 256) : fitsB n 1 = true := (Oct.fitsB_iff n 1).2 ⟨by omega, by omega, h0, by simpa [Oct.pw] using h1⟩
theorem byte_of {n : Nat} (h : n < 256) : (UInt8.ofNat n).toNat = n := by rw [UInt8.toNat_ofNat']; omega

/-- A request that may be is that of its bytes. -/
theorem put_back (m : M) (h : okQ m = true) : outQ ⟨(encQ m).toArray⟩ = ({ k3 m with kind := 3, sa := none, sc := 0 }, 0, 0) := by
  obtain ⟨hk, _, hn, ha, ho, hx⟩ := (ok_iff m).1 h
  obtain ⟨f0, f1, n1, n2, n3, n4⟩ := (nums_iff m).1 hn
  have hl : (⟨(encQ m).toArray⟩ : ByteArray).data.toList = UInt8.ofNat 1 :: UInt8.ofNat (8 * m.flags.toNat) :: UInt8.ofNat 0 :: UInt8.ofNat m.hops.toNat :: (layN m.nonce 4 ++ (m.addr.data.toList ++ (layN m.seq 4 ++ (m.orig.data.toList ++ (layN m.seq2 4 ++ encX m.sl))))) := by
    simp [encQ, hd, List.append_assoc]
  generalize (⟨(encQ m).toArray⟩ : ByteArray) = s at *
  obtain ⟨q1, q2, q3, q4, q5, q6, q7⟩ := cuts (UInt8.ofNat 1) (UInt8.ofNat (8 * m.flags.toNat)) (UInt8.ofNat 0) (UInt8.ofNat m.hops.toNat) (layN m.nonce 4) m.addr.data.toList (layN m.seq 4) m.orig.data.toList (layN m.seq2 4) (encX m.sl) (lay_len n2) (by rw [size_list]; exact ha) (lay_len n3) (by rw [size_list]; exact ho) (lay_len n4)
  have hz : ¬ s.size < 24 := by rw [← size_list, hl, q7]; omega
  have b1 : bt s 1 = 8 * m.flags := by
    unfold bt
    rw [hl]
    show ((UInt8.ofNat (8 * m.flags.toNat)).toNat : Int) = _
    rw [byte_of (by omega)]
    omega
  have b2 : bt s 2 = 0 := by unfold bt; rw [hl]; rfl
  obtain ⟨h0, h1⟩ := fits_one n1
  have b3 : bt s 3 = m.hops := by
    unfold bt
    rw [hl]
    show ((UInt8.ofNat m.hops.toNat).toNat : Int) = _
    rw [byte_of (by omega)]
    omega
  have t : (s.extract 24 s.size).data.toList = encX m.sl := by
    rw [ext_list, hl, q6, List.take_of_length_le]
    rw [← size_list, hl, q7]
    omega
  rw [out_yes hz (by omega) (Xv.out_yes hx t)]
  have e : hdM s = { k3 m with kind := 3, sa := none, sl := [], sc := 0 } := by
    unfold hdM k3 num4
    rw [b1, b3, hl, q1, q3, q5, lay_num n2, lay_num n3, lay_num n4, text_eq (a := s.extract 8 12) (b := m.addr) (by rw [ext4 s 8 12 rfl, hl, q2]), text_eq (a := s.extract 16 20) (b := m.orig) (by rw [ext4 s 16 20 rfl, hl, q4]), show 8 * m.flags / 8 = m.flags by omega]
    rfl
  rw [e]
  rfl
/-- Bytes of a request are that one's. -/
theorem get_back (s : ByteArray) (l : List El) (h : ¬ s.size < 24) (k : ¬ (bt s 1 % 8 ≠ 0 ∨ bt s 2 ≠ 0)) (h0 : bt s 0 = 1) (hx : okX l = true) (o : (s.extract 24 s.size).data.toList = encX l) :
    okQ { hdM s with sl := l } = true ∧ encQ { hdM s with sl := l } = s.data.toList := by
  have hz : 24 ≤ s.data.toList.length := by rw [size_list]; omega
  have hl := parts _ hz
  have g1 : (numL ((s.data.toList.drop 4).take 4) : Int) = num4 s 4 := rfl
  have w1 := len4 s 4 (by omega)
  have w2 := len4 s 8 (by omega)
  have w3 := len4 s 12 (by omega)
  have w4 := len4 s 16 (by omega)
  have w5 := len4 s 20 (by omega)
  have e24 : s.data.toList.drop 24 = encX l := by
    rw [← o, ext_list, List.take_of_length_le]
    rw [List.length_drop, size_list]
    exact Nat.le_refl _
  have k1 : bt s 1 % 8 = 0 := by omega
  have k2 : bt s 2 = 0 := by omega
  have p1 := bt_nn s 1
  have p2 := bt_lt s 1
  have p3 := bt_nn s 3
  have p4 := bt_lt s 3
  refine ⟨(ok_iff _).2 ⟨rfl, ?_, (nums_iff _).2 ⟨?_, ?_, ?_, ?_, ?_, ?_⟩, ?_, ?_, hx⟩, ?_⟩
  · unfold bare M.same M.flatE k3 hdM M.zero
    simp
  · show 0 ≤ bt s 1 / 8; omega
  · show bt s 1 / 8 ≤ 31; omega
  · exact one_fits p3 p4
  · exact num_fits _ 4 w1 (by omega) (by omega)
  · exact num_fits _ 4 w3 (by omega) (by omega)
  · exact num_fits _ 4 w5 (by omega) (by omega)
  · show (s.extract 8 12).size = 4; rw [← size_list, ext4 s 8 12 rfl]; exact w2
  · show (s.extract 16 20).size = 4; rw [← size_list, ext4 s 16 20 rfl]; exact w4
  · unfold encQ hd
    show (1 :: UInt8.ofNat (8 * (bt s 1 / 8).toNat) :: 0 :: UInt8.ofNat (bt s 3).toNat :: (layN (num4 s 4) 4 ++ ((s.extract 8 12).data.toList ++ (layN (num4 s 12) 4 ++ ((s.extract 16 20).data.toList ++ layN (num4 s 20) 4))))) ++ encX l = _
    unfold num4
    rw [num_lay _ 4 w1 (by omega) (by omega), num_lay _ 4 w3 (by omega) (by omega), num_lay _ 4 w5 (by omega) (by omega), ext4 s 8 12 rfl, ext4 s 16 20 rfl, ← e24]
    have c0 : (1 : UInt8) = s.data.toList.getD 0 0 := by
      refine UInt8.toNat_inj.1 ?_
      have : ((s.data.toList.getD 0 0).toNat : Int) = 1 := h0
      show 1 = _
      omega
    have c1 : UInt8.ofNat (8 * (bt s 1 / 8).toNat) = s.data.toList.getD 1 0 := by
      refine UInt8.toNat_inj.1 ?_
      have : ((s.data.toList.getD 1 0).toNat : Int) = bt s 1 := rfl
      rw [byte_of (by omega)]
      omega
    have c2 : (0 : UInt8) = s.data.toList.getD 2 0 := by
      refine UInt8.toNat_inj.1 ?_
      have : ((s.data.toList.getD 2 0).toNat : Int) = 0 := k2
      show 0 = _
      omega
    have c3 : UInt8.ofNat (bt s 3).toNat = s.data.toList.getD 3 0 := by
      refine UInt8.toNat_inj.1 ?_
      have : ((s.data.toList.getD 3 0).toNat : Int) = bt s 3 := rfl
      rw [byte_of (by omega)]
      omega
    conv => rhs; rw [hl, ← c0, ← c1, ← c2, ← c3]
    simp only [List.cons_append, List.append_assoc]
/-- What bytes come to. -/
theorem out_cases (s : ByteArray) : (outQ s).2.2 ≠ 0 ∧ (outQ s).1 = M.zero ∧ 0 ≤ (outQ s).2.1 ∧ (outQ s).2.1 ≤ s.size ∨
    ((outQ s).2.1 = 0 ∧ (outQ s).2.2 = 0 ∧ (bt s 0 = 1 → okQ (outQ s).1 = true ∧ encQ (outQ s).1 = s.data.toList)) := by
  by_cases h : s.size < 24
  · left
    rw [out_short h]
    exact ⟨by show (2 : Int) ≠ 0; decide, rfl, by simp only []; omega, by simp only []; omega⟩
  by_cases k : bt s 1 % 8 ≠ 0 ∨ bt s 2 ≠ 0
  · left
    rw [out_bits h k]
    exact ⟨by decide, rfl, by decide, by simp only []; omega⟩
  rcases Xv.out_cases (s.extract 24 s.size) with ⟨l, h1, h2, h3⟩ | ⟨l, r, h1, h2, h3, h4, h5⟩
  · right
    rw [out_yes h k h3]
    exact ⟨rfl, rfl, fun h0 => get_back s l h k h0 h1 h2⟩
  · left
    rw [out_ext h k h5 (by decide)]
    refine ⟨by show (2 : Int) ≠ 0; decide, rfl, by simp only []; omega, ?_⟩
    have := congrArg List.length h2
    rw [List.length_append, size_list] at this
    simp at this
    simp only []
    omega
theorem putQ_size (m : M) (hl : m.sl.length ≤ 60) : (putQ m).size ≤ 20000 := by
  cases h : okQ m
  · rw [putQ_no h]; decide
  · obtain ⟨hk, _, hn, ha, ho, hx⟩ := (ok_iff m).1 h
    obtain ⟨f0, f1, n1, n2, n3, n4⟩ := (nums_iff m).1 hn
    have := bytes_most hx
    rw [putQ_yes h]
    show (encQ m).length ≤ _
    unfold encQ hd
    simp only [List.length_append, List.length_cons, lay_len n2, lay_len n3, lay_len n4, size_list, ha, ho, encX_len]
    omega
end Go.Proofs.Ytlelfapmleopaaa.Q1
