/-
  A route reply, and what acknowledges one: whether it may be, its bytes, and which one bytes are: definitions on values alone, and facts on them. No conditions.
-/
import Derived.Test.YtlelfapmleopaaaNu
import Derived.Test.YtlelfapmleopaaaXv
import Derived.Test.YtlelfapmleopaaaOwn
namespace Go.Proofs.Ytlelfapmleopaaa.Z1
open Go.ChangeShapes Go.WideShapes Go.ChangeAt Go.RowKit
open Go.Proofs.Ytlelfapmleopaaa.Ms
open Go.Proofs.Ytlelfapmleopaaa.Cnt
open Go.Proofs.Ytlelfapmleopaaa.Xv
open Go.Proofs.Ytlelfapmleopaaa.Cur (numL)
open Go.Proofs.Ytlelfapmleopaaa.Oct (fitsB)
open Go.Proofs.Ytlelfapmleopaaa.Nu
open Go.Proofs.Ytlelfapmleopaaa.Own (k4 k6 isKind ownM fieldsOf)
set_option linter.unusedVariables false
set_option maxRecDepth 100000
set_option maxRecDepth 100000

/-- Is it bare? -/
def bare (m : M) : Bool := isKind m && M.same m (ownM m)
/-- Is there room for each number of a reply? -/
def nums (m : M) : Bool := decide (0 ≤ m.flags ∧ m.flags ≤ 3) && (decide (0 ≤ m.plen ∧ m.plen ≤ 31) && (fitsB m.hops 1 && (fitsB m.seq 4 && fitsB m.interval 4)))
/-- May the fields of a reply be? -/
def reply (m : M) : Bool := nums m && (decide (m.addr.size = 4) && decide (m.orig.size = 4))
/-- May it be? -/
def okP (m : M) : Bool := bare m && (okX m.sl && (decide (m.kind = 6) || (decide (m.kind = 4) && reply m)))
/-- The bytes of a reply ahead of the extensions. -/
def hdR (m : M) : List UInt8 := 2 :: UInt8.ofNat (64 * m.flags.toNat) :: UInt8.ofNat m.plen.toNat :: UInt8.ofNat m.hops.toNat :: (m.addr.data.toList ++ (layN m.seq 4 ++ (m.orig.data.toList ++ layN m.interval 4)))
def hd (m : M) : List UInt8 := if m.kind = 4 then hdR m else [4, 0]
def encP (m : M) : List UInt8 := hd m ++ encX m.sl
def putP (m : M) : ByteArray := if okP m then ⟨(encP m).toArray⟩ else ⟨#[]⟩
theorem putP_yes {m : M} (h : okP m = true) : putP m = ⟨(encP m).toArray⟩ := by unfold putP; rw [if_pos h]
theorem putP_no {m : M} (h : okP m = false) : putP m = ⟨#[]⟩ := by unfold putP; rw [if_neg (by rw [h]; exact Bool.false_ne_true)]
theorem hd_rep {m : M} (h : m.kind = 4) : hd m = hdR m := by unfold hd; rw [if_pos h]
theorem hd_ack {m : M} (h : m.kind = 6) : hd m = [4, 0] := by unfold hd; rw [if_neg (by omega)]
/-- The number of four bytes. -/
def num4 (s : ByteArray) (a : Nat) : Int := ((numL ((s.data.toList.drop a).take 4) : Nat) : Int)
/-- What stands ahead of the extensions of a reply. -/
def hdM (s : ByteArray) : M := { M.zero with kind := 4, flags := bt s 1 / 64, plen := bt s 2, hops := bt s 3, addr := s.extract 4 8, seq := num4 s 8, orig := s.extract 12 16, interval := num4 s 16 }
def ackM : M := { M.zero with kind := 6 }
def badA (s : ByteArray) : Prop := bt s 1 ≠ 0
def badR (s : ByteArray) : Prop := bt s 1 % 64 ≠ 0 ∨ 31 < bt s 2
instance (s : ByteArray) : Decidable (badA s) := by unfold badA; exact inferInstance
instance (s : ByteArray) : Decidable (badR s) := by unfold badR; exact inferInstance
/-- The message ahead of the extensions, where these begin; or where an error is, and which. -/
def headP (s : ByteArray) : M × Int × Int :=
  if bt s 0 = 4 then (if s.size < 2 then (M.zero, (s.size : Int), 2) else if badA s then (M.zero, 1, 5) else (ackM, 2, 0))
  else (if s.size < 20 then (M.zero, (s.size : Int), 2) else if badR s then (M.zero, 1, 5) else (hdM s, 20, 0))
theorem head_ashort {s : ByteArray} (h4 : bt s 0 = 4) (h : s.size < 2) : headP s = (M.zero, (s.size : Int), 2) := by unfold headP; rw [if_pos h4, if_pos h]
theorem head_abits {s : ByteArray} (h4 : bt s 0 = 4) (h : ¬ s.size < 2) (k : badA s) : headP s = (M.zero, 1, 5) := by unfold headP; rw [if_pos h4, if_neg h, if_pos k]
theorem head_ack {s : ByteArray} (h4 : bt s 0 = 4) (h : ¬ s.size < 2) (k : ¬ badA s) : headP s = (ackM, ((2 : Nat) : Int), 0) := by unfold headP; rw [if_pos h4, if_neg h, if_neg k]; rfl
theorem head_rshort {s : ByteArray} (h4 : ¬ bt s 0 = 4) (h : s.size < 20) : headP s = (M.zero, (s.size : Int), 2) := by unfold headP; rw [if_neg h4, if_pos h]
theorem head_rbits {s : ByteArray} (h4 : ¬ bt s 0 = 4) (h : ¬ s.size < 20) (k : badR s) : headP s = (M.zero, 1, 5) := by unfold headP; rw [if_neg h4, if_neg h, if_pos k]
theorem head_rep {s : ByteArray} (h4 : ¬ bt s 0 = 4) (h : ¬ s.size < 20) (k : ¬ badR s) : headP s = (hdM s, ((20 : Nat) : Int), 0) := by unfold headP; rw [if_neg h4, if_neg h, if_neg k]; rfl
/-- The message whose bytes these are, or nothing; the place, the error. -/
def outP (s : ByteArray) : M × Int × Int :=
  if (headP s).2.2 ≠ 0 then (M.zero, (headP s).2.1, (headP s).2.2)
  else if (outX (s.extract (headP s).2.1.toNat s.size)).2.2 = 0 then ({ (headP s).1 with sl := (outX (s.extract (headP s).2.1.toNat s.size)).1 }, 0, 0)
  else (M.zero, (headP s).2.1 + (outX (s.extract (headP s).2.1.toNat s.size)).2.1, (outX (s.extract (headP s).2.1.toNat s.size)).2.2)
theorem out_bad {s : ByteArray} {m : M} {i e : Int} (h : headP s = (m, i, e)) (he : e ≠ 0) : outP s = (M.zero, i, e) := by unfold outP; rw [h, if_pos he]
theorem out_ext {s : ByteArray} {r : M} {n : Nat} {l : List El} {i e : Int} (h : headP s = (r, (n : Int), 0)) (o : outX (s.extract n s.size) = (l, i, e)) (he : e ≠ 0) : outP s = (M.zero, n + i, e) := by
  unfold outP; rw [h]; simp only [Int.toNat_natCast]; rw [o, if_neg (by decide), if_neg he]
theorem out_yes {s : ByteArray} {r : M} {n : Nat} {l : List El} {i : Int} (h : headP s = (r, (n : Int), 0)) (o : outX (s.extract n s.size) = (l, i, 0)) : outP s = ({ r with sl := l }, 0, 0) := by
  unfold outP; rw [h]; simp only [Int.toNat_natCast]; rw [o, if_neg (by decide), if_pos rfl]

theorem cuts (c0 c1 c2 c3 : UInt8) (x1 x2 x3 x4 r : List UInt8) (h1 : x1.length = 4) (h2 : x2.length = 4) (h3 : x3.length = 4) (h4 : x4.length = 4) :
    ((c0 :: c1 :: c2 :: c3 :: (x1 ++ (x2 ++ (x3 ++ (x4 ++ r))))).drop 4).take 4 = x1 ∧ ((c0 :: c1 :: c2 :: c3 :: (x1 ++ (x2 ++ (x3 ++ (x4 ++ r))))).drop 8).take 4 = x2 ∧
    ((c0 :: c1 :: c2 :: c3 :: (x1 ++ (x2 ++ (x3 ++ (x4 ++ r))))).drop 12).take 4 = x3 ∧ ((c0 :: c1 :: c2 :: c3 :: (x1 ++ (x2 ++ (x3 ++ (x4 ++ r))))).drop 16).take 4 = x4 ∧
    (c0 :: c1 :: c2 :: c3 :: (x1 ++ (x2 ++ (x3 ++ (x4 ++ r))))).drop 20 = r ∧
    (c0 :: c1 :: c2 :: c3 :: (x1 ++ (x2 ++ (x3 ++ (x4 ++ r))))).length = 20 + r.length := by
  match x1, h1, x2, h2, x3, h3, x4, h4 with
  | [_, _, _, _], _, [_, _, _, _], _, [_, _, _, _], _, [_, _, _, _], _ => exact ⟨rfl, rfl, rfl, rfl, rfl, by simp; omega⟩
theorem four (t : List UInt8) (k : Nat) (l : List UInt8) (h : l.drop k = t) : t = (l.drop k).take 4 ++ l.drop (k + 4) := by
  rw [h, ← List.drop_drop, h, List.take_append_drop]
theorem parts (l : List UInt8) (h : 20 ≤ l.length) : l = l.getD 0 0 :: l.getD 1 0 :: l.getD 2 0 :: l.getD 3 0 :: ((l.drop 4).take 4 ++ ((l.drop 8).take 4 ++ ((l.drop 12).take 4 ++ ((l.drop 16).take 4 ++ l.drop 20)))) := by
  rw [← four (l.drop 16) 16 l rfl, ← four (l.drop 12) 12 l rfl, ← four (l.drop 8) 8 l rfl, ← four (l.drop 4) 4 l rfl]
  cases l with
  | nil => simp at h
  | cons a l => cases l with
    | nil => simp at h
    | cons b l => cases l with
      | nil => simp at h
      | cons c l => cases l with
        | nil => simp at h
        | cons d l => rfl
theorem parts2 (l : List UInt8) (h : 2 ≤ l.length) : l = l.getD 0 0 :: l.getD 1 0 :: l.drop 2 := by
  cases l with
  | nil => simp at h
  | cons a l => cases l with
    | nil => simp at h
    | cons b l => rfl
theorem len4 (s : ByteArray) (a : Nat) (h : a + 4 ≤ s.size) : ((s.data.toList.drop a).take 4).length = 4 := by simp; omega
theorem ext4 (s : ByteArray) (a b : Nat) (h : b = a + 4) : (s.extract a b).data.toList = (s.data.toList.drop a).take 4 := by subst h; rw [ext_list, Nat.add_sub_cancel_left]
theorem size_list (a : ByteArray) : a.data.toList.length = a.size := by simp

structure Nums (m : M) : Prop where
  f0 : 0 ≤ m.flags
  f1 : m.flags ≤ 3
  p0 : 0 ≤ m.plen
  p1 : m.plen ≤ 31
  hops : fitsB m.hops 1 = true
  seq : fitsB m.seq 4 = true
  interval : fitsB m.interval 4 = true
structure Reply (m : M) : Prop where
  nums : nums m = true
  addr : m.addr.size = 4
  orig : m.orig.size = 4
structure Ok (m : M) : Prop where
  bare : bare m = true
  subs : okX m.sl = true
  kind : m.kind = 6 ∨ m.kind = 4 ∧ reply m = true
theorem ok_iff (m : M) : okP m = true ↔ Ok m := by
  unfold okP
  simp only [Bool.and_eq_true, Bool.or_eq_true, decide_eq_true_eq]
  exact ⟨fun ⟨a, b, c⟩ => ⟨a, b, c⟩, fun ⟨a, b, c⟩ => ⟨a, b, c⟩⟩
theorem reply_iff (m : M) : reply m = true ↔ Reply m := by
  unfold reply
  simp only [Bool.and_eq_true, decide_eq_true_eq]
  exact ⟨fun ⟨a, b, c⟩ => ⟨a, b, c⟩, fun ⟨a, b, c⟩ => ⟨a, b, c⟩⟩
theorem nums_iff (m : M) : nums m = true ↔ Nums m := by
  unfold nums
  simp only [Bool.and_eq_true, decide_eq_true_eq]
  exact ⟨fun ⟨⟨a, b⟩, ⟨c, d⟩, e, f, g⟩ => ⟨a, b, c, d, e, f, g⟩, fun ⟨a, b, c, d, e, f, g⟩ => ⟨⟨a, b⟩, ⟨c, d⟩, e, f, g⟩⟩
theorem fits_one {n : Int} (h : fitsB n 1 = true) : 0 ≤ n ∧ n < 256 := by
  obtain ⟨_, _, h0, h1⟩ := (Oct.fitsB_iff n 1).1 h
  exact ⟨h0, by simpa [Oct.pw] using h1⟩
theorem one_fits {n : Int} (h0 : 0 ≤ n) (h1 : n < 256) : fitsB n 1 = true := (Oct.fitsB_iff n 1).2 ⟨by omega, by omega, h0, by simpa [Oct.pw] using h1⟩
theorem byte_of {n : Nat} (h : n < 256) : (UInt8.ofNat n).toNat = n := by rw [UInt8.toNat_ofNat']; omega
theorem own_rep {m : M} (h : m.kind = 4) : isKind m = true ∧ ownM m = { k4 m with kind := 4 } := by
  have hi : isKind m = true := by simp [isKind, h]
  exact ⟨hi, by simp [ownM, hi, fieldsOf, h]⟩
theorem own_ack {m : M} (h : m.kind = 6) : isKind m = true ∧ ownM m = { k6 m with kind := 6 } := by
  have hi : isKind m = true := by simp [isKind, h]
  exact ⟨hi, by simp [ownM, hi, fieldsOf, h]⟩

/-- A message that may be is that of its bytes. -/
theorem put_back (m : M) (h : okP m = true) : outP ⟨(encP m).toArray⟩ = ({ ownM m with sa := none, sc := 0 }, 0, 0) := by
  obtain ⟨_, hx, hk⟩ := (ok_iff m).1 h
  rcases hk with hk | ⟨hk, hr⟩
  · have hl : (⟨(encP m).toArray⟩ : ByteArray).data.toList = UInt8.ofNat 4 :: UInt8.ofNat 0 :: encX m.sl := by
      simp [encP, hd_ack hk]
    generalize (⟨(encP m).toArray⟩ : ByteArray) = s at *
    have hz : ¬ s.size < 2 := by rw [← size_list, hl, List.length_cons, List.length_cons]; omega
    have b0 : bt s 0 = 4 := by unfold bt; rw [hl]; rfl
    have b1 : bt s 1 = 0 := by unfold bt; rw [hl]; rfl
    have t : (s.extract 2 s.size).data.toList = encX m.sl := by
      rw [ext_list, hl]
      show (encX m.sl).take _ = _
      rw [List.take_of_length_le]
      rw [← size_list, hl, List.length_cons, List.length_cons]
      omega
    rw [out_yes (head_ack b0 hz (by unfold badA; omega)) (Xv.out_yes hx t), (own_ack hk).2]
    rfl
  · obtain ⟨hn, ha, ho⟩ := (reply_iff m).1 hr
    obtain ⟨f0, f1, p0, p1, n1, n2, n3⟩ := (nums_iff m).1 hn
    have hl : (⟨(encP m).toArray⟩ : ByteArray).data.toList = UInt8.ofNat 2 :: UInt8.ofNat (64 * m.flags.toNat) :: UInt8.ofNat m.plen.toNat :: UInt8.ofNat m.hops.toNat :: (m.addr.data.toList ++ (layN m.seq 4 ++ (m.orig.data.toList ++ (layN m.interval 4 ++ encX m.sl)))) := by
      simp [encP, hd_rep hk, hdR, List.append_assoc]
    generalize (⟨(encP m).toArray⟩ : ByteArray) = s at *
    obtain ⟨q1, q2, q3, q4, q6, q7⟩ := cuts (UInt8.ofNat 2) (UInt8.ofNat (64 * m.flags.toNat)) (UInt8.ofNat m.plen.toNat) (UInt8.ofNat m.hops.toNat) m.addr.data.toList (layN m.seq 4) m.orig.data.toList (layN m.interval 4) (encX m.sl) (by rw [size_list]; exact ha) (lay_len n2) (by rw [size_list]; exact ho) (lay_len n3)
    have hz : ¬ s.size < 20 := by rw [← size_list, hl, q7]; omega
    have b0 : ¬ bt s 0 = 4 := by unfold bt; rw [hl]; show ¬ ((UInt8.ofNat 2).toNat : Int) = 4; decide
    have b1 : bt s 1 = 64 * m.flags := by
      unfold bt
      rw [hl]
      show ((UInt8.ofNat (64 * m.flags.toNat)).toNat : Int) = _
      rw [byte_of (by omega)]
      omega
    have b2 : bt s 2 = m.plen := by
      unfold bt
      rw [hl]
      show ((UInt8.ofNat m.plen.toNat).toNat : Int) = _
      rw [byte_of (by omega)]
      omega
    obtain ⟨h0, h1⟩ := fits_one n1
    have b3 : bt s 3 = m.hops := by
      unfold bt
      rw [hl]
      show ((UInt8.ofNat m.hops.toNat).toNat : Int) = _
      rw [byte_of (by omega)]
      omega
    have t : (s.extract 20 s.size).data.toList = encX m.sl := by
      rw [ext_list, hl, q6, List.take_of_length_le]
      rw [← size_list, hl, q7]
      omega
    rw [out_yes (head_rep b0 hz (by unfold badR; omega)) (Xv.out_yes hx t), (own_rep hk).2]
    have e : hdM s = { k4 m with kind := 4, sa := none, sl := [], sc := 0 } := by
      unfold hdM k4 num4
      rw [b1, b2, b3, hl, q2, q4, lay_num n2, lay_num n3, text_eq (a := s.extract 4 8) (b := m.addr) (by rw [ext4 s 4 8 rfl, hl, q1]), text_eq (a := s.extract 12 16) (b := m.orig) (by rw [ext4 s 12 16 rfl, hl, q3]), show 64 * m.flags / 64 = m.flags by omega]
      rfl
    rw [e]
    rfl
/-- Bytes of what acknowledges are that one's. -/
theorem ack_back (s : ByteArray) (l : List El) (h0 : bt s 0 = 4) (h : ¬ s.size < 2) (k : ¬ badA s) (hx : okX l = true) (o : (s.extract 2 s.size).data.toList = encX l) :
    okP { ackM with sl := l } = true ∧ encP { ackM with sl := l } = s.data.toList := by
  have hl := parts2 s.data.toList (by rw [size_list]; omega)
  have e2 : s.data.toList.drop 2 = encX l := by
    rw [← o, ext_list, List.take_of_length_le]
    rw [List.length_drop, size_list]
    exact Nat.le_refl _
  have k2 : bt s 1 = 0 := by unfold badA at k; omega
  refine ⟨(ok_iff _).2 ⟨?_, hx, .inl rfl⟩, ?_⟩
  · unfold bare
    rw [(own_ack rfl).1, (own_ack rfl).2]
    unfold M.same M.flatE k6 ackM M.zero
    simp
  · unfold encP
    rw [hd_ack rfl]
    show 4 :: 0 :: encX l = _
    have c0 : (4 : UInt8) = s.data.toList.getD 0 0 := by
      refine UInt8.toNat_inj.1 ?_
      have : ((s.data.toList.getD 0 0).toNat : Int) = 4 := h0
      show 4 = _
      omega
    have c1 : (0 : UInt8) = s.data.toList.getD 1 0 := by
      refine UInt8.toNat_inj.1 ?_
      have : ((s.data.toList.getD 1 0).toNat : Int) = 0 := k2
      show 0 = _
      omega
    conv => rhs; rw [hl, ← c0, ← c1, e2]
/-- Bytes of a reply are that one's. -/
theorem rep_back (s : ByteArray) (l : List El) (h0 : bt s 0 = 2) (h : ¬ s.size < 20) (k : ¬ badR s) (hx : okX l = true) (o : (s.extract 20 s.size).data.toList = encX l) :
    okP { hdM s with sl := l } = true ∧ encP { hdM s with sl := l } = s.data.toList := by
  have hz : 20 ≤ s.data.toList.length := by rw [size_list]; omega
  have hl := parts _ hz
  have w1 := len4 s 4 (by omega)
  have w2 := len4 s 8 (by omega)
  have w3 := len4 s 12 (by omega)
  have w4 := len4 s 16 (by omega)
  have e20 : s.data.toList.drop 20 = encX l := by
    rw [← o, ext_list, List.take_of_length_le]
    rw [List.length_drop, size_list]
    exact Nat.le_refl _
  unfold badR at k
  have k1 : bt s 1 % 64 = 0 := by omega
  have k2 : bt s 2 ≤ 31 := by omega
  have p1 := bt_nn s 1
  have p2 := bt_lt s 1
  have p3 := bt_nn s 3
  have p4 := bt_lt s 3
  have p5 := bt_nn s 2
  refine ⟨(ok_iff _).2 ⟨?_, hx, .inr ⟨rfl, (reply_iff _).2 ⟨(nums_iff _).2 ⟨?_, ?_, ?_, ?_, ?_, ?_, ?_⟩, ?_, ?_⟩⟩⟩, ?_⟩
  · unfold bare
    rw [(own_rep rfl).1, (own_rep rfl).2]
    unfold M.same M.flatE k4 hdM M.zero
    simp
  · show 0 ≤ bt s 1 / 64; omega
  · show bt s 1 / 64 ≤ 3; omega
  · exact p5
  · exact k2
  · exact one_fits p3 p4
  · exact num_fits _ 4 w2 (by omega) (by omega)
  · exact num_fits _ 4 w4 (by omega) (by omega)
  · show (s.extract 4 8).size = 4; rw [← size_list, ext4 s 4 8 rfl]; exact w1
  · show (s.extract 12 16).size = 4; rw [← size_list, ext4 s 12 16 rfl]; exact w3
  · unfold encP
    rw [hd_rep rfl]
    unfold hdR
    show (2 :: UInt8.ofNat (64 * (bt s 1 / 64).toNat) :: UInt8.ofNat (bt s 2).toNat :: UInt8.ofNat (bt s 3).toNat :: ((s.extract 4 8).data.toList ++ (layN (num4 s 8) 4 ++ ((s.extract 12 16).data.toList ++ layN (num4 s 16) 4)))) ++ encX l = _
    unfold num4
    rw [num_lay _ 4 w2 (by omega) (by omega), num_lay _ 4 w4 (by omega) (by omega), ext4 s 4 8 rfl, ext4 s 12 16 rfl, ← e20]
    have c0 : (2 : UInt8) = s.data.toList.getD 0 0 := by
      refine UInt8.toNat_inj.1 ?_
      have : ((s.data.toList.getD 0 0).toNat : Int) = 2 := h0
      show 2 = _
      omega
    have c1 : UInt8.ofNat (64 * (bt s 1 / 64).toNat) = s.data.toList.getD 1 0 := by
      refine UInt8.toNat_inj.1 ?_
      have : ((s.data.toList.getD 1 0).toNat : Int) = bt s 1 := rfl
      rw [byte_of (by omega)]
      omega
    have c2 : UInt8.ofNat (bt s 2).toNat = s.data.toList.getD 2 0 := by
      refine UInt8.toNat_inj.1 ?_
      have : ((s.data.toList.getD 2 0).toNat : Int) = bt s 2 := rfl
      rw [byte_of (by omega)]
      omega
    have c3 : UInt8.ofNat (bt s 3).toNat = s.data.toList.getD 3 0 := by
      refine UInt8.toNat_inj.1 ?_
      have : ((s.data.toList.getD 3 0).toNat : Int) = bt s 3 := rfl
      rw [byte_of (by omega)]
      omega
    conv => rhs; rw [hl, ← c0, ← c1, ← c2, ← c3]
    simp only [List.cons_append, List.append_assoc]
/-- What a head comes to. -/
theorem head_cases (s : ByteArray) : (∃ i e, headP s = (M.zero, i, e) ∧ e ≠ 0 ∧ 0 ≤ i ∧ i ≤ s.size) ∨
    ∃ r, ∃ n : Nat, headP s = (r, (n : Int), 0) ∧ n ≤ 20 ∧ n ≤ s.size ∧ r.la = none ∧ r.lc = 0 ∧ r.ll = [] ∧
      (bt s 0 = 2 ∨ bt s 0 = 4 → ∀ l, okX l = true → (s.extract n s.size).data.toList = encX l → okP { r with sl := l } = true ∧ encP { r with sl := l } = s.data.toList) := by
  by_cases h4 : bt s 0 = 4
  · by_cases h : s.size < 2
    · exact .inl ⟨_, _, head_ashort h4 h, by decide, by omega, by omega⟩
    by_cases k : badA s
    · exact .inl ⟨_, _, head_abits h4 h k, by decide, by decide, by omega⟩
    exact .inr ⟨ackM, 2, head_ack h4 h k, by decide, by omega, rfl, rfl, rfl, fun _ l hx o => ack_back s l h4 h k hx o⟩
  · by_cases h : s.size < 20
    · exact .inl ⟨_, _, head_rshort h4 h, by decide, by omega, by omega⟩
    by_cases k : badR s
    · exact .inl ⟨_, _, head_rbits h4 h k, by decide, by decide, by omega⟩
    exact .inr ⟨hdM s, 20, head_rep h4 h k, by decide, by omega, rfl, rfl, rfl, fun h0 l hx o => rep_back s l (by omega) h k hx o⟩
/-- What bytes come to. -/
theorem out_cases (s : ByteArray) : (outP s).2.2 ≠ 0 ∧ (outP s).1 = M.zero ∧ 0 ≤ (outP s).2.1 ∧ (outP s).2.1 ≤ s.size ∨
    ((outP s).2.1 = 0 ∧ (outP s).2.2 = 0 ∧ (bt s 0 = 2 ∨ bt s 0 = 4 → okP (outP s).1 = true ∧ encP (outP s).1 = s.data.toList)) := by
  rcases head_cases s with ⟨i, e, h, he, h0, h1⟩ | ⟨r, n, h, _, hn, _, _, _, hb⟩
  · left
    rw [out_bad h he]
    exact ⟨he, rfl, h0, h1⟩
  rcases Xv.out_cases (s.extract n s.size) with ⟨l, h1, h2, h3⟩ | ⟨l, r', h1, h2, h3, h4, h5⟩
  · right
    rw [out_yes h h3]
    exact ⟨rfl, rfl, fun h0 => hb h0 l h1 h2⟩
  · left
    rw [out_ext h h5 (by decide)]
    refine ⟨by show (2 : Int) ≠ 0; decide, rfl, by simp only []; omega, ?_⟩
    have := congrArg List.length h2
    rw [List.length_append, size_list] at this
    simp at this
    simp only []
    omega
theorem hd_len {m : M} (h : okP m = true) : (hd m).length ≤ 20 := by
  obtain ⟨_, hx, hk⟩ := (ok_iff m).1 h
  rcases hk with hk | ⟨hk, hr⟩
  · rw [hd_ack hk]; decide
  · obtain ⟨hn, ha, ho⟩ := (reply_iff m).1 hr
    obtain ⟨f0, f1, p0, p1, n1, n2, n3⟩ := (nums_iff m).1 hn
    rw [hd_rep hk]
    unfold hdR
    simp only [List.length_append, List.length_cons, lay_len n2, lay_len n3, size_list, ha, ho]
    omega
theorem putP_size (m : M) (hl : m.sl.length ≤ 60) : (putP m).size ≤ 20000 := by
  cases h : okP m
  · rw [putP_no h]; decide
  · have := bytes_most ((ok_iff m).1 h).subs
    have h2 := hd_len h
    rw [putP_yes h]
    show (encP m).length ≤ _
    unfold encP
    rw [List.length_append, encX_len]
    omega
end Go.Proofs.Ytlelfapmleopaaa.Z1
