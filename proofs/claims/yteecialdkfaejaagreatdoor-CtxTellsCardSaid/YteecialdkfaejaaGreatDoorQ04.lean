/-
  TLVs that have prefixes: prefixes in an encoding, which requests may be, their bytes, which request or Update a TLV says: definitions on values alone, and facts on them. No conditions.
  What is known at a place, which Updates may be, what a TLV makes of what is known and tells: definitions on values alone, and facts on them. No conditions.
  Whether a message has few parts, of few bytes (the document's guard). No condition.
  A block of one's own that holds a struct's cells, whatever struct it is; an entry's fields; what fields' bytes are. No conditions. A region that draws its order: the store of a whole struct at its end, a struct built, a string's byte, a conversion. No conditions. A list of Subs of a call's own, one appended behind the other: its cells, and that its Subs stand in the world; one operation of a region that draws its order. No conditions. One operation of a region that draws its order, by hand: one alone, or two that may come next. No conditions.
  What stands beside a message's copy; the answer of a Get of messages with Subs alone: a message, whether it counts, an error; what few parts say. No conditions.
  Whether two lists of messages are the same: the program's answer (slices.EqualFunc) and the document's; whether a list has few messages. Condition: lists within of at most 2^20 elements.
  A list of messages of a call's own, one appended behind the other: its cells, and that its messages stand in the world. No conditions.
-/
import Derived.Test.YteecialdkfaejaaGreatDoorQ01
import Derived.Test.YteecialdkfaejaaGreatDoorQ02
import Derived.Test.YteecialdkfaejaaGreatDoorQ03
import Derived.Laws.Rows
import Derived.Laws.Tables
import Derived.OwnWalk
import Derived.Deep.WholeRow
import Derived.Deep.DeepCutAuto
import Derived.Deep.Cut
import Derived.IntWalk
import Derived.Laws.AppendOwn
namespace Go.Proofs.YteecialdkfaejaaGreatDoor.J1
open Go.ChangeShapes Go.WideShapes Go.ChangeAt Go.RowKit
open Go.Proofs.YteecialdkfaejaaGreatDoor.Ms
open Go.Proofs.YteecialdkfaejaaGreatDoor.S1
open Go.Proofs.YteecialdkfaejaaGreatDoor.Lk
open Go.Proofs.YteecialdkfaejaaGreatDoor.Nu
open Go.Proofs.YteecialdkfaejaaGreatDoor.Cur (numL)
open Go.Proofs.YteecialdkfaejaaGreatDoor.Oct (fitsB)
open Go.Proofs.YteecialdkfaejaaGreatDoor.Own (k12 k13 ownM isKind fieldsOf)
open Go.Proofs.YteecialdkfaejaaGreatDoor.Bits (keepL keepL_length keepL_get keepL_keep keepL_all mask mask_none cleanZ)
open Go.Proofs.YteecialdkfaejaaGreatDoor.Pre (leastN cutL fillL fillL_length rightZ keepL_take)
open Go.Proofs.YteecialdkfaejaaGreatDoor.F1 (bt bt_nn bt_lt num_one okT encT enc1 ok1 outT placed)
set_option linter.unusedVariables false
set_option maxRecDepth 100000
set_option maxRecDepth 100000

theorem size_list (a : ByteArray) : a.data.toList.length = a.size := by simp
theorem mk_size (l : List UInt8) : (ByteArray.mk l.toArray).size = l.length := by show l.toArray.size = _; simp
theorem right_keep (l : List UInt8) (n : Nat) (h4 : l.length = 4 ∨ l.length = 16) (h : n ≤ 8 * l.length) : rightZ ⟨(keepL l n).toArray⟩ n = true := by
  have hz : (ByteArray.mk (keepL l n).toArray).size = l.length := by rw [mk_size, keepL_length]
  unfold rightZ cleanZ
  rw [hz, Int.toNat_natCast]
  have e : keepL (ByteArray.mk (keepL l n).toArray).data.toList n = (ByteArray.mk (keepL l n).toArray).data.toList := by
    show keepL (keepL l n) n = _
    rw [keepL_keep, Nat.min_self]
  rw [decide_eq_true e]
  rcases h4 with h4 | h4 <;> simp [h4] <;> omega
theorem keep_append (a b : List UInt8) (n : Nat) : keepL (a ++ b) n = keepL a n ++ keepL b (n - 8 * a.length) := by
  unfold keepL
  rw [List.mapIdx_append]
  congr 2
  funext i b
  rw [show n - 8 * (i + a.length) = n - 8 * a.length - 8 * i by omega]
/-- The lengths of the prefixes of an encoding; how many bytes stand ahead of those of one; how many bytes one has. -/
def minA (ae : Int) : Int := if ae = 3 then 64 else 0
def maxA (ae : Int) : Int := if ae = 0 then 0 else if ae = 1 then 32 else 128
def lenB (ae p : Int) : Bool := decide (0 ≤ ae) && (decide (ae ≤ 3) && (decide (minA ae ≤ p) && decide (p ≤ maxA ae)))
def baseN (ae : Int) : Nat := if ae = 3 then 8 else 0
def countN (ae p : Int) : Nat := leastN p - baseN ae
/-- Is it an address of an encoding; a prefix in it? -/
def adrB (ae : Int) (a : ByteArray) : Bool := if ae = 0 then decide (a.size = 0) else if ae = 1 then decide (a.size = 4) else if ae = 2 then decide (a.size = 16) else if ae = 3 then link a else false
def inB (ae : Int) (a : ByteArray) (p : Int) : Bool := adrB ae a && (lenB ae p && (decide (ae = 0) || rightZ a p))
def wholeL (ae : Int) (s : ByteArray) : List UInt8 := if ae = 1 then fillL s.data.toList 4 else if ae = 2 then fillL s.data.toList 16 else if ae = 3 then lkH.data.toList ++ fillL s.data.toList 8 else []
def wholeP (ae : Int) (s : ByteArray) (p : Int) : ByteArray := ⟨(keepL (wholeL ae s) p.toNat).toArray⟩
theorem len_cases {ae p : Int} (h : lenB ae p = true) : (ae = 0 ∧ p = 0) ∨ (ae = 1 ∧ 0 ≤ p ∧ p ≤ 32) ∨ (ae = 2 ∧ 0 ≤ p ∧ p ≤ 128) ∨ (ae = 3 ∧ 64 ≤ p ∧ p ≤ 128) := by
  unfold lenB at h
  simp only [Bool.and_eq_true, decide_eq_true_eq] at h
  obtain ⟨h0, h1, h2, h3⟩ := h
  rcases (show ae = 0 ∨ ae = 1 ∨ ae = 2 ∨ ae = 3 by omega) with rfl | rfl | rfl | rfl
  · have h2 : (0 : Int) ≤ p := h2
    have h3 : p ≤ (0 : Int) := h3
    exact .inl ⟨rfl, by omega⟩
  · exact .inr (.inl ⟨rfl, h2, h3⟩)
  · exact .inr (.inr (.inl ⟨rfl, h2, h3⟩))
  · exact .inr (.inr (.inr ⟨rfl, h2, h3⟩))
theorem len_range {ae p : Int} (h : lenB ae p = true) : 0 ≤ ae ∧ ae ≤ 3 ∧ 0 ≤ p ∧ p ≤ 128 := by
  rcases len_cases h with ⟨rfl, rfl⟩ | ⟨rfl, a, b⟩ | ⟨rfl, a, b⟩ | ⟨rfl, a, b⟩ <;> omega
theorem count_le {ae p : Int} (h : lenB ae p = true) : countN ae p ≤ 16 ∧ countN ae p + baseN ae = leastN p := by
  rcases len_cases h with ⟨rfl, rfl⟩ | ⟨rfl, a, b⟩ | ⟨rfl, a, b⟩ | ⟨rfl, a, b⟩ <;> (unfold countN baseN leastN; simp <;> omega)
theorem right_cases {a : ByteArray} {p : Int} (h : rightZ a p = true) : 0 ≤ p ∧ p ≤ 8 * (a.size : Int) ∧ keepL a.data.toList p.toNat = a.data.toList := by
  unfold rightZ cleanZ at h
  simp only [Bool.and_eq_true, decide_eq_true_eq] at h
  exact h.2
theorem in_cases {ae : Int} {a : ByteArray} {p : Int} (h : inB ae a p = true) : lenB ae p = true ∧ ((ae = 0 ∧ a.size = 0) ∨ ((ae = 1 ∧ a.size = 4 ∨ ae = 2 ∧ a.size = 16 ∨ ae = 3 ∧ link a = true) ∧ p ≤ 8 * (a.size : Int) ∧ keepL a.data.toList p.toNat = a.data.toList)) := by
  unfold inB at h
  simp only [Bool.and_eq_true] at h
  obtain ⟨h0, h1, h2⟩ := h
  refine ⟨h1, ?_⟩
  rcases len_cases h1 with ⟨rfl, _⟩ | ⟨rfl, _⟩ | ⟨rfl, _⟩ | ⟨rfl, _⟩
  · exact .inl ⟨rfl, by simpa [adrB] using h0⟩
  · exact .inr ⟨.inl ⟨rfl, by simpa [adrB] using h0⟩, (right_cases (by simpa using h2)).2⟩
  · exact .inr ⟨.inr (.inl ⟨rfl, by simpa [adrB] using h0⟩), (right_cases (by simpa using h2)).2⟩
  · exact .inr ⟨.inr (.inr ⟨rfl, by simpa [adrB] using h0⟩), (right_cases (by simpa using h2)).2⟩
theorem whole_len {ae : Int} {s : ByteArray} {p : Int} (hl : lenB ae p = true) (hs : s.size = countN ae p) : (wholeL ae s).length = if ae = 0 then 0 else if ae = 1 then 4 else 16 := by
  rcases len_cases hl with ⟨rfl, rfl⟩ | ⟨rfl, a, b⟩ | ⟨rfl, a, b⟩ | ⟨rfl, a, b⟩
  · rfl
  · show (fillL s.data.toList 4).length = 4
    exact fillL_length _ _ (by rw [size_list, hs]; unfold countN leastN; omega)
  · show (fillL s.data.toList 16).length = 16
    exact fillL_length _ _ (by rw [size_list, hs]; unfold countN leastN; omega)
  · show (lkH.data.toList ++ fillL s.data.toList 8).length = 16
    rw [List.length_append, fillL_length _ _ (by rw [size_list, hs]; unfold countN leastN baseN; simp; omega)]
    rfl
/-- Bytes are those of a prefix. -/
theorem whole_in {ae : Int} {s : ByteArray} {p : Int} (hl : lenB ae p = true) (hs : s.size = countN ae p) : inB ae (wholeP ae s p) p = true := by
  have hn := whole_len hl hs
  unfold inB
  rw [hl]
  have hz : (wholeP ae s p).size = (wholeL ae s).length := by unfold wholeP; rw [mk_size, keepL_length]
  have hr : ∀ (h4 : (wholeL ae s).length = 4 ∨ (wholeL ae s).length = 16), 0 ≤ p → p ≤ 8 * ((wholeL ae s).length : Int) → rightZ (wholeP ae s p) p = true := fun h4 h0 h8 => by
    have := right_keep (wholeL ae s) p.toNat h4 (by omega)
    rw [Int.toNat_of_nonneg h0] at this
    exact this
  rcases len_cases hl with ⟨rfl, rfl⟩ | ⟨rfl, a, b⟩ | ⟨rfl, a, b⟩ | ⟨rfl, a, b⟩
  · rfl
  · rw [show adrB 1 (wholeP 1 s p) = true from decide_eq_true (by rw [hz, hn]; rfl), hr (.inl hn) a (by rw [hn]; exact b)]; rfl
  · rw [show adrB 2 (wholeP 2 s p) = true from decide_eq_true (by rw [hz, hn]; rfl), hr (.inr hn) a (by rw [hn]; exact b)]; rfl
  · have hk : link (wholeP 3 s p) = true := by
      rw [link_yes (by rw [hz, hn]; rfl)]
      unfold lkB
      have e : (wholeP 3 s p).extract 0 8 = lkH := text_eq (by
        rw [ext_list, List.drop_zero]
        show (keepL (lkH.data.toList ++ fillL s.data.toList 8) p.toNat).take 8 = _
        rw [keep_append, keepL_all _ _ (by show 8 * 8 ≤ p.toNat; omega)]
        exact List.take_left' rfl)
      rw [e, ByteArray.toList_eq]
      rfl
    rw [show adrB 3 (wholeP 3 s p) = true from hk, hr (.inr hn) (by omega) (by rw [hn]; exact b)]; rfl
/-- Is it bare? -/
def bare (m : M) : Bool := isKind m && M.same m (ownM m)
/-- What stands behind a TLV's fields: the prefix's bytes, the Subs, whether none must be known. -/
structure En where
  bytes : ByteArray
  sl : List El
  known : Bool
def En.zero : En := ⟨ByteArray.empty, [], false⟩
def restN (z : Nat) (ae p om : Int) : Nat := z + (countN ae p - om.toNat)
noncomputable def endE (s : ByteArray) (z : Nat) (ae p om : Int) : En × Bool × Int :=
  if s.size < z then (En.zero, false, 2)
  else if 3 < ae then (En.zero, false, 0)
  else if lenB ae p = false ∨ (countN ae p : Int) < om then (En.zero, false, 6)
  else if s.size < restN z ae p om then (En.zero, false, 2)
  else if (outS (s.extract (restN z ae p om) s.size)).2.2 = 0 then (⟨s.extract z (restN z ae p om), (outS (s.extract (restN z ae p om) s.size)).1, (outS (s.extract (restN z ae p om) s.size)).2.1⟩, true, 0)
  else (En.zero, false, (outS (s.extract (restN z ae p om) s.size)).2.2)
section
variable {s : ByteArray} {z : Nat} {ae p om : Int}
theorem end_short (h : s.size < z) : endE s z ae p om = (En.zero, false, 2) := by unfold endE; rw [if_pos h]
theorem end_none (h : ¬ s.size < z) (k : 3 < ae) : endE s z ae p om = (En.zero, false, 0) := by unfold endE; rw [if_neg h, if_pos k]
theorem end_range (h : ¬ s.size < z) (k : ¬ 3 < ae) (g : lenB ae p = false ∨ (countN ae p : Int) < om) : endE s z ae p om = (En.zero, false, 6) := by unfold endE; rw [if_neg h, if_neg k, if_pos g]
theorem end_cut (h : ¬ s.size < z) (k : ¬ 3 < ae) (g1 : lenB ae p = true) (g2 : ¬ (countN ae p : Int) < om) (c : s.size < restN z ae p om) : endE s z ae p om = (En.zero, false, 2) := by
  unfold endE; rw [if_neg h, if_neg k, if_neg (by rw [g1]; simpa using g2), if_pos c]
theorem end_sub {l : List El} {b : Bool} {e : Int} (h : ¬ s.size < z) (k : ¬ 3 < ae) (g1 : lenB ae p = true) (g2 : ¬ (countN ae p : Int) < om) (c : ¬ s.size < restN z ae p om) (o : outS (s.extract (restN z ae p om) s.size) = (l, b, e)) (n : ¬ e = 0) : endE s z ae p om = (En.zero, false, e) := by
  unfold endE; rw [if_neg h, if_neg k, if_neg (by rw [g1]; simpa using g2), if_neg c, o, if_neg n]
theorem end_yes {l : List El} {b : Bool} (h : ¬ s.size < z) (k : ¬ 3 < ae) (g1 : lenB ae p = true) (g2 : ¬ (countN ae p : Int) < om) (c : ¬ s.size < restN z ae p om) (o : outS (s.extract (restN z ae p om) s.size) = (l, b, 0)) : endE s z ae p om = (⟨s.extract z (restN z ae p om), l, b⟩, true, 0) := by
  unfold endE; rw [if_neg h, if_neg k, if_neg (by rw [g1]; simpa using g2), if_neg c, o, if_pos rfl]
/-- What stands behind the fields, if it does. -/
structure Got (s : ByteArray) (z : Nat) (ae p om : Int) (x : En) : Prop where
  eq : endE s z ae p om = (x, true, 0)
  size : restN z ae p om ≤ s.size
  ae3 : ¬ 3 < ae
  len : lenB ae p = true
  omle : om ≤ countN ae p
  bytes : x.bytes = s.extract z (restN z ae p om)
  sub : outS (s.extract (restN z ae p om) s.size) = (x.sl, x.known, 0)
  subs : okS x.sl = true
  fit : restN z ae p om + (putS x.sl).size ≤ s.size
theorem end_cases (s : ByteArray) (z : Nat) (ae p om : Int) : (∃ e, endE s z ae p om = (En.zero, false, e)) ∨ ∃ x, Got s z ae p om x := by
  by_cases h : s.size < z
  · exact .inl ⟨_, end_short h⟩
  by_cases k : 3 < ae
  · exact .inl ⟨_, end_none h k⟩
  cases g1 : lenB ae p
  · exact .inl ⟨_, end_range h k (.inl g1)⟩
  by_cases g2 : (countN ae p : Int) < om
  · exact .inl ⟨_, end_range h k (.inr g2)⟩
  by_cases c : s.size < restN z ae p om
  · exact .inl ⟨_, end_cut h k g1 g2 c⟩
  have hz := outS_ok (s.extract (restN z ae p om) s.size)
  obtain ⟨⟨l, b, e⟩, ho⟩ : ∃ q, outS (s.extract (restN z ae p om) s.size) = q := ⟨_, rfl⟩
  rw [ho] at hz
  by_cases n : e = 0
  · subst n
    have h2 : (putS l).size ≤ (s.extract (restN z ae p om) s.size).size := hz.2
    have h3 : (s.extract (restN z ae p om) s.size).size = s.size - restN z ae p om := by simp
    exact .inr ⟨_, end_yes h k g1 g2 c ho, by omega, k, g1, by omega, rfl, ho, hz.1, by show _ + (putS l).size ≤ _; omega⟩
  · exact .inl ⟨_, end_sub h k g1 g2 c ho n⟩
end
/-- The number of two bytes. -/
def num2 (d : ByteArray) (a : Nat) : Int := ((numL ((d.data.toList.drop a).take 2) : Nat) : Int)
theorem num2_fits {d : ByteArray} {a : Nat} (h : a + 2 ≤ d.size) : fitsB (num2 d a) 2 = true := num_fits _ 2 (by rw [List.length_take, List.length_drop, size_list]; omega) (by omega) (by omega)
theorem ext_to (d : ByteArray) (a : Nat) : (d.extract a d.size).data.toList = d.data.toList.drop a := by
  rw [ext_list, List.take_of_length_le (by rw [List.length_drop, size_list]; exact Nat.le_refl _)]
theorem ext_size (d : ByteArray) (a b : Nat) (h : b ≤ d.size) : (d.extract a b).size = b - a := by simp; omega
/-- An Update as it stands. -/
structure Up where
  ae : Int
  flags : Int
  plen : Int
  om : Int
  iv : Int
  seq : Int
  metric : Int
  hav : Int
  bytes : ByteArray
  sa : Option Addr
  sl : List El
  sc : Nat
def Up.zero : Up := ⟨0, 0, 0, 0, 0, 0, 0, 0, ByteArray.empty, none, [], 0⟩
def Up.cells (x : Up) : Array Value := #[.int .i64 x.ae, .int .i64 x.flags, .int .i64 x.plen, .int .i64 x.om, .int .i64 x.iv, .int .i64 x.seq, .int .i64 x.metric, .int .i64 x.hav, .string x.bytes, .slice x.sa x.sl.length x.sc]
def hdK (d : ByteArray) : Up := { Up.zero with ae := bt d 0, flags := bt d 1, plen := bt d 2, om := bt d 3, iv := num2 d 4, seq := num2 d 6, metric := num2 d 8 }
/-- The Update that a TLV is, whether it is one, the error. -/
noncomputable def outK (d : ByteArray) : Up × Bool × Int :=
  if (endE d 10 (bt d 0) (bt d 2) (bt d 3)).2.1 = true
  then ({ hdK d with hav := if (endE d 10 (bt d 0) (bt d 2) (bt d 3)).1.known then 1 else 0, bytes := (endE d 10 (bt d 0) (bt d 2) (bt d 3)).1.bytes, sl := (endE d 10 (bt d 0) (bt d 2) (bt d 3)).1.sl }, true, 0)
  else (Up.zero, false, (endE d 10 (bt d 0) (bt d 2) (bt d 3)).2.2)
theorem outK_no {d : ByteArray} {e : Int} (h : endE d 10 (bt d 0) (bt d 2) (bt d 3) = (En.zero, false, e)) : outK d = (Up.zero, false, e) := by
  unfold outK; rw [h, if_neg (fun x => by cases x)]
theorem outK_yes {d : ByteArray} {x : En} (h : endE d 10 (bt d 0) (bt d 2) (bt d 3) = (x, true, 0)) : outK d = ({ hdK d with hav := if x.known then 1 else 0, bytes := x.bytes, sl := x.sl }, true, 0) := by
  unfold outK; rw [h, if_pos rfl]
theorem outK_cases (d : ByteArray) : (∃ e, outK d = (Up.zero, false, e)) ∨ ∃ x, Got d 10 (bt d 0) (bt d 2) (bt d 3) x ∧ outK d = ({ hdK d with hav := if x.known then 1 else 0, bytes := x.bytes, sl := x.sl }, true, 0) := by
  rcases end_cases d 10 (bt d 0) (bt d 2) (bt d 3) with ⟨e, h⟩ | ⟨x, g⟩
  · exact .inl ⟨e, outK_no h⟩
  · exact .inr ⟨x, g, outK_yes g.eq⟩
end Go.Proofs.YteecialdkfaejaaGreatDoor.J1
namespace Go.Proofs.YteecialdkfaejaaGreatDoor.K1
open Go.ChangeShapes Go.WideShapes Go.ChangeAt Go.RowKit
open Go.Proofs.YteecialdkfaejaaGreatDoor.Ms
open Go.Proofs.YteecialdkfaejaaGreatDoor.S1
open Go.Proofs.YteecialdkfaejaaGreatDoor.Lk
open Go.Proofs.YteecialdkfaejaaGreatDoor.Nu
open Go.Proofs.YteecialdkfaejaaGreatDoor.J1
open Go.Proofs.YteecialdkfaejaaGreatDoor.Oct (fitsB)
open Go.Proofs.YteecialdkfaejaaGreatDoor.Own (k11 ownM isKind fieldsOf)
open Go.Proofs.YteecialdkfaejaaGreatDoor.Bits (keepL keepL_length)
open Go.Proofs.YteecialdkfaejaaGreatDoor.Pre (leastN fillL rightZ)
open Go.Proofs.YteecialdkfaejaaGreatDoor.F1 (bt bt_nn bt_lt)
set_option linter.unusedVariables false
set_option maxRecDepth 100000

/-- What is known at a place. -/
structure Kx where
  p0 : ByteArray
  p1 : ByteArray
  p2 : ByteArray
  p3 : ByteArray
  n0 : ByteArray
  n1 : ByteArray
  id : ByteArray
def Kx.zero : Kx := ⟨ByteArray.empty, ByteArray.empty, ByteArray.empty, ByteArray.empty, ByteArray.empty, ByteArray.empty, ByteArray.empty⟩
def Kx.cells (c : Kx) : Array Value := #[.string c.p0, .string c.p1, .string c.p2, .string c.p3, .string c.n0, .string c.n1, .string c.id]
/-- The default prefix of an encoding, the next hop of a family; with another one. -/
def Kx.pf (c : Kx) (ae : Int) : ByteArray := if ae = 1 then c.p1 else if ae = 2 then c.p2 else if ae = 3 then c.p3 else c.p0
def Kx.nx (c : Kx) (f : Int) : ByteArray := if f = 1 then c.n1 else c.n0
def Kx.setP (c : Kx) (ae : Int) (a : ByteArray) : Kx := if ae = 1 then { c with p1 := a } else if ae = 2 then { c with p2 := a } else if ae = 3 then { c with p3 := a } else { c with p0 := a }
def Kx.setN (c : Kx) (f : Int) (a : ByteArray) : Kx := if f = 1 then { c with n1 := a } else { c with n0 := a }
def emB (a : ByteArray) : Bool := decide (a.size = 0)
def okP (ae : Int) (a : ByteArray) : Bool := emB a || adrB ae a
def okN (k : Nat) (a : ByteArray) : Bool := emB a || decide (a.size = k)
/-- May it be? -/
def okC (c : Kx) : Bool := emB c.p0 && (okP 1 c.p1 && (okP 2 c.p2 && (okP 3 c.p3 && (okN 4 c.n0 && (okN 16 c.n1 && okN 8 c.id)))))
structure Okc (c : Kx) : Prop where
  p0 : c.p0.size = 0
  p1 : c.p1.size = 0 ∨ adrB 1 c.p1 = true
  p2 : c.p2.size = 0 ∨ adrB 2 c.p2 = true
  p3 : c.p3.size = 0 ∨ adrB 3 c.p3 = true
  n0 : c.n0.size = 0 ∨ c.n0.size = 4
  n1 : c.n1.size = 0 ∨ c.n1.size = 16
  id : c.id.size = 0 ∨ c.id.size = 8
theorem okc_iff (c : Kx) : okC c = true ↔ Okc c := by
  unfold okC okP okN emB
  simp only [Bool.and_eq_true, Bool.or_eq_true, decide_eq_true_eq]
  exact ⟨fun ⟨a, b, c, d, e, f, g⟩ => ⟨a, b, c, d, e, f, g⟩, fun ⟨a, b, c, d, e, f, g⟩ => ⟨a, b, c, d, e, f, g⟩⟩
theorem Okc.pf {c : Kx} (h : Okc c) {ae : Int} (h0 : 0 ≤ ae) (h3 : ae ≤ 3) : (c.pf ae).size = 0 ∨ (adrB ae (c.pf ae) = true ∧ ¬ ae = 0) := by
  rcases (show ae = 0 ∨ ae = 1 ∨ ae = 2 ∨ ae = 3 by omega) with rfl | rfl | rfl | rfl
  · exact .inl h.p0
  · exact h.p1.imp (fun x => x) (fun h => ⟨h, by decide⟩)
  · exact h.p2.imp (fun x => x) (fun h => ⟨h, by decide⟩)
  · exact h.p3.imp (fun x => x) (fun h => ⟨h, by decide⟩)
theorem Okc.setP {c : Kx} (h : Okc c) {ae : Int} {a : ByteArray} (h0 : 0 < ae) (h3 : ae ≤ 3) (ha : adrB ae a = true) : Okc (c.setP ae a) := by
  rcases (show ae = 1 ∨ ae = 2 ∨ ae = 3 by omega) with rfl | rfl | rfl
  · exact ⟨h.p0, .inr ha, h.p2, h.p3, h.n0, h.n1, h.id⟩
  · exact ⟨h.p0, h.p1, .inr ha, h.p3, h.n0, h.n1, h.id⟩
  · exact ⟨h.p0, h.p1, h.p2, .inr ha, h.n0, h.n1, h.id⟩
theorem Okc.setI {c : Kx} (h : Okc c) {a : ByteArray} (ha : a.size = 8) : Okc { c with id := a } := ⟨h.p0, h.p1, h.p2, h.p3, h.n0, h.n1, .inr ha⟩
/-- The family of an encoding's addresses, that of an address, the bytes of an encoding's address. -/
def fam (ae : Int) : Int := if ae = 1 then 0 else if ae = 2 ∨ ae = 3 then 1 else -1
def famA (a : ByteArray) : Int := if a.size = 4 then 0 else if a.size = 16 then 1 else -1
def sizeA (ae : Int) : Nat := if ae = 1 then 4 else if ae = 2 then 16 else if ae = 3 then 8 else 0
theorem Okc.setN {c : Kx} (h : Okc c) {ae : Int} {a : ByteArray} (h0 : 0 < ae) (h3 : ae ≤ 3) (ha : a.size = if ae = 1 then 4 else 16) : Okc (c.setN (fam ae) a) := by
  rcases (show ae = 1 ∨ ae = 2 ∨ ae = 3 by omega) with rfl | rfl | rfl
  · exact ⟨h.p0, h.p1, h.p2, h.p3, .inr ha, h.n1, h.id⟩
  · exact ⟨h.p0, h.p1, h.p2, h.p3, h.n0, .inr ha, h.id⟩
  · exact ⟨h.p0, h.p1, h.p2, h.p3, h.n0, .inr ha, h.id⟩
theorem Okc.nx {c : Kx} (h : Okc c) {ae : Int} (h0 : 0 < ae) (h3 : ae ≤ 3) : (c.nx (fam ae)).size = 0 ∨ famA (c.nx (fam ae)) = fam ae := by
  rcases (show ae = 1 ∨ ae = 2 ∨ ae = 3 by omega) with rfl | rfl | rfl
  · exact h.n0.imp (fun x => x) (fun h => by show famA c.n0 = 0; unfold famA; rw [if_pos h])
  · exact h.n1.imp (fun x => x) (fun h => by show famA c.n1 = 1; unfold famA; rw [if_neg (by omega), if_pos h])
  · exact h.n1.imp (fun x => x) (fun h => by show famA c.n1 = 1; unfold famA; rw [if_neg (by omega), if_pos h])

/-- Is it bare? Does an Update say who has the way, if there is one? -/
theorem is_11 {m : M} (h : m.kind = 11) : isKind m = true ∧ ownM m = { k11 m with kind := m.kind } := by
  have hi : isKind m = true := by simp [isKind, h]
  exact ⟨hi, by simp [ownM, hi, fieldsOf, h]⟩
def wayB (m : M) : Bool := if m.metric = 65535 then emB m.id && emB m.next else !decide (m.ae = 0) && (decide (m.id.size = 8) && (emB m.next || decide (famA m.next = fam m.ae)))
/-- May it be an Update? -/
def okU (m : M) : Bool := decide (m.kind = 11) && (bare m && (okS m.sl && (inB m.ae m.pfx m.plen && (fitsB m.interval 2 && (fitsB m.seq 2 && (fitsB m.metric 2 && wayB m))))))

/-- The sub-TLVs from a place on: whether none must be known, or an error. -/
noncomputable def fixO (d : ByteArray) (z : Nat) : Bool × Int := if d.size < z then (false, 2) else (outS (d.extract z d.size)).2
/-- What a router-id's TLV makes, what a next hop's. -/
noncomputable def out6 (c : Kx) (d : ByteArray) : Kx × List M × Int :=
  if (fixO d 10).2 = 0 ∧ (fixO d 10).1 = true then ({ c with id := d.extract 2 10 }, [], 0) else (c, [], (fixO d 10).2)
def hopA (ae : Int) (d : ByteArray) : ByteArray := if ae = 3 then lgA (d.extract 2 (2 + sizeA ae)) else d.extract 2 (2 + sizeA ae)
noncomputable def out7 (c : Kx) (d : ByteArray) : Kx × List M × Int :=
  if d.size < 2 then (c, [], 2)
  else if bt d 0 = 0 ∨ 3 < bt d 0 then (c, [], 0)
  else if (fixO d (2 + sizeA (bt d 0))).2 = 0 ∧ (fixO d (2 + sizeA (bt d 0))).1 = true then (c.setN (fam (bt d 0)) (hopA (bt d 0) d), [], 0)
  else (c, [], (fixO d (2 + sizeA (bt d 0))).2)
/-- An Update's address: the bytes that were left out are the default prefix's. -/
def omL (c : Kx) (u : Up) : List UInt8 := ((c.pf u.ae).data.toList.drop (baseN u.ae)).take u.om.toNat
def adrC (c : Kx) (u : Up) : ByteArray := wholeP u.ae ⟨(omL c u ++ u.bytes.data.toList).toArray⟩ u.plen
/-- The router-id that lies in an address. -/
def idA (a : ByteArray) : ByteArray := ⟨((List.replicate 8 0 ++ a.data.toList).drop a.size).toArray⟩
theorem idA_size (a : ByteArray) : (idA a).size = 8 := by
  unfold idA
  rw [mk_size, List.length_drop, List.length_append, List.length_replicate, size_list]
  omega
/-- What is known behind an Update by its flags. -/
def flagC (c : Kx) (u : Up) (a : ByteArray) : Kx :=
  if u.ae = 0 then c
  else if u.flags / 64 % 2 = 1 then { (if 128 ≤ u.flags then c.setP u.ae a else c) with id := idA a }
  else if 128 ≤ u.flags then c.setP u.ae a else c
/-- Is it told? The message. -/
def tellB (c : Kx) (u : Up) : Bool := !decide (u.hav = 0) && (decide (u.metric = 65535) || (!decide (u.ae = 0) && !emB c.id))
def updM (c : Kx) (u : Up) (a : ByteArray) : M :=
  { M.zero with kind := 11, ae := u.ae, pfx := a, plen := u.plen, interval := u.iv, seq := u.seq, metric := u.metric, sl := u.sl,
                id := if u.metric = 65535 then ByteArray.empty else c.id, next := if u.metric = 65535 then ByteArray.empty else c.nx (fam u.ae) }
def stU (c : Kx) (u : Up) : Kx × List M × Int :=
  if 0 < u.om ∧ (c.pf u.ae).size = 0 then (c, [], 9)
  else (flagC c u (adrC c u), if tellB (flagC c u (adrC c u)) u then [updM (flagC c u (adrC c u)) u (adrC c u)] else [], 0)
noncomputable def out8 (c : Kx) (d : ByteArray) : Kx × List M × Int := if (outK d).2.1 = true then stU c (outK d).1 else (c, [], (outK d).2.2)
/-- What a TLV of the types 6 to 8 makes of what is known, what it tells, the error. -/
noncomputable def outC (c : Kx) (t : Int) (d : ByteArray) : Kx × List M × Int := if t = 6 then out6 c d else if t = 7 then out7 c d else out8 c d

theorem fix_short {d : ByteArray} {z : Nat} (h : d.size < z) : fixO d z = (false, 2) := by unfold fixO; rw [if_pos h]
theorem fix_long {d : ByteArray} {z : Nat} (h : ¬ d.size < z) : fixO d z = (outS (d.extract z d.size)).2 := by unfold fixO; rw [if_neg h]
/-- A set of sub-TLVs that can't be told counts as none. -/
theorem fix_err {d : ByteArray} {z : Nat} (h : ¬ (fixO d z).2 = 0) : (fixO d z).1 = false := by
  unfold fixO at *
  split at h
  · rename_i k; rw [if_pos k]
  · rename_i k
    rw [if_neg k]
    rcases outS_cases (d.extract z d.size) with ⟨l, _, _, _, ⟨_, e⟩ | ⟨_, e⟩⟩ | ⟨p, _, e⟩
    · rw [e] at h; exact absurd rfl h
    · rw [e]
    · rw [e]
/-- An Update that counts. -/
structure Cnt (d : ByteArray) (u : Up) : Prop where
  ae0 : 0 ≤ u.ae
  ae3 : u.ae ≤ 3
  len : lenB u.ae u.plen = true
  om0 : 0 ≤ u.om
  omle : u.om ≤ countN u.ae u.plen
  size : u.bytes.size = countN u.ae u.plen - u.om.toNat
  subs : okS u.sl = true
  iv : fitsB u.iv 2 = true
  seq : fitsB u.seq 2 = true
  metric : fitsB u.metric 2 = true
  fl0 : 0 ≤ u.flags
  fl1 : u.flags < 256
theorem outK_cnt {d : ByteArray} (h : (outK d).2.1 = true) : Cnt d (outK d).1 ∧ (outK d).2.2 = 0 := by
  rcases outK_cases d with ⟨e, k⟩ | ⟨x, g, k⟩
  · rw [k] at h; cases h
  rw [k]
  have hl := len_range g.len
  have hs := g.size
  have h10 : 10 ≤ d.size := by unfold restN at hs; omega
  refine ⟨⟨hl.1, hl.2.1, g.len, bt_nn d 3, g.omle, ?_, g.subs, num2_fits (by omega), num2_fits (by omega), num2_fits (by omega), bt_nn d 1, bt_lt d 1⟩, rfl⟩
  show x.bytes.size = countN (bt d 0) (bt d 2) - (bt d 3).toNat
  rw [g.bytes, ext_size _ _ _ hs]
  unfold restN
  omega
theorem outK_two (d : ByteArray) : (∃ e, outK d = (Up.zero, false, e)) ∨ ∃ u, Cnt d u ∧ outK d = (u, true, 0) := by
  rcases outK_cases d with ⟨e, k⟩ | ⟨x, g, k⟩
  · exact .inl ⟨e, k⟩
  · have := outK_cnt (d := d) (by rw [k])
    rw [k] at this
    exact .inr ⟨_, this.1, k⟩
theorem adr_len {ae : Int} {a : ByteArray} (h : adrB ae a = true) (h0 : 0 < ae) (h3 : ae ≤ 3) : a.size = if ae = 1 then 4 else 16 := by
  rcases (show ae = 1 ∨ ae = 2 ∨ ae = 3 by omega) with rfl | rfl | rfl
  · simpa [adrB] using h
  · simpa [adrB] using h
  · have h : link a = true := h
    exact link_size h
/-- As many bytes as were left out stand in the default prefix. -/
theorem ahead_len {c : Kx} {d : ByteArray} {u : Up} (hc : Okc c) (g : Cnt d u) (h : ¬ (0 < u.om ∧ (c.pf u.ae).size = 0)) : (omL c u).length = u.om.toNat := by
  unfold omL
  rw [List.length_take, List.length_drop, size_list]
  by_cases h0 : u.om = 0
  · rw [h0]; simp
  have hp := hc.pf g.ae0 g.ae3
  have h1 := g.om0
  rcases hp with hp | ⟨hp, hz⟩
  · exact absurd ⟨by omega, hp⟩ h
  have hl := adr_len hp (by have := g.ae0; omega) g.ae3
  have h2 := g.omle
  have hcl := count_le g.len
  rcases len_cases g.len with ⟨e, _⟩ | ⟨e, _, k⟩ | ⟨e, _, k⟩ | ⟨e, _, k⟩
  · exact absurd e hz
  · rw [e] at hl hcl h2 ⊢
    have : countN 1 u.plen ≤ 4 := by unfold countN leastN baseN; simp; omega
    have hb : baseN 1 = 0 := rfl
    simp only [if_pos] at hl
    omega
  · rw [e] at hl hcl h2 ⊢
    have hb : baseN 2 = 0 := rfl
    rw [if_neg (by decide)] at hl
    omega
  · rw [e] at hl hcl h2 ⊢
    have hb : baseN 3 = 8 := rfl
    have : countN 3 u.plen ≤ 8 := by unfold countN leastN baseN; simp; omega
    rw [if_neg (by decide)] at hl
    omega
theorem whole_size {c : Kx} {d : ByteArray} {u : Up} (hc : Okc c) (g : Cnt d u) (h : ¬ (0 < u.om ∧ (c.pf u.ae).size = 0)) : (ByteArray.mk (omL c u ++ u.bytes.data.toList).toArray).size = countN u.ae u.plen := by
  rw [mk_size, List.length_append, ahead_len hc g h, size_list, g.size]
  have := g.omle
  have := g.om0
  omega
theorem adr_in {c : Kx} {d : ByteArray} {u : Up} (hc : Okc c) (g : Cnt d u) (h : ¬ (0 < u.om ∧ (c.pf u.ae).size = 0)) : inB u.ae (adrC c u) u.plen = true := whole_in g.len (whole_size hc g h)
theorem in_adr {ae : Int} {a : ByteArray} {p : Int} (h : inB ae a p = true) : adrB ae a = true := by unfold inB at h; rw [Bool.and_eq_true] at h; exact h.1
theorem flag_ok {c : Kx} {d : ByteArray} {u : Up} {a : ByteArray} (hc : Okc c) (g : Cnt d u) (ha : adrB u.ae a = true) : Okc (flagC c u a) := by
  unfold flagC
  by_cases h0 : u.ae = 0
  · rw [if_pos h0]; exact hc
  rw [if_neg h0]
  have h1 : 0 < u.ae := by have := g.ae0; omega
  have hp := hc.setP h1 g.ae3 ha
  by_cases k : u.flags / 64 % 2 = 1
  · rw [if_pos k]
    split
    · exact hp.setI (idA_size a)
    · exact hc.setI (idA_size a)
  · rw [if_neg k]
    split
    · exact hp
    · exact hc
theorem em_size {a : ByteArray} : emB a = true ↔ a.size = 0 := by unfold emB; exact decide_eq_true_iff
/-- What is told may be. -/
theorem upd_ok {c : Kx} {d : ByteArray} {u : Up} {a : ByteArray} (hc : Okc c) (g : Cnt d u) (hi : inB u.ae a u.plen = true) (ht : tellB c u = true) : okU (updM c u a) = true := by
  have hb : bare (updM c u a) = true := by
    unfold bare
    rw [(is_11 (m := updM c u a) rfl).1, (is_11 (m := updM c u a) rfl).2]
    unfold M.same M.flatE k11 updM M.zero
    simp
  have hw : wayB (updM c u a) = true := by
    unfold wayB
    unfold tellB at ht
    by_cases hm : u.metric = 65535
    · rw [if_pos (show (updM c u a).metric = 65535 from hm)]
      have e1 : (updM c u a).id = ByteArray.empty := by unfold updM; simp [hm]
      have e2 : (updM c u a).next = ByteArray.empty := by unfold updM; simp [hm]
      rw [e1, e2]
      rfl
    · rw [if_neg (show ¬ (updM c u a).metric = 65535 from hm)]
      rw [decide_eq_false hm] at ht
      simp only [Bool.and_eq_true, Bool.or_eq_true, Bool.not_eq_true', Bool.false_eq_true, false_or, decide_eq_false_iff_not] at ht
      obtain ⟨_, h0, hz⟩ := ht
      have e1 : (updM c u a).id = c.id := by unfold updM; simp [hm]
      have e2 : (updM c u a).next = c.nx (fam u.ae) := by unfold updM; simp [hm]
      have e3 : (updM c u a).ae = u.ae := rfl
      have h8 : c.id.size = 8 := hc.id.resolve_left (fun h => by rw [em_size.2 h] at hz; cases hz)
      rw [e1, e2, e3, decide_eq_false h0, decide_eq_true h8]
      have := hc.nx (ae := u.ae) (by have := g.ae0; omega) g.ae3
      rcases this with h | h
      · rw [em_size.2 h]; rfl
      · rw [decide_eq_true h]; simp
  unfold okU
  rw [hb, hw]
  show (decide ((11 : Int) = 11) && (true && (okS u.sl && (inB u.ae a u.plen && (fitsB u.iv 2 && (fitsB u.seq 2 && (fitsB u.metric 2 && true))))))) = true
  rw [g.subs, hi, g.iv, g.seq, g.metric]
  rfl
/-- What a TLV comes to. -/
theorem stU_err {c : Kx} {u : Up} (h : 0 < u.om ∧ (c.pf u.ae).size = 0) : stU c u = (c, [], 9) := by unfold stU; rw [if_pos h]
theorem stU_yes {c : Kx} {u : Up} (h : ¬ (0 < u.om ∧ (c.pf u.ae).size = 0)) : stU c u = (flagC c u (adrC c u), if tellB (flagC c u (adrC c u)) u then [updM (flagC c u (adrC c u)) u (adrC c u)] else [], 0) := by unfold stU; rw [if_neg h]
theorem out8_no {c : Kx} {d : ByteArray} {e : Int} (h : outK d = (Up.zero, false, e)) : out8 c d = (c, [], e) := by unfold out8; rw [h, if_neg (by simp)]
theorem out8_yes {c : Kx} {d : ByteArray} {u : Up} (h : outK d = (u, true, 0)) : out8 c d = stU c u := by unfold out8; rw [h, if_pos rfl]
structure Good (c : Kx) (p : Kx × List M × Int) : Prop where
  ok : okC p.1 = true
  told : p.2.1 = [] ∨ ∃ m, p.2.1 = [m] ∧ okU m = true ∧ m.la = none ∧ m.ll = [] ∧ m.lc = 0
  err : ¬ p.2.2 = 0 → p = (c, [], p.2.2)
theorem good_same {c : Kx} (hc : okC c = true) (e : Int) : Good c (c, [], e) := ⟨hc, .inl rfl, fun _ => rfl⟩
theorem good_ctx {c c' : Kx} (hc : okC c' = true) : Good c (c', [], 0) := ⟨hc, .inl rfl, fun h => absurd rfl h⟩
theorem hop_size {ae : Int} {d : ByteArray} (h0 : 0 < ae) (h3 : ae ≤ 3) (hd : ¬ d.size < 2 + sizeA ae) : (hopA ae d).size = if ae = 1 then 4 else 16 := by
  rcases (show ae = 1 ∨ ae = 2 ∨ ae = 3 by omega) with rfl | rfl | rfl
  · have : sizeA 1 = 4 := rfl
    show (d.extract 2 6).size = 4
    rw [ext_size _ _ _ (by omega)]
  · have : sizeA 2 = 16 := rfl
    show (d.extract 2 18).size = 16
    rw [ext_size _ _ _ (by omega)]
  · have : sizeA 3 = 8 := rfl
    show (lgA (d.extract 2 10)).size = 16
    exact link_size (link_lg (by rw [ext_size _ _ _ (by omega)])).1
theorem out_good {c : Kx} (t : Int) (d : ByteArray) (hc : okC c = true) : Good c (outC c t d) := by
  have ho := (okc_iff c).1 hc
  unfold outC
  by_cases h6 : t = 6
  · rw [if_pos h6]
    unfold out6
    by_cases k : (fixO d 10).2 = 0 ∧ (fixO d 10).1 = true
    · rw [if_pos k]
      have hz : ¬ d.size < 10 := fun h => by rw [fix_short h] at k; cases k.2
      exact good_ctx ((okc_iff _).2 (ho.setI (by rw [ext_size _ _ _ (by omega)])))
    · rw [if_neg k]; exact good_same hc _
  rw [if_neg h6]
  by_cases h7 : t = 7
  · rw [if_pos h7]
    unfold out7
    by_cases k1 : d.size < 2
    · rw [if_pos k1]; exact good_same hc _
    rw [if_neg k1]
    by_cases k2 : bt d 0 = 0 ∨ 3 < bt d 0
    · rw [if_pos k2]; exact good_same hc _
    rw [if_neg k2]
    by_cases k : (fixO d (2 + sizeA (bt d 0))).2 = 0 ∧ (fixO d (2 + sizeA (bt d 0))).1 = true
    · rw [if_pos k]
      have hz : ¬ d.size < 2 + sizeA (bt d 0) := fun h => by rw [fix_short h] at k; cases k.2
      have := bt_nn d 0
      exact good_ctx ((okc_iff _).2 (ho.setN (by omega) (by omega) (hop_size (by omega) (by omega) hz)))
    · rw [if_neg k]; exact good_same hc _
  rw [if_neg h7]
  rcases outK_two d with ⟨e, h⟩ | ⟨u, g, h⟩
  · rw [out8_no h]; exact good_same hc _
  rw [out8_yes h]
  by_cases hx : 0 < u.om ∧ (c.pf u.ae).size = 0
  · rw [stU_err hx]; exact good_same hc _
  rw [stU_yes hx]
  have hi := adr_in ho g hx
  have hf := flag_ok ho g (in_adr hi)
  refine ⟨(okc_iff _).2 hf, ?_, fun h => absurd rfl h⟩
  by_cases ht : tellB (flagC c u (adrC c u)) u = true
  · exact .inr ⟨_, by show (if _ then _ else _) = _; rw [if_pos ht], upd_ok hf g hi ht, rfl, rfl, rfl⟩
  · exact .inl (by show (if _ then _ else _) = _; rw [if_neg ht])
theorem out_short {c : Kx} (t : Int) (d : ByteArray) (hc : okC c = true) : ∀ m ∈ (outC c t d).2.1, m.la = none ∧ m.ll = [] ∧ m.lc = 0 ∧ m.sl.length ≤ 100 ∧ ∀ x ∈ m.sl, x.1.size ≤ 1099511627776 := by
  intro m hm
  rcases (out_good t d hc).told with h | ⟨n, h, ho, h1, h2, h3⟩
  · rw [h] at hm; exact absurd hm (by simp)
  · rw [h] at hm
    rw [List.mem_singleton.1 hm]
    have hs : okS n.sl = true := by
      unfold okU at ho
      simp only [Bool.and_eq_true] at ho
      exact ho.2.2.1
    exact ⟨h1, h2, h3, okS_len hs, okS_mem hs⟩

end Go.Proofs.YteecialdkfaejaaGreatDoor.K1
namespace Go.Proofs.YteecialdkfaejaaGreatDoor.Few
open Go.ChangeShapes Go.WideShapes Go.ChangeAt Go.RowKit
open Go.Proofs.YteecialdkfaejaaGreatDoor.Ms
open Go.Proofs.YteecialdkfaejaaGreatDoor.Box
open Go.Proofs.YteecialdkfaejaaGreatDoor.Same
open Go.Proofs.YteecialdkfaejaaGreatDoor.Cnt
set_option linter.unusedVariables false
set_option maxRecDepth 100000

def small (n : Nat) (l : List El) : Bool := l.all fun x => decide (x.1.size ≤ n)
theorem small_take (n : Nat) (l : List El) (k : Nat) (h : k < l.length) : small n (l.take (k + 1)) = (small n (l.take k) && decide (l[k].1.size ≤ n)) := by
  unfold small
  rw [List.take_succ_eq_append_getElem h, List.all_append]
  simp
theorem small_not (n : Nat) (l : List El) (k : Nat) (h : k < l.length) (hn : n < l[k].1.size) : small n l = false := by
  unfold small
  rw [List.all_eq_false]
  exact ⟨l[k], List.getElem_mem h, by simp; omega⟩
/-- Few parts, of few bytes? -/
def fewB (m : M) : Bool := decide (m.ll.length ≤ 300) && decide (m.sl.length ≤ 60) && decide (wrap64 ((m.auth.size : Int) + m.pfx.size) ≤ 200) && decide (wrap64 ((m.next.size : Int) + m.id.size) ≤ 200) && decide (wrap64 ((m.addr.size : Int) + m.orig.size) ≤ 200) && decide (m.data.size ≤ 300) && small 50 m.ll && small 300 m.sl
set_option maxHeartbeats 3200000 in
set_option maxRecDepth 100000 in
theorem few_any (m : M) (w : World) (hd : DRow w m.la m.ll) (hs : SRow w m.sa m.sl) :
    Calls Tryz.prog 4 #[.agg m.cells] w fun e w' => e = .returned (.bool (fewB m)) ∧ Below w.heap.size w w' := by
  have bel := balloc (Below.refl _ w) (.cells m.cells 31)
  have hd := hd.below (balloc (Below.refl _ w) (.cells m.cells 31))
  have hs := hs.below (balloc (Below.refl _ w) (.cells m.cells 31))
  have b0 := Bx.new w m
  have HFB := Lib.hid (show fewB m = (decide (m.ll.length ≤ 300) && decide (m.sl.length ≤ 60) && decide (wrap64 ((m.auth.size : Int) + m.pfx.size) ≤ 200) && decide (wrap64 ((m.next.size : Int) + m.id.size) ≤ 200) && decide (wrap64 ((m.addr.size : Int) + m.orig.size) ≤ 200) && decide (m.data.size ≤ 300) && small 50 m.ll && small 300 m.sl) from rfl)
  go_enter Tryz.func4, Tryz.ntmps4
  go_upto_region 1 with fail
  generalize w.alloc (.cells m.cells 31) = V at *
  have c3 := b0.cs.c3
  have c6 := b0.cs.c6
  have c9 := b0.cs.c9
  have c11 := b0.cs.c11
  have c19 := b0.cs.c19
  have c20 := b0.cs.c20
  have c21 := b0.cs.c21
  have c23 := b0.cs.c23
  have c24 := b0.cs.c24
  clear b0
  by_cases h1 : 300 < m.ll.length
  · go_wp2
    go_ret
    exact ⟨bool_eq (by rw [HFB.out]; simp; omega), bel⟩
  by_cases h2 : 60 < m.sl.length
  · go_wp2
    go_ret
    exact ⟨bool_eq (by rw [HFB.out]; simp; omega), bel⟩
  by_cases h3 : 200 < wrap64 ((m.auth.size : Int) + m.pfx.size)
  · go_wp2
    go_ret
    exact ⟨bool_eq (by rw [HFB.out]; simp; omega), bel⟩
  by_cases h4 : 200 < wrap64 ((m.next.size : Int) + m.id.size)
  · go_wp2
    go_ret
    exact ⟨bool_eq (by rw [HFB.out]; simp; omega), bel⟩
  by_cases h5 : 200 < wrap64 ((m.addr.size : Int) + m.orig.size)
  · go_wp2
    go_ret
    exact ⟨bool_eq (by rw [HFB.out]; simp; omega), bel⟩
  by_cases h6 : 300 < m.data.size
  · go_wp2
    go_ret
    exact ⟨bool_eq (by rw [HFB.out]; simp; omega), bel⟩
  have HF2 : Hid (fewB m = (small 50 m.ll && small 300 m.sl)) := Lib.hid (by rw [HFB.out]; simp [show m.ll.length ≤ 300 by omega, show m.sl.length ≤ 60 by omega, show wrap64 ((m.auth.size : Int) + m.pfx.size) ≤ 200 by omega, show wrap64 ((m.next.size : Int) + m.id.size) ≤ 200 by omega, show wrap64 ((m.addr.size : Int) + m.orig.size) ≤ 200 by omega, show m.data.size ≤ 300 by omega])
  clear HFB
  go_upto_region 3 with fail
  have l1 : m.ll.length ≤ 300 := by omega
  have l2 : m.sl.length ≤ 60 := by omega
  clear h1 h2 h3 h4 h5 h6 c3 c6 c9 c11 c19 c20 c23
  generalize m.ll = x at *
  generalize m.sl = y at *
  go_wp2
  go_loopw [3] (fun i wr => ∃ k : Nat, k ≤ x.length ∧ i = .int .i64 k ∧ Hid (small 50 (x.take k) = true) ∧ wr = V) (fun i _ => x.length - (intOf i).toNat)
  case atStart => exact ⟨0, Nat.zero_le _, rfl, Lib.hid rfl, rfl⟩
  case round =>
    obtain ⟨k, hk, rfl, HN, rfl⟩ := hrel
    by_cases hlt : k < x.length
    · obtain ⟨p, hp, _, d0, _⟩ := hd k hlt
      rw [hp] at c21
      have HT := Lib.hid (small_take 50 x k hlt)
      have HF := Lib.hid (small_not 50 x k hlt)
      clear hd hs hp c24
      generalize x[k] = u at *
      obtain ⟨s, n⟩ := u
      by_cases h1 : 50 < s.size
      · go_wp2
        go_ret
        exact ⟨bool_eq (by rw [HF2.out, HF.out h1]; simp), bel⟩
      · go_wp2
        go_roundw
        case rel => exact ⟨k + 1, hlt, by go_num, Lib.hid (by rw [HT.out, HN.out]; simp; omega), by first | rfl | trivial⟩
        case measure => simp [intOf]; omega
    · obtain rfl : k = x.length := by omega
      have HX : Hid (small 50 x = true) := Lib.hid (by have := HN.out; rwa [List.take_length] at this)
      clear HN hd
      go_wp2
      go_loopw [4] (fun i wr2 => ∃ k : Nat, k ≤ y.length ∧ i = .int .i64 k ∧ Hid (small 300 (y.take k) = true) ∧ wr2 = wr) (fun i _ => y.length - (intOf i).toNat)
      case atStart => exact ⟨0, Nat.zero_le _, rfl, Lib.hid rfl, rfl⟩
      case round =>
        obtain ⟨k, hk, rfl, HN, rfl⟩ := hrel
        by_cases hlt : k < y.length
        · obtain ⟨p, hp, _, _, d1⟩ := hs k hlt
          rw [hp] at c24
          have HT := Lib.hid (small_take 300 y k hlt)
          have HF := Lib.hid (small_not 300 y k hlt)
          clear hs hp c21
          rw [add_one] at d1
          generalize y[k] = u at *
          obtain ⟨s, n⟩ := u
          by_cases h1 : 300 < s.size
          · go_wp2
            go_ret
            exact ⟨bool_eq (by rw [HF2.out, HF.out h1]; simp), bel⟩
          · go_wp2
            go_roundw
            case rel => exact ⟨k + 1, hlt, by go_num, Lib.hid (by rw [HT.out, HN.out]; simp; omega), by first | rfl | trivial⟩
            case measure => simp [intOf]; omega
        · obtain rfl : k = y.length := by omega
          have HY : Hid (small 300 y = true) := Lib.hid (by have := HN.out; rwa [List.take_length] at this)
          clear HN hs
          go_wp2
          go_ret
          exact ⟨bool_eq (by rw [HF2.out, HX.out, HY.out]; rfl), bel⟩
end Go.Proofs.YteecialdkfaejaaGreatDoor.Few
namespace Go.Proofs.YteecialdkfaejaaGreatDoor.Bk
open Go.ChangeShapes Go.WideShapes Go.ChangeAt Go.RowKit
open Go.Proofs.YteecialdkfaejaaGreatDoor.Cur
open Go.Proofs.YteecialdkfaejaaGreatDoor.Oct
set_option linter.unusedVariables false
set_option maxRecDepth 100000

theorem alloc_size (w : World) (o : Obj) : (w.alloc o).heap.size = w.heap.size + 1 := by show (w.heap.push o).size = _; simp
theorem below_setRow {B : Nat} {a w : World} (h : Below B a w) {g : Nat} (hg : B ≤ g) (cs : Array Value) : Below B a (w.setRow g cs) :=
  h.trans ⟨rfl, rfl, rfl, by simp, fun k hk => setRow_other w g k cs (by omega)⟩

/-- Block b holds the cells cs of a struct of type t. -/
def Bk (t : TypeId) (w : World) (b : Nat) (cs : Array Value) : Prop := w.heap[b]? = some (.cells cs t (0, 0))
section
variable {t : TypeId} {w w' : World} {b : Nat} {cs cs' : Array Value}
theorem Bk.lt (h : Bk t w b cs) : b < w.heap.size := (Array.getElem?_eq_some_iff.1 h).1
theorem Bk.below (h : Bk t w b cs) (hb : Below w.heap.size w w') : Bk t w' b cs := (hb.block b h.lt).trans h
theorem Bk.new (t : TypeId) (w : World) (cs : Array Value) : Bk t (w.alloc (.cells cs t)) w.heap.size cs := heap_alloc_new w _
theorem Bk.old (h : Bk t w b cs) (o : Obj) : Bk t (w.alloc o) b cs := (heap_alloc_old w o h.lt).trans h
theorem Bk.row {g : Nat} (h : Bk t w b cs) (hn : b ≠ g) (cs' : Array Value) : Bk t (w.setRow g cs') b cs := (setRow_other w g b cs' hn).trans h
theorem Bk.put (h : Bk t w b cs) (cs' : Array Value) : Bk t (w.setRow b cs') b cs' := setRow_heap w b cs cs' _ _ h
theorem Bk.set {i : Nat} {v : Value} (h : Bk t w b cs) (hm : cs.setIfInBounds i v = cs') : Bk t (w.setCell ⟨b, i, none⟩ v) b cs' := by
  have := heap_setCell_same w b i cs t v h
  rw [hm] at this
  exact this
theorem Bk.off (h : Bk t w b cs) {p : Addr} (hn : b ≠ p.block) (v : Value) : Bk t (w.setCell p v) b cs := (heap_setCell_other w p b v hn).trans h
theorem Bk.drew (h : Bk t w b cs) : Bk t w.drew b cs := h
theorem Bk.cell (h : Bk t w b cs) (j : Nat) (v : Value) (hv : cs[j]? = some v) : w.cell? ⟨b, j, none⟩ = some v := by
  rw [cell_of_row w b j cs _ _ h, hv]
theorem Bk.frozen (h : Bk t w b cs) (j : Nat) : w.frozen? ⟨b, j, none⟩ = false := frozen_of_row w b j cs _ h
end

/-- ty is a struct of n cells. -/
def Sh (P : Program) (ty : TypeId) (n : Nat) : Prop := ∃ fs, P.underlying ty = some (.struct fs) ∧ (P.info? ty).map (·.size) = some n
section
variable {P : Program}
theorem wpList_loadK {ops : Array Oper} {rest : List Oper} {o : Oper} {a : Act} {w : World} {Q : Exit → Act → World → Prop} {ty tb : TypeId} {n : Nat} (hs : Sh P ty n)
    (hgd : o.guard = none) (x : Operand) (ho : o.op = .load ty x) {b : Nat} (hx : a.eval x = .pointer (some ⟨b, 0, none⟩)) {cs : Array Value} (hb : Bk tb w b cs) (hn : cs.size = n)
    (h : wpList P ops Q rest (a.put o.dst (.agg cs)) w) : wpList P ops Q (o :: rest) a w := by
  subst hn
  obtain ⟨d, h1, h3⟩ := hs
  exact wpList_load_row hgd ty x ho b hx tb cs (0, 0) _ hb h1 rfl h3 h
theorem wpList_storeK {ops : Array Oper} {rest : List Oper} {o : Oper} {a : Act} {w : World} {Q : Exit → Act → World → Prop} {ty tb : TypeId} {n : Nat} (hs : Sh P ty n)
    (hgd : o.guard = none) (x y : Operand) (ho : o.op = .store ty x y) {b : Nat} (hx : a.eval x = .pointer (some ⟨b, 0, none⟩)) {cs cs' : Array Value} (hy : a.eval y = .agg cs') (hb : Bk tb w b cs) (hn : cs.size = n) (hn' : cs'.size = n) (h1 : (cs'.all fun x => x.oneCell') = true)
    (h : wpList P ops Q rest (a.put o.dst undef) (w.setRow b cs')) : wpList P ops Q (o :: rest) a w := by
  obtain ⟨d, _, h3⟩ := hs
  exact wpList_store_row hgd ty x y ho b cs' hx hy tb cs hb (by rw [h3, hn']) (by rw [hn, hn']) h1 h
theorem wpList_builtK {ops : Array Oper} {rest : List Oper} {o : Oper} {a : Act} {w : World} {Q : Exit → Act → World → Prop} (hg : o.guard = none) (t : TypeId) (parts : Array (Nat × Operand)) (ho : o.op = .build t parts)
    (cells : Array Value) (hc : P.built t (parts.map fun (i, x) => (i, a.eval x)).toList = some cells)
    (h : wpList P ops Q rest (a.put o.dst (.agg cells)) w) : wpList P ops Q (o :: rest) a w :=
  wpList_build hg t parts ho (by rw [hc]; rfl) (by rw [hc]; exact h)
theorem loadVarK {w : World} {b n : Nat} {ty tb : TypeId} {cs : Array Value} (hs : Sh P ty n) (h : Bk tb w b cs) (hn : cs.size = n) : (loadVar ty ⟨b, 0, none⟩).run P w = .ok (.agg cs) w := by
  subst hn
  obtain ⟨d, h1, h3⟩ := hs
  exact run_loadVar_row w b tb ty cs (0, 0) _ h h1 rfl h3
theorem run_loadK {o : Oper} {ρ : Operand → Value} {x : Operand} {b n : Nat} {ty tb : TypeId} {cs : Array Value} {w : World} (hs : Sh P ty n) (ho : o.op = .load ty x) (hx : ρ x = .pointer (some ⟨b, 0, none⟩)) (hb : Bk tb w b cs) (hn : cs.size = n) :
    (execOp ρ o).run P w = .ok (.value (.agg cs)) w := by
  unfold execOp
  simp only [ho, hx, Instr.loadAt, Instr.sureAddr, Sem.run_bind, Sem.run_pure, Result.andThen_ok, loadVarK hs hb hn]
theorem results_pair {fn : Func} {p q : Nat} {ty : TypeId} (h : fn.results = #[.cell p ty, .tmp q]) (tmps : Array Value) (w : World) (g : Nat) (u : Value)
    (hp : tmps.getD p undef = .pointer (some ⟨g, 0, none⟩)) (hl : (loadVar ty ⟨g, 0, none⟩).run P w = .ok u w) (v : Value) (hv : tmps.getD q undef = v) :
    (results fn tmps).run P w = .ok (.tuple #[u, v]) w := by
  have hp' : tmps[p]?.getD undef = .pointer (some ⟨g, 0, none⟩) := by simpa using hp
  have hv' : tmps[q]?.getD undef = v := by simpa using hv
  simp [results, h, hp', hv', asAddr, hl]
theorem results_one {fn : Func} {p n : Nat} {ty tb : TypeId} (h : fn.results = #[.cell p ty]) (tmps : Array Value) (w : World) (g : Nat) (cs : Array Value)
    (hp : tmps.getD p undef = .pointer (some ⟨g, 0, none⟩)) (hs : Sh P ty n) (hb : Bk tb w g cs) (hn : cs.size = n) :
    (results fn tmps).run P w = .ok (.agg cs) w := by
  have hp' : tmps[p]?.getD undef = .pointer (some ⟨g, 0, none⟩) := by simpa using hp
  simp [results, h, hp', asAddr, loadVarK hs hb hn]
end

theorem shC : Sh Tryz.prog 102 4 := ⟨_, Tryz.underlying102, by kernel_rfl⟩
/-- A cursor's cells. -/
def cur (s : ByteArray) (a n : Int) (b : Bool) : Array Value := #[.string s, .int .i64 a, .int .i64 n, .bool b]
theorem cur_one (s : ByteArray) (a n : Int) (b : Bool) : ((cur s a n b).all fun x => x.oneCell') = true := by simp [cur, Value.oneCell']
end Go.Proofs.YteecialdkfaejaaGreatDoor.Bk
namespace Go.Proofs.YteecialdkfaejaaGreatDoor.Hx
open Go.ChangeShapes Go.WideShapes Go.ChangeAt Go.RowKit
set_option linter.unusedVariables false
set_option maxRecDepth 100000
set_option maxRecDepth 100000

section
variable {P : Program} {ops : Array Oper} {Q : Exit → Act → World → Prop} {md : Region.Mode} {S : World → Prop}
theorem H.storeRow {i : Nat} {o : Oper} {fuel : Nat} {listed : Array Bool} {a : Act} {w : World} {ty : TypeId} {x y : Operand}
    (ho : ops[i]? = some o) (hw : Region.wanted o (yielded ops a.tmps) = true) (hd : o.dst = none) (hop : o.op = .store ty x y) (hr : Region.ready md ops listed = [i])
    (g : Nat) (cells : Array Value) (hx : a.eval x = .pointer (some ⟨g, 0, none⟩)) (hy : a.eval y = .agg cells) (t : TypeId) (old : Array Value) (hg : w.heap[g]? = some (.cells old t (0, 0)))
    (hi : (P.info? ty).map (·.size) = some cells.size) (hold : old.size = cells.size) (h1 : cells.all (·.oneCell') = true) (hS : S (w.setRow g cells))
    (h : wpAnyH P md ops Q S fuel (listed.setIfInBounds i true) a (w.setRow g cells)) : wpAnyH P md ops Q S (fuel + 1) listed a w := by
  refine wpAnyH_ready (rs := [i]) hr (by simp) ?_
  refine AllReadyH.cons ho (fun K hK => ?_) AllReadyH.nil
  rw [if_pos hw]
  refine wp_store_row ty x y hop g cells hx hy t old hg hi hold h1 ?_
  rw [hd]
  exact hK.out _ _ hS (fun _ => h)
end
theorem ex_built {P : Program} {o : Oper} {ρ : Operand → Value} {t : TypeId} {parts : Array (Nat × Operand)} {cells : Array Value} {w : World} (ho : o.op = .build t parts) (hc : P.built t (parts.map fun (i, x) => (i, ρ x)).toList = some cells) :
    (execOp ρ o).run P w = .ok (.value (.agg cells)) w := by
  unfold execOp
  simp only [ho, Sem.run_bind, run_build w t _ cells hc, Result.andThen_ok, Sem.run_pure]
theorem conv8 (n : Int) (h0 : 0 ≤ n) (h1 : n < 256) (W : World) : (convert 5 3 (.int .u8 n)).run Tryz.prog W = .ok (.int .i64 n) W := by
  rw [run_convert_int W 5 3 .u8 n (by rw [Tryz.underlying5]; rfl) Tryz.underlying3]
  have : (Tryz.prog.intKind 3).wrap n = n := by
    rw [show Tryz.prog.intKind 3 = .i64 by kernel_rfl]
    exact IntWalk.i64_in n (by omega)
  rw [this, show Tryz.prog.intKind 3 = .i64 by kernel_rfl]
end Go.Proofs.YteecialdkfaejaaGreatDoor.Hx
namespace Go.Proofs.YteecialdkfaejaaGreatDoor.Sx
open Go.ChangeShapes Go.WideShapes Go.ChangeAt Go.RowKit
open Go.Proofs.YteecialdkfaejaaGreatDoor.Ms
open Go.Proofs.YteecialdkfaejaaGreatDoor.Bk (Bk Sh)
set_option linter.unusedVariables false
set_option maxRecDepth 100000
set_option maxRecDepth 100000

/-- A Sub's cells. -/
def cellsS (x : El) : Array Value := #[.int .i64 x.2, .string x.1]
theorem oneS (x : El) : ((cellsS x).all fun x => x.oneCell') = true := by simp [cellsS, Value.oneCell']
theorem build_one (x : El) (w : World) : (Instr.buildSlice 29 1 #[(0, .agg (cellsS x))]).run Tryz.prog w = .ok (.slice (some ⟨w.heap.size, 0, none⟩) 1 1) (w.alloc (.cells (cellsS x) 45)) := by
  kernel_rfl
theorem ex_bs {o : Oper} {ρ : Operand → Value} {x : Operand} {m : El} {w : World} (ho : o.op = .buildSlice 29 1 #[(0, x)]) (hx : ρ x = .agg (cellsS m)) :
    (execOp ρ o).run Tryz.prog w = .ok (.value (.slice (some ⟨w.heap.size, 0, none⟩) 1 1)) (w.alloc (.cells (cellsS m) 45)) := by
  have e : ((#[(0, x)] : Array (Nat × Operand)).map fun (i, x) => (i, ρ x)) = #[(0, .agg (cellsS m))] := by simp [hx]
  unfold execOp
  simp only [ho, Sem.run_bind, e, build_one, Result.andThen_ok, Sem.run_pure]
theorem bs_one {ops : Array Oper} {rest : List Oper} {o : Oper} {a : Act} {w : World} {Q : Exit → Act → World → Prop} (hgd : o.guard = none) (x : Operand) (ho : o.op = .buildSlice 29 1 #[(0, x)])
    {m : El} (hx : a.eval x = .agg (cellsS m)) (h : wpList Tryz.prog ops Q rest (a.put o.dst (.slice (some ⟨w.heap.size, 0, none⟩) 1 1)) (w.alloc (.cells (cellsS m) 45))) : wpList Tryz.prog ops Q (o :: rest) a w :=
  wpList_plain hgd fun K hK => by
    unfold Oper.wp
    rw [ex_bs ho hx]
    exact hK _ _ h
theorem add_at (g o j : Nat) : (⟨g, o, none⟩ : Addr).add j = ⟨g, o + j, none⟩ := by
  unfold Addr.add
  split
  · rename_i h; rw [h]; rfl
  · rfl
/-- The cells of a list of Subs. -/
def rowS (l : List El) : List Value := l.flatMap fun x => (cellsS x).toList
theorem rowS_snoc (l : List El) (m : El) : rowS (l ++ [m]) = rowS l ++ (cellsS m).toList := by simp [rowS]
theorem rowS_at : ∀ (l : List El) (i j : Nat) (h : i < l.length), j < 2 → (rowS l)[i * 2 + j]? = ((cellsS l[i]).toList)[j]?
  | [], i, j, h, _ => absurd h (by simp)
  | m :: l, 0, j, h, hj => by
    have : rowS (m :: l) = (cellsS m).toList ++ rowS l := by simp [rowS]
    rw [this, Nat.zero_mul, Nat.zero_add, List.getElem?_append_left (by show j < (cellsS m).toList.length; exact hj)]
    rfl
  | m :: l, i + 1, j, h, hj => by
    have e : rowS (m :: l) = (cellsS m).toList ++ rowS l := by simp [rowS]
    have hl : (cellsS m).toList.length = 2 := rfl
    rw [e, List.getElem?_append_right (by rw [hl]; omega), hl, show (i + 1) * 2 + j - 2 = i * 2 + j by omega, rowS_at l i j (by simpa using h) hj]
    rfl
theorem infoS : ∃ i, Tryz.prog.info? 45 = some i ∧ i.zero = some (.agg #[.int .i64 0, .string ByteArray.empty]) ∧ i.size = 2 ∧ i.bytes ≤ 4096 := by
  have h : (Tryz.prog.info? 45).map (fun i => (i.zero, i.size, decide (i.bytes ≤ 4096))) = some (some (.agg #[.int .i64 0, .string ByteArray.empty]), 2, true) := by kernel_rfl
  obtain ⟨i, hi, hz⟩ := Option.map_eq_some_iff.1 h
  simp only [Prod.mk.injEq, decide_eq_true_eq] at hz
  exact ⟨i, hi, hz⟩

/-- The call's own list of the Subs l (what is new begins at block B). -/
def Lst (B : Nat) (w : World) (v : Value) (l : List El) : Prop := w.ownsRow B 45 2 v l.length (rowS l)
theorem Lst.nil (B : Nat) (w : World) : Lst B w (.slice none 0 0) [] := World.ownsRow_nil w B _ 2
theorem Lst.below {B : Nat} {w w' : World} {v : Value} {l : List El} (h : Lst B w v l) (hb : Below w.heap.size w w') : Lst B w' v l := by
  refine ⟨h.1, ?_⟩
  rcases h.2 with h | ⟨g, cap, cur, a, b, c, d⟩
  · exact .inl h
  · exact .inr ⟨g, cap, cur, a, b, (hb.block g (Array.getElem?_eq_some_iff.1 c).1).trans c, d⟩
theorem Lst.slice {B : Nat} {w : World} {v : Value} {l : List El} (h : Lst B w v l) : ∃ a c, v = .slice a l.length c := by
  rcases h.2 with ⟨hv, h0⟩ | ⟨g, cap, cur, hv, _⟩
  · exact ⟨none, 0, by rw [hv, h0]⟩
  · exact ⟨_, _, hv⟩
theorem Lst.row {B : Nat} {w : World} {a : Option Addr} {c : Nat} {l : List El} (h : Lst B w (.slice a l.length c) l) : SRow w a l := by
  intro i hi
  rcases h.2 with ⟨_, h0⟩ | ⟨g, cap, cur, hv, hb, hg, _⟩
  · omega
  · simp at hv
    obtain ⟨rfl, rfl⟩ := hv
    have hat : ∀ j v, j < 2 → ((cellsS l[i]).toList)[j]? = some v → w.cell? (((⟨g, 0, none⟩ : Addr).add (i * 2)).add j) = some v := fun j v hj hv => by
      have := World.ownsRow.cells h (g := g) rfl (i * 2 + j) v (by rw [rowS_at l i j hi hj]; exact hv)
      rw [add_at] at this
      rw [add_at, add_at, Nat.add_assoc]
      exact this
    exact ⟨⟨g, 0, none⟩, rfl, (Array.getElem?_eq_some_iff.1 hg).1, hat 0 _ (by decide) rfl, hat 1 _ (by decide) rfl⟩

theorem cells_new (m : El) (w : World) : ∀ j u, ((cellsS m).toList)[j]? = some u → (w.alloc (.cells (cellsS m) 45)).cell? ((⟨w.heap.size, 0, none⟩ : Addr).add j) = some u := by
  intro j u hu
  have := (Bk.Bk.new 45 w (cellsS m)).cell j u (by simpa using hu)
  rw [add_at, Nat.zero_add]
  exact this

theorem wp_app {o : Oper} {a : Act} {w : World} {Q : Exit → Act → World → Prop} {K : Act → World → Prop} (s x : Operand)
    (ho : o.op = .call { callee := .builtin .append, args := #[s, x], argTypes := #[29, 29] }) (B : Nat) (v : Value) (l : List El) (m : El) (g c : Nat)
    (hs : a.eval s = v) (hown : Lst B w v l) (hx : a.eval x = .slice (some ⟨g, 0, none⟩) 1 c) (hm : ∀ j u, ((cellsS m).toList)[j]? = some u → w.cell? ((⟨g, 0, none⟩ : Addr).add j) = some u)
    (hl : l.length ≤ 100000) (hB : B ≤ w.heap.size)
    (h : ∀ v' w', Lst B w' v' (l ++ [m]) → w.grownBy w' v.ownBlock → Below B w w' → K (a.put o.dst v') w') : Oper.wp Tryz.prog o a w K Q := by
  obtain ⟨i0, hi, hz, hsz, hby⟩ := infoS
  refine wp_append_own w s x 29 ho B 45 i0 (.agg #[.int .i64 0, .string ByteArray.empty]) 2 i0.bytes Tryz.underlying29 hi hz hsz rfl rfl (by decide) v l.length (rowS l) hs hown ⟨g, 0, none⟩ 1 c (cellsS m).toList hx rfl hm ?_ (by unfold maxLen; omega) ?_ hB ?_
  · intro u hu
    have := oneS m
    rw [Array.all_eq_true_iff_forall_mem] at this
    exact this u (by simpa using hu)
  · have : (l.length + 1) * i0.bytes ≤ 100001 * 4096 := Nat.mul_le_mul (by omega) hby
    omega
  · intro v' w' h2 h3 _
    refine h v' w' ?_ h3 ((Below.refl B w).grown h3 hB (fun k hk => (World.ownsRow.lt hown k hk).1))
    unfold Lst
    rw [rowS_snoc, List.length_append]
    exact h2
/-- append(v, m), behind the making of the list of m alone. -/
theorem app_one {ops : Array Oper} {rest : List Oper} {o : Oper} {a : Act} {w : World} {Q : Exit → Act → World → Prop} (hgd : o.guard = none) (s x : Operand)
    (ho : o.op = .call { callee := .builtin .append, args := #[s, x], argTypes := #[29, 29] }) (B : Nat) (v : Value) (l : List El) (m : El) (g c : Nat)
    (hs : a.eval s = v) (hown : Lst B w v l) (hx : a.eval x = .slice (some ⟨g, 0, none⟩) 1 c) (hm : ∀ j u, ((cellsS m).toList)[j]? = some u → w.cell? ((⟨g, 0, none⟩ : Addr).add j) = some u)
    (hl : l.length ≤ 100000) (hB : B ≤ w.heap.size)
    (h : ∀ v' w', Lst B w' v' (l ++ [m]) → Below B w w' → w.heap.size ≤ w'.heap.size → wpList Tryz.prog ops Q rest (a.put o.dst v') w') : wpList Tryz.prog ops Q (o :: rest) a w :=
  wpList_plain hgd fun K hK => wp_app s x ho B v l m g c hs hown hx hm hl hB fun v' w' h1 h2 h3 => hK _ _ (h v' w' h1 h3 h2.size)

section
variable {P : Program} {ops : Array Oper} {Q : Exit → Act → World → Prop} {md : Region.Mode} {S : World → Prop}
theorem H.one {i : Nat} {o : Oper} {fuel : Nat} {listed : Array Bool} {a : Act} {w : World}
    (ho : ops[i]? = some o) (hw : Region.wanted o (yielded ops a.tmps) = true) (hr : Region.ready md ops listed = [i])
    (h : ∀ K : Act → World → Prop, Hid (∀ a' w', S w' → wpAnyH P md ops Q S fuel (listed.setIfInBounds i true) a' w' → K a' w') → Oper.wp P o a w K Q) : wpAnyH P md ops Q S (fuel + 1) listed a w := by
  refine wpAnyH_ready (rs := [i]) hr (by simp) ?_
  refine AllReadyH.cons ho (fun K hK => ?_) AllReadyH.nil
  rw [if_pos hw]
  exact h K (Lib.hid (fun a' w' hS hW => hK.out a' w' hS (fun _ => hW)))
end
section
variable {ops : Array Oper} {Q : Exit → Act → World → Prop} {md : Region.Mode} {S : World → Prop}
/-- []api.Sub{m} -/
theorem H.bsS {i d : Nat} {o : Oper} {fuel : Nat} {listed : Array Bool} {a : Act} {w : World}
    (ho : ops[i]? = some o) (hw : Region.wanted o (yielded ops a.tmps) = true) (hr : Region.ready md ops listed = [i]) (hd : o.dst = some d)
    (x : Operand) (hop : o.op = .buildSlice 29 1 #[(0, x)]) {m : El} (hx : a.eval x = .agg (cellsS m)) (hS : S (w.alloc (.cells (cellsS m) 45)))
    (h : wpAnyH Tryz.prog md ops Q S fuel (listed.setIfInBounds i true) (a.put (some d) (.slice (some ⟨w.heap.size, 0, none⟩) 1 1)) (w.alloc (.cells (cellsS m) 45))) : wpAnyH Tryz.prog md ops Q S (fuel + 1) listed a w := by
  refine H.one ho hw hr (fun K hK => ?_)
  unfold Oper.wp
  rw [ex_bs hop hx]
  simp only [Oper.upon, hd]
  exact hK.out _ _ hS h
/-- append(v, m), behind the making of the list of m alone. -/
theorem H.appS {i d : Nat} {o : Oper} {fuel : Nat} {listed : Array Bool} {a : Act} {w : World}
    (ho : ops[i]? = some o) (hw : Region.wanted o (yielded ops a.tmps) = true) (hr : Region.ready md ops listed = [i]) (hd : o.dst = some d)
    (s x : Operand) (hop : o.op = .call { callee := .builtin .append, args := #[s, x], argTypes := #[29, 29] }) (B : Nat) (v : Value) (l : List El) (m : El) (g c : Nat)
    (hs : a.eval s = v) (hown : Lst B w v l) (hx : a.eval x = .slice (some ⟨g, 0, none⟩) 1 c) (hm : ∀ j u, ((cellsS m).toList)[j]? = some u → w.cell? ((⟨g, 0, none⟩ : Addr).add j) = some u)
    (hl : l.length ≤ 100000) (hB : B ≤ w.heap.size) (hS : ∀ w', w.grownBy w' v.ownBlock → S w')
    (h : ∀ v' w', Lst B w' v' (l ++ [m]) → w.grownBy w' v.ownBlock → Below B w w' → wpAnyH Tryz.prog md ops Q S fuel (listed.setIfInBounds i true) (a.put (some d) v') w') : wpAnyH Tryz.prog md ops Q S (fuel + 1) listed a w := by
  refine H.one ho hw hr (fun K hK => ?_)
  refine wp_app s x hop B v l m g c hs hown hx hm hl hB fun v' w' h1 h2 h3 => ?_
  rw [hd]
  exact hK.out _ _ (hS w' h2) (h v' w' h1 h2 h3)
end
end Go.Proofs.YteecialdkfaejaaGreatDoor.Sx
namespace Go.Proofs.YteecialdkfaejaaGreatDoor.Hy
open Go.ChangeShapes Go.WideShapes Go.ChangeAt Go.RowKit
open Go.Proofs.YteecialdkfaejaaGreatDoor.Ms
set_option linter.unusedVariables false
set_option maxRecDepth 100000
set_option maxRecDepth 100000
section
variable {P : Program} {ops : Array Oper} {Q : Exit → Act → World → Prop} {md : Region.Mode} {S : World → Prop}
theorem H.one {i : Nat} {o : Oper} {fuel : Nat} {listed : Array Bool} {a : Act} {w : World}
    (ho : ops[i]? = some o) (hw : Region.wanted o (yielded ops a.tmps) = true) (hr : Region.ready md ops listed = [i])
    (h : ∀ K : Act → World → Prop, Hid (∀ a' w', S w' → wpAnyH P md ops Q S fuel (listed.setIfInBounds i true) a' w' → K a' w') → Oper.wp P o a w K Q) : wpAnyH P md ops Q S (fuel + 1) listed a w := by
  refine wpAnyH_ready (rs := [i]) hr (by simp) ?_
  refine AllReadyH.cons ho (fun K hK => ?_) AllReadyH.nil
  rw [if_pos hw]
  exact h K (Lib.hid (fun a' w' hS hW => hK.out a' w' hS (fun _ => hW)))
theorem H.two {i j : Nat} {o o' : Oper} {fuel : Nat} {listed : Array Bool} {a : Act} {w : World}
    (ho : ops[i]? = some o) (hw : Region.wanted o (yielded ops a.tmps) = true) (ho' : ops[j]? = some o') (hw' : Region.wanted o' (yielded ops a.tmps) = true) (hr : Region.ready md ops listed = [i, j])
    (h : ∀ K : Act → World → Prop, Hid (∀ a' w', S w' → wpAnyH P md ops Q S fuel (listed.setIfInBounds i true) a' w' → K a' w') → Oper.wp P o a w K Q)
    (h' : ∀ K : Act → World → Prop, Hid (∀ a' w', S w' → wpAnyH P md ops Q S fuel (listed.setIfInBounds j true) a' w' → K a' w') → Oper.wp P o' a w K Q) : wpAnyH P md ops Q S (fuel + 1) listed a w := by
  refine wpAnyH_ready (rs := [i, j]) hr (by simp) ?_
  refine AllReadyH.cons ho (fun K hK => ?_) (AllReadyH.cons ho' (fun K hK => ?_) AllReadyH.nil)
  · rw [if_pos hw]
    exact h K (Lib.hid (fun a' w' hS hW => hK.out a' w' hS (fun _ => hW)))
  · rw [if_pos hw']
    exact h' K (Lib.hid (fun a' w' hS hW => hK.out a' w' hS (fun _ => hW)))
theorem wp_valW {o : Oper} {a : Act} {w w' : World} {K : Act → World → Prop} {d : Nat} {v : Value} (hd : o.dst = some d) (hy : (execOp a.eval o).run P w = .ok (.value v) w') (h : K (a.put (some d) v) w') : Oper.wp P o a w K Q := by
  unfold Oper.wp
  rw [hy]
  simp only [Oper.upon, hd]
  exact h
end
end Go.Proofs.YteecialdkfaejaaGreatDoor.Hy
namespace Go.Proofs.YteecialdkfaejaaGreatDoor.An
open Go.ChangeShapes Go.WideShapes Go.ChangeAt Go.RowKit
open Go.Proofs.YteecialdkfaejaaGreatDoor.Ms
open Go.Proofs.YteecialdkfaejaaGreatDoor.Box
set_option linter.unusedVariables false
set_option maxRecDepth 100000
set_option maxRecDepth 100000
theorem lst_under {B g : Nat} {w : World} {v : Value} {l : List El} (h : Sx.Lst B w v l) (hg : g < B) (cs : Array Value) : Sx.Lst B (w.setRow g cs) v l := by
  refine ⟨h.1, ?_⟩
  rcases h.2 with h | ⟨k, cap, cur, a, b, c, d⟩
  · exact .inl h
  · exact .inr ⟨k, cap, cur, a, b, (setRow_other w g k cs (by omega)).trans c, d⟩
theorem lst_mono {B B' : Nat} {w : World} {v : Value} {l : List El} (h : Sx.Lst B w v l) (hB : B' ≤ B) : Sx.Lst B' w v l := by
  refine ⟨h.1, ?_⟩
  rcases h.2 with h | ⟨k, cap, cur, a, b, c, d⟩
  · exact .inl h
  · exact .inr ⟨k, cap, cur, a, Nat.le_trans hB b, c, d⟩
theorem results_three {fn : Func} {P : Program} {p q r : Nat} {ty : TypeId} (h : fn.results = #[.cell p ty, .tmp q, .tmp r]) (tmps : Array Value) (w : World) (g : Nat) (u : Value)
    (hp : tmps.getD p undef = .pointer (some ⟨g, 0, none⟩)) (hl : (loadVar ty ⟨g, 0, none⟩).run P w = .ok u w) (v : Value) (hv : tmps.getD q undef = v) (x : Value) (hx : tmps.getD r undef = x) :
    (results fn tmps).run P w = .ok (.tuple #[u, v, x]) w := by
  have hp' : tmps[p]?.getD undef = .pointer (some ⟨g, 0, none⟩) := by simpa using hp
  have hv' : tmps[q]?.getD undef = v := by simpa using hv
  have hx' : tmps[r]?.getD undef = x := by simpa using hx
  simp [results, h, hp', hv', hx', asAddr, hl]
/-- What stays: the message's copy, its lists. -/
structure Fs (w W : World) (g : Nat) (f : M) : Prop where
  m : Bx W g f
  i : f.In W
  bel : Below w.heap.size w W
theorem Fs.call {w W w' : World} {g : Nat} {f : M} (h : Fs w W g f) (hb : Below W.heap.size W w') : Fs w w' g f := ⟨h.m.below hb, h.i.below hb, h.bel.trans (hb.mono h.bel.size)⟩
theorem Fs.new (w : World) (m : M) (hm : m.In w) : Fs w (w.alloc (.cells m.cells 31)) w.heap.size m := ⟨Bx.new w m, hm.below (balloc (Below.refl _ w) _), balloc (Below.refl _ w) _⟩
/-- n is m, but for where its Subs stand. -/
def Pl (n m : M) : Prop := n = { m with sa := n.sa, sc := n.sc }
theorem Pl.same {n n' m m' : M} (h : Pl n m) (h' : Pl n' m') : M.same n n' = M.same m m' := by
  rw [show n = _ from h, show n' = _ from h']
  rfl
theorem Pl.sl {n m : M} (h : Pl n m) : n.sl = m.sl := by rw [show n = _ from h]
theorem few_parts {m : M} (h : Few.fewB m = true) : m.ll.length ≤ 300 ∧ m.sl.length ≤ 60 ∧ ∀ x ∈ m.sl, x.1.size ≤ 1099511627776 := by
  unfold Few.fewB at h
  simp only [Bool.and_eq_true, decide_eq_true_eq] at h
  refine ⟨h.1.1.1.1.1.1.1, h.1.1.1.1.1.1.2, fun x hx => ?_⟩
  have h2 := h.2
  unfold Few.small at h2
  rw [List.all_eq_true] at h2
  have := h2 x hx
  rw [decide_eq_true_eq] at this
  omega
theorem few_in {m : M} {w : World} (h : Few.fewB m = true) (hd : DRow w m.la m.ll) (hs : SRow w m.sa m.sl) : m.In w := ⟨hd, hs, by have := (few_parts h).1; omega, by have := (few_parts h).2.1; omega⟩
end Go.Proofs.YteecialdkfaejaaGreatDoor.An
namespace Go.Proofs.YteecialdkfaejaaGreatDoor.All
open Go.ChangeShapes Go.WideShapes Go.ChangeAt Go.RowKit
open Go.Proofs.YteecialdkfaejaaGreatDoor.Ms
open Go.Proofs.YteecialdkfaejaaGreatDoor.Box
open Go.Proofs.YteecialdkfaejaaGreatDoor.Same
open Go.Proofs.YteecialdkfaejaaGreatDoor.SameP
open Go.Proofs.YteecialdkfaejaaGreatDoor.RSame
open Go.Proofs.YteecialdkfaejaaGreatDoor.Hs
open Go.Proofs.YteecialdkfaejaaGreatDoor.Few
set_option linter.unusedVariables false
set_option maxRecDepth 100000

/-- The messages of a list stand in w. -/
def MRow (w : World) (a : Option Addr) (l : List M) : Prop :=
  ∀ i (h : i < l.length), ∃ p, a = some p ∧ p.block < w.heap.size ∧ (∀ j v, (l[i].cells.toList)[j]? = some v → w.cell? ((p.add (i * 25)).add j) = some v) ∧ DRow w l[i].la l[i].ll ∧ SRow w l[i].sa l[i].sl
theorem MRow.below {w w' : World} {a : Option Addr} {l : List M} (h : MRow w a l) (hb : Below w.heap.size w w') : MRow w' a l := by
  intro i hi
  obtain ⟨p, h1, h2, h3, h4, h5⟩ := h i hi
  refine ⟨p, h1, Nat.lt_of_lt_of_le h2 hb.size, fun j v hv => ?_, h4.below hb, h5.below hb⟩
  rw [hb.cell (by rw [add_block, add_block]; exact h2)]
  exact h3 j v hv
/-- No list within is long. -/
def Short (m : M) : Prop := m.ll.length ≤ 1048576 ∧ m.sl.length ≤ 1048576

theorem loadVarA {w : World} {q : Addr} {m : M} (h : ∀ j v, (m.cells.toList)[j]? = some v → w.cell? (q.add j) = some v) : (loadVar 31 q).run Tryz.prog w = .ok (.agg m.cells) w := by
  have hl : (loadCells q 25).run Tryz.prog w = .ok m.cells w := by
    have := run_loadCells_list (P := Tryz.prog) w q m.cells.toList h
    rw [show m.cells.toList.length = 25 from rfl] at this
    rw [this]
  have hagg : (isAgg 31).run Tryz.prog w = .ok true w := by go_simp
  have hsz : (sizeOf 31).run Tryz.prog w = .ok 25 w := by go_simp
  simp only [loadVar, Sem.run_bind, hagg, Result.andThen_ok, if_true, hsz, hl, Sem.run_pure]
theorem ex_loadA {o : Oper} {ρ : Operand → Value} {x : Operand} {q : Addr} {m : M} {w : World} (ho : o.op = .load 31 x) (hx : ρ x = .pointer (some q)) (h : ∀ j v, (m.cells.toList)[j]? = some v → w.cell? (q.add j) = some v) :
    (execOp ρ o).run Tryz.prog w = .ok (.value (.agg m.cells)) w := by
  unfold execOp
  simp only [ho, hx, Instr.loadAt, Instr.sureAddr, Sem.run_bind, Sem.run_pure, Result.andThen_ok, loadVarA h]
theorem indexM (p : Addr) (n c i : Nat) (h : i < n) (W : World) : (Instr.indexAt 36 (.slice (some p) n c) (.int .i64 (i : Int))).run Tryz.prog W = .ok (.pointer (some (p.add (i * 25)))) W := by
  have he : Tryz.prog.elem 36 = 31 := by simp [Program.elem, Tryz.underlying36]
  have hz : (sizeOf 31).run Tryz.prog W = .ok 25 W := by go_simp
  rw [run_indexAt_slice W 36 p n c .i64 (i : Int) (by rw [he]; exact Tryz.underlying36), if_pos (by omega), he, hz]
  rfl

open Classical in
/-- Are the lists the same? -/
noncomputable def sameL (x y : List M) : Bool := decide (x.length = y.length ∧ ∀ i (hx : i < x.length) (hy : i < y.length), M.same x[i] y[i] = true)
theorem sameL_yes {x y : List M} (hl : x.length = y.length) (h : ∀ i (hx : i < x.length) (hy : i < y.length), M.same x[i] y[i] = true) : sameL x y = true := by unfold sameL; exact decide_eq_true ⟨hl, h⟩
theorem sameL_len {x y : List M} (hl : x.length ≠ y.length) : sameL x y = false := by unfold sameL; exact decide_eq_false fun h => hl h.1
theorem sameL_at {x y : List M} {k : Nat} (hx : k < x.length) (hy : k < y.length) (h : M.same x[k] y[k] = false) : sameL x y = false := by
  unfold sameL
  exact decide_eq_false fun h2 => by have := h2.2 k hx hy; rw [h] at this; cases this
theorem same_refl (m : M) : M.same m m = true := by simp [M.same, M.flatE]

theorem ex_indexM {o : Oper} {ρ : Operand → Value} {x y : Operand} {p : Addr} {n c i : Nat} {w : World} (ho : o.op = .indexAddr 36 x y) (hx : ρ x = .slice (some p) n c) (hy : ρ y = .int .i64 (i : Int)) (h : i < n) :
    (execOp ρ o).run Tryz.prog w = .ok (.value (.pointer (some (p.add (i * 25))))) w := by
  unfold execOp
  simp only [ho, hx, hy, Sem.run_bind, indexM p n c i h, Result.andThen_ok, Sem.run_pure]

/-- What stays in the document's round. -/
def S3 (w : World) (p q : Addr) (u v : M) (W : World) : Prop := (∀ j x, (u.cells.toList)[j]? = some x → W.cell? (p.add j) = some x) ∧ (∀ j x, (v.cells.toList)[j]? = some x → W.cell? (q.add j) = some x) ∧ u.In W ∧ v.In W ∧ p.block < W.heap.size ∧ q.block < W.heap.size ∧ Below w.heap.size w W
theorem S3.keep {w : World} {p q : Addr} {u v : M} (W w1 : World) (h : S3 w p q u v W) (hb : Below W.heap.size W w1) : S3 w p q u v w1 :=
  ⟨fun j x hx => (hb.cell (p := p.add j) (by rw [add_block]; exact h.2.2.2.2.1)).trans (h.1 j x hx), fun j x hx => (hb.cell (p := q.add j) (by rw [add_block]; exact h.2.2.2.2.2.1)).trans (h.2.1 j x hx), h.2.2.1.below hb, h.2.2.2.1.below hb, Nat.lt_of_lt_of_le h.2.2.2.2.1 hb.size, Nat.lt_of_lt_of_le h.2.2.2.2.2.1 hb.size, bcall h.2.2.2.2.2.2 hb⟩

set_option maxHeartbeats 3200000 in
theorem rsameAll_any (a b : Option Addr) (ca cb : Nat) (x y : List M) (w : World) (hx : MRow w a x) (hy : MRow w b y) (sx : ∀ m ∈ x, Short m) (sy : ∀ m ∈ y, Short m) (lx : x.length ≤ 1048576) (ly : y.length ≤ 1048576) :
    Calls Tryz.prog 14 #[.slice a x.length ca, .slice b y.length cb] w fun e w' => e = .returned (.bool (sameL x y)) ∧ Below w.heap.size w w' := by
  by_cases hl : x.length = y.length
  · have HL := Lib.hid hl
    go_enter Tryz.func14, Tryz.ntmps14
    go_wp2
    go_loopw [5] (fun i wr => ∃ k : Nat, k ≤ x.length ∧ i = .int .i64 k ∧ Hid (∀ i, i < k → ∀ (hx : i < x.length) (hy : i < y.length), M.same x[i] y[i] = true) ∧ Hid (Below w.heap.size w wr)) (fun i _ => x.length - (intOf i).toNat)
    case atStart => exact ⟨0, Nat.zero_le _, rfl, Lib.hid (fun i hi => absurd hi (by omega)), Lib.hid (Below.refl _ _)⟩
    case round =>
      obtain ⟨k, hk, rfl, HT, HB⟩ := hrel
      by_cases hlt : k < x.length
      · have hlt2 : k < y.length := by omega
        obtain ⟨p, rfl, hp, hc, hcd, hcs⟩ := (hx.below HB.out) k hlt
        obtain ⟨q, rfl, hq, hd, hdd, hds⟩ := (hy.below HB.out) k hlt2
        have hsx := sx _ (List.getElem_mem hlt)
        have hsy := sy _ (List.getElem_mem hlt2)
        have HN := Lib.hid (fun h => sameL_at (x := x) (y := y) (k := k) hlt hlt2 h)
        have HS := Lib.hid (fun (h : M.same x[k] y[k] = true) => show ∀ i, i < k + 1 → ∀ (hx : i < x.length) (hy : i < y.length), M.same x[i] y[i] = true from fun i hi h1 h2 => by
          by_cases hik : i < k
          · exact HT.out i hik h1 h2
          · obtain rfl : i = k := by omega
            exact h)
        have H0 := Lib.hid (show S3 w (p.add (k * 25)) (q.add (k * 25)) x[k] y[k] wr.drew from S3.keep wr _ ⟨hc, hd, ⟨hcd, hcs, hsx.1, hsx.2⟩, ⟨hdd, hds, hsy.1, hsy.2⟩, by rw [add_block]; exact hp, by rw [add_block]; exact hq, HB.out⟩ (Below.refl _ _).drew)
        have P := Lib.hid (fun W (h : S3 w (p.add (k * 25)) (q.add (k * 25)) x[k] y[k] W) => heldP (S3 w (p.add (k * 25)) (q.add (k * 25)) x[k] y[k]) S3.keep (rsame_any x[k] y[k] W h.2.2.1 h.2.2.2.1) h)
        clear HT hx hy sx sy hc hd hcd hcs hdd hds hsx hsy hp hq hl HB
        generalize x[k] = u at *
        generalize y[k] = v at *
        cases hs : M.same u v
        · have HN1 := Lib.hid (HN.out hs)
          rw [hs] at P
          clear hs HN HS
          go_upto_region 6 with fail
          refine wp_region_held_drew (S := S3 w (p.add (k * 25)) (q.add (k * 25)) u v) (by kernel_rfl) H0.out (fun hS => ?_)
          clear H0
          generalize wr.drew = w0 at *
          refine H.tk (i := 0) (v := ?v0) ?h0 hS ?_
          case h0 => (intro w hw; go_simp; first | done | (with_reducible rfl))
          try simp only [Act.put, List.setIfInBounds_toArray, List.set_cons_zero, List.set_cons_succ]
          refine H.tk (i := 1) (v := ?v1) ?h1 hS ?_
          case h1 => (intro w hw; go_simp; first | done | (with_reducible rfl))
          try simp only [Act.put, List.setIfInBounds_toArray, List.set_cons_zero, List.set_cons_succ]
          refine H.tk (i := 2) (v := .pointer (some (p.add (k * 25)))) ?h2 hS ?_
          case h2 => exact fun w _ => ex_indexM (x := .tmp 17) (y := .tmp 18) rfl rfl rfl hlt
          try simp only [Act.put, List.setIfInBounds_toArray, List.set_cons_zero, List.set_cons_succ]
          refine H.tk (i := 3) (v := .agg (M.cells u)) ?h3 hS ?_
          case h3 => exact fun w hw => ex_loadA (x := .tmp 19) rfl rfl hw.1
          try simp only [Act.put, List.setIfInBounds_toArray, List.set_cons_zero, List.set_cons_succ]
          refine H.tk (i := 4) (v := ?v4) ?h4 hS ?_
          case h4 => (intro w hw; go_simp; first | done | (with_reducible rfl))
          try simp only [Act.put, List.setIfInBounds_toArray, List.set_cons_zero, List.set_cons_succ]
          refine H.tk (i := 5) (v := ?v5) ?h5 hS ?_
          case h5 => (intro w hw; go_simp; first | done | (with_reducible rfl))
          try simp only [Act.put, List.setIfInBounds_toArray, List.set_cons_zero, List.set_cons_succ]
          refine H.tk (i := 6) (v := .pointer (some (q.add (k * 25)))) ?h6 hS ?_
          case h6 => exact fun w _ => ex_indexM (x := .tmp 21) (y := .tmp 22) rfl rfl rfl hlt2
          try simp only [Act.put, List.setIfInBounds_toArray, List.set_cons_zero, List.set_cons_succ]
          refine H.tk (i := 7) (v := .agg (M.cells v)) ?h7 hS ?_
          case h7 => exact fun w hw => ex_loadA (x := .tmp 23) rfl rfl hw.2.1
          try simp only [Act.put, List.setIfInBounds_toArray, List.set_cons_zero, List.set_cons_succ]
          refine wpAnyH_ready (rs := [8]) (by kernel_rfl) (by simp) ?_
          refine AllReadyH.cons rfl (fun K hK => ?_) AllReadyH.nil
          go_simp
          refine (P.out _ hS).mono ?_
          rintro e w8 ⟨rfl, hS8⟩
          refine hK.out _ _ hS8 (fun _ => ?_)
          clear hK K hS
          have hS := hS8
          clear hS8
          try simp only [Act.put, List.setIfInBounds_toArray, List.set_cons_zero, List.set_cons_succ]
          refine H.tk (i := 9) (v := (.bool true)) (fun w _ => rfl) hS ?_
          try simp only [Act.put, List.setIfInBounds_toArray, List.set_cons_zero, List.set_cons_succ]
          refine wpAnyH_done (by kernel_rfl) ?_ _
          go_wp2
          go_ret
          exact ⟨bool_eq (by rw [HN1.out]), hS.2.2.2.2.2.2⟩
        · have HS1 := Lib.hid (HS.out hs)
          rw [hs] at P
          clear hs HN HS
          go_upto_region 6 with fail
          refine wp_region_held_drew (S := S3 w (p.add (k * 25)) (q.add (k * 25)) u v) (by kernel_rfl) H0.out (fun hS => ?_)
          clear H0
          generalize wr.drew = w0 at *
          refine H.tk (i := 0) (v := ?v0) ?h0 hS ?_
          case h0 => (intro w hw; go_simp; first | done | (with_reducible rfl))
          try simp only [Act.put, List.setIfInBounds_toArray, List.set_cons_zero, List.set_cons_succ]
          refine H.tk (i := 1) (v := ?v1) ?h1 hS ?_
          case h1 => (intro w hw; go_simp; first | done | (with_reducible rfl))
          try simp only [Act.put, List.setIfInBounds_toArray, List.set_cons_zero, List.set_cons_succ]
          refine H.tk (i := 2) (v := .pointer (some (p.add (k * 25)))) ?h2 hS ?_
          case h2 => exact fun w _ => ex_indexM (x := .tmp 17) (y := .tmp 18) rfl rfl rfl hlt
          try simp only [Act.put, List.setIfInBounds_toArray, List.set_cons_zero, List.set_cons_succ]
          refine H.tk (i := 3) (v := .agg (M.cells u)) ?h3 hS ?_
          case h3 => exact fun w hw => ex_loadA (x := .tmp 19) rfl rfl hw.1
          try simp only [Act.put, List.setIfInBounds_toArray, List.set_cons_zero, List.set_cons_succ]
          refine H.tk (i := 4) (v := ?v4) ?h4 hS ?_
          case h4 => (intro w hw; go_simp; first | done | (with_reducible rfl))
          try simp only [Act.put, List.setIfInBounds_toArray, List.set_cons_zero, List.set_cons_succ]
          refine H.tk (i := 5) (v := ?v5) ?h5 hS ?_
          case h5 => (intro w hw; go_simp; first | done | (with_reducible rfl))
          try simp only [Act.put, List.setIfInBounds_toArray, List.set_cons_zero, List.set_cons_succ]
          refine H.tk (i := 6) (v := .pointer (some (q.add (k * 25)))) ?h6 hS ?_
          case h6 => exact fun w _ => ex_indexM (x := .tmp 21) (y := .tmp 22) rfl rfl rfl hlt2
          try simp only [Act.put, List.setIfInBounds_toArray, List.set_cons_zero, List.set_cons_succ]
          refine H.tk (i := 7) (v := .agg (M.cells v)) ?h7 hS ?_
          case h7 => exact fun w hw => ex_loadA (x := .tmp 23) rfl rfl hw.2.1
          try simp only [Act.put, List.setIfInBounds_toArray, List.set_cons_zero, List.set_cons_succ]
          refine wpAnyH_ready (rs := [8]) (by kernel_rfl) (by simp) ?_
          refine AllReadyH.cons rfl (fun K hK => ?_) AllReadyH.nil
          go_simp
          refine (P.out _ hS).mono ?_
          rintro e w8 ⟨rfl, hS8⟩
          refine hK.out _ _ hS8 (fun _ => ?_)
          clear hK K hS
          have hS := hS8
          clear hS8
          try simp only [Act.put, List.setIfInBounds_toArray, List.set_cons_zero, List.set_cons_succ]
          refine H.tk (i := 9) (v := (.bool false)) (fun w _ => rfl) hS ?_
          try simp only [Act.put, List.setIfInBounds_toArray, List.set_cons_zero, List.set_cons_succ]
          refine wpAnyH_done (by kernel_rfl) ?_ _
          have HB3 := Lib.hid hS.2.2.2.2.2.2
          clear hS
          go_wp2
          go_roundw
          case rel => exact ⟨k + 1, hlt, by go_num, HS1, HB3⟩
          case measure => simp [intOf]; omega
      · obtain rfl : k = x.length := by omega
        have he : sameL x y = true := sameL_yes HL.out (fun i h1 h2 => HT.out i h1 h1 h2)
        have HE := Lib.hid he
        clear he
        go_wp2
        go_ret
        exact ⟨bool_eq (by rw [HE.out]), HB.out⟩
  · go_enter Tryz.func14, Tryz.ntmps14
    go_wp2
    go_ret
    exact ⟨bool_eq (sameL_len hl).symm, Below.refl _ _⟩
end Go.Proofs.YteecialdkfaejaaGreatDoor.All
namespace Go.Proofs.YteecialdkfaejaaGreatDoor.Ap
open Go.ChangeShapes Go.WideShapes Go.ChangeAt Go.RowKit
open Go.Proofs.YteecialdkfaejaaGreatDoor.Ms
open Go.Proofs.YteecialdkfaejaaGreatDoor.Box
open Go.Proofs.YteecialdkfaejaaGreatDoor.All
set_option linter.unusedVariables false
set_option maxRecDepth 100000
set_option maxRecDepth 100000

theorem build_one (m : M) (w : World) : (Instr.buildSlice 36 1 #[(0, .agg m.cells)]).run Tryz.prog w = .ok (.slice (some ⟨w.heap.size, 0, none⟩) 1 1) (w.alloc (.cells m.cells 31)) := by
  kernel_rfl
theorem ex_bs {o : Oper} {ρ : Operand → Value} {x : Operand} {m : M} {w : World} (ho : o.op = .buildSlice 36 1 #[(0, x)]) (hx : ρ x = .agg m.cells) :
    (execOp ρ o).run Tryz.prog w = .ok (.value (.slice (some ⟨w.heap.size, 0, none⟩) 1 1)) (w.alloc (.cells m.cells 31)) := by
  have e : ((#[(0, x)] : Array (Nat × Operand)).map fun (i, x) => (i, ρ x)) = #[(0, .agg m.cells)] := by simp [hx]
  unfold execOp
  simp only [ho, Sem.run_bind, e, build_one, Result.andThen_ok, Sem.run_pure]
theorem bs_one {ops : Array Oper} {rest : List Oper} {o : Oper} {a : Act} {w : World} {Q : Exit → Act → World → Prop} (hgd : o.guard = none) (x : Operand) (ho : o.op = .buildSlice 36 1 #[(0, x)])
    {m : M} (hx : a.eval x = .agg m.cells) (h : wpList Tryz.prog ops Q rest (a.put o.dst (.slice (some ⟨w.heap.size, 0, none⟩) 1 1)) (w.alloc (.cells m.cells 31))) : wpList Tryz.prog ops Q (o :: rest) a w :=
  wpList_plain hgd fun K hK => by
    unfold Oper.wp
    rw [ex_bs ho hx]
    exact hK _ _ h
theorem add_at (g o j : Nat) : (⟨g, o, none⟩ : Addr).add j = ⟨g, o + j, none⟩ := by
  unfold Addr.add
  split
  · rename_i h; rw [h]; rfl
  · rfl
theorem cells_new (m : M) (w : World) : ∀ j u, (m.cells.toList)[j]? = some u → (w.alloc (.cells m.cells 31)).cell? ((⟨w.heap.size, 0, none⟩ : Addr).add j) = some u := by
  intro j u hu
  have := (Bx.new w m).cell j u (by simpa using hu)
  rw [add_at, Nat.zero_add]
  exact this

end Go.Proofs.YteecialdkfaejaaGreatDoor.Ap
