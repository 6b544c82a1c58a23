/-
  TLVs whose fields stand alone: which messages may be, their bytes, and which message a TLV says: definitions on values alone, and facts on them. No conditions.
  Bits of bytes, as numbers: which are 1, which are kept, how many two texts have alike from the first one on.
-/
import Derived.Test.YtjhfpobjbijcpaaDoorA04
import Derived.Test.YtjhfpobjbijcpaaDoorRows
namespace Go.Proofs.YtjhfpobjbijcpaaDoor.G1
open Go.ChangeShapes Go.WideShapes Go.ChangeAt Go.RowKit
open Go.Proofs.YtjhfpobjbijcpaaDoor.Ms
open Go.Proofs.YtjhfpobjbijcpaaDoor.S1
open Go.Proofs.YtjhfpobjbijcpaaDoor.Lk
open Go.Proofs.YtjhfpobjbijcpaaDoor.Nu
open Go.Proofs.YtjhfpobjbijcpaaDoor.Cur (numL)
open Go.Proofs.YtjhfpobjbijcpaaDoor.Oct (fitsB)
open Go.Proofs.YtjhfpobjbijcpaaDoor.Own (k7 k8 k9 k10 ownM isKind fieldsOf)
open Go.Proofs.YtjhfpobjbijcpaaDoor.F1 (bt bt_nn bt_lt num_two putB putO okT encT enc1 ok1 outT placed)
set_option linter.unusedVariables false
set_option maxRecDepth 100000
set_option maxRecDepth 100000

/-- Is it bare? -/
def bare (m : M) : Bool := isKind m && M.same m (ownM m)
theorem is_7 {m : M} (h : m.kind = 7) : isKind m = true ∧ ownM m = { k7 m with kind := m.kind } := by
  have hi : isKind m = true := by simp [isKind, h]
  exact ⟨hi, by simp [ownM, hi, fieldsOf, h]⟩
theorem is_8 {m : M} (h : m.kind = 8) : isKind m = true ∧ ownM m = { k8 m with kind := m.kind } := by
  have hi : isKind m = true := by simp [isKind, h]
  exact ⟨hi, by simp [ownM, hi, fieldsOf, h]⟩
theorem is_9 {m : M} (h : m.kind = 9) : isKind m = true ∧ ownM m = { k9 m with kind := m.kind } := by
  have hi : isKind m = true := by simp [isKind, h]
  exact ⟨hi, by simp [ownM, hi, fieldsOf, h]⟩
theorem is_10 {m : M} (h : m.kind = 10) : isKind m = true ∧ ownM m = { k10 m with kind := m.kind } := by
  have hi : isKind m = true := by simp [isKind, h]
  exact ⟨hi, by simp [ownM, hi, fieldsOf, h]⟩
/-- Is there room for each of its numbers? -/
def nums (m : M) : Bool := fitsB m.nonce 2 && (fitsB m.interval 2 && (fitsB m.seq 2 && fitsB m.cost 2))
/-- How many bytes an address has, by its encoding. -/
def sizeA (ae : Int) : Nat := if ae = 1 then 4 else if ae = 2 then 16 else if ae = 3 then 8 else 0
/-- May an address be, in an encoding? -/
def shB (ae : Int) (a : ByteArray) : Bool := if ae = 3 then link a else decide (0 ≤ ae ∧ ae ≤ 3) && decide (a.size = sizeA ae)
/-- What stands of it; and what stands so. -/
def shT (ae : Int) (a : ByteArray) : ByteArray := if ae = 3 then shA a else if shB ae a then a else ⟨#[]⟩
def lgT (ae : Int) (s : ByteArray) : ByteArray := if ae = 3 then lgA s else s
/-- What a kind has for itself. -/
def kindB (m : M) : Bool := if m.kind = 7 ∨ m.kind = 8 then true else if m.kind = 9 then decide (0 ≤ m.flags ∧ m.flags ≤ 1) else if m.kind = 10 then shB m.ae m.addr else false
/-- May it be? -/
def okF (m : M) : Bool := bare m && (okS m.sl && (nums m && kindB m))
def typF (m : M) : Int := if m.kind = 7 then 2 else if m.kind = 8 then 3 else if m.kind = 9 then 4 else 5
/-- The fields of each kind. -/
def fld7 (m : M) : List UInt8 := 0 :: 0 :: (layN m.nonce 2 ++ layN m.interval 2)
def fld9 (m : M) : List UInt8 := layN (m.flags * 32768) 2 ++ (layN m.seq 2 ++ layN m.interval 2)
def fld10 (m : M) : List UInt8 := layN m.ae 1 ++ (0 :: (layN m.cost 2 ++ (layN m.interval 2 ++ (shT m.ae m.addr).data.toList)))
def fldF (m : M) : List UInt8 := if m.kind = 7 then fld7 m else if m.kind = 8 then layN m.nonce 2 else if m.kind = 9 then fld9 m else fld10 m
/-- A TLV's data; its bytes. -/
def datF (m : M) : ByteArray := ⟨(fldF m ++ (putS m.sl).data.toList).toArray⟩
def putF (m : M) : ByteArray := if okF m then putO (typF m) (datF m) else ⟨#[]⟩
theorem putF_yes {m : M} (h : okF m = true) : putF m = putO (typF m) (datF m) := by unfold putF; rw [if_pos h]
theorem putF_no {m : M} (h : okF m = false) : putF m = ⟨#[]⟩ := by unfold putF; rw [if_neg (by rw [h]; exact Bool.false_ne_true)]

/-- The number of two bytes. -/
def num2 (d : ByteArray) (a : Nat) : Int := ((numL ((d.data.toList.drop a).take 2) : Nat) : Int)
/-- What the fields of each type say. -/
def hd2 (d : ByteArray) : M := { M.zero with kind := 7, nonce := num2 d 2, interval := num2 d 4 }
def hd3 (d : ByteArray) : M := { M.zero with kind := 8, nonce := num2 d 0 }
def hd4 (d : ByteArray) : M := { M.zero with kind := 9, flags := bt d 0 / 128, seq := num2 d 2, interval := num2 d 4 }
def hd5 (d : ByteArray) : M := { M.zero with kind := 10, ae := bt d 0, cost := num2 d 2, interval := num2 d 4, addr := lgT (bt d 0) (d.extract 6 (6 + sizeA (bt d 0))) }
def hdF (t : Int) (d : ByteArray) : M := if t = 2 then hd2 d else if t = 3 then hd3 d else if t = 4 then hd4 d else hd5 d
/-- How many bytes the fields have. -/
def szF (t : Int) (d : ByteArray) : Nat := if t = 3 then 2 else if t = 5 then 6 + sizeA (bt d 0) else 6
/-- Is it an Ihu of an encoding that there isn't? -/
def noF (t : Int) (d : ByteArray) : Prop := t = 5 ∧ 3 < bt d 0
/-- The message that a TLV says, whether it counts, the error. -/
noncomputable def outF (t : Int) (d : ByteArray) : M × Bool × Int :=
  open Classical in
  if d.size < szF t d then (M.zero, false, 2) else if noF t d then (M.zero, false, 0)
  else if (outS (d.extract (szF t d) d.size)).2.2 = 0 ∧ (outS (d.extract (szF t d) d.size)).2.1 = true then ({ hdF t d with sl := (outS (d.extract (szF t d) d.size)).1 }, true, 0)
  else (M.zero, false, (outS (d.extract (szF t d) d.size)).2.2)
theorem out_yes {t : Int} {d : ByteArray} {l : List El} (h : ¬ d.size < szF t d) (k : ¬ noF t d) (o : outS (d.extract (szF t d) d.size) = (l, true, 0)) : outF t d = ({ hdF t d with sl := l }, true, 0) := by
  unfold outF; rw [if_neg h, if_neg k, o, if_pos ⟨rfl, rfl⟩]
theorem size_list (a : ByteArray) : a.data.toList.length = a.size := by simp

theorem sizeA_le (ae : Int) : sizeA ae ≤ 16 := by unfold sizeA; split <;> (try split) <;> (try split) <;> omega
theorem sh_3 (a : ByteArray) : shB 3 a = link a ∧ shT 3 a = shA a := ⟨rfl, rfl⟩
theorem sh_n {ae : Int} (h : ¬ ae = 3) (a : ByteArray) : shB ae a = (decide (0 ≤ ae ∧ ae ≤ 3) && decide (a.size = sizeA ae)) ∧ shT ae a = if shB ae a then a else ⟨#[]⟩ := by
  unfold shT shB; rw [if_neg h, if_neg h]; exact ⟨rfl, rfl⟩
theorem sh_facts {ae : Int} {a : ByteArray} (h : shB ae a = true) : 0 ≤ ae ∧ ae ≤ 3 ∧ (shT ae a).size = sizeA ae ∧ lgT ae (shT ae a) = a := by
  by_cases h3 : ae = 3
  · subst h3
    exact ⟨by decide, by decide, sh_size h, lg_sh h⟩
  · have e := h
    rw [(sh_n h3 a).1] at e
    simp only [Bool.and_eq_true, decide_eq_true_eq] at e
    have e2 : shT ae a = a := by rw [(sh_n h3 a).2, if_pos h]
    exact ⟨e.1.1, e.1.2, by rw [e2]; exact e.2, by rw [e2]; unfold lgT; rw [if_neg h3]⟩
structure Ok (m : M) : Prop where
  bare : bare m = true
  subs : okS m.sl = true
  nonce : fitsB m.nonce 2 = true
  interval : fitsB m.interval 2 = true
  seq : fitsB m.seq 2 = true
  cost : fitsB m.cost 2 = true
  kind : kindB m = true
theorem ok_iff (m : M) : okF m = true ↔ Ok m := by
  unfold okF nums
  simp only [Bool.and_eq_true]
  exact ⟨fun ⟨a, b, ⟨c, d, e, f⟩, g⟩ => ⟨a, b, c, d, e, f, g⟩, fun ⟨a, b, c, d, e, f, g⟩ => ⟨a, b, ⟨c, d, e, f⟩, g⟩⟩
theorem kind_cases {m : M} (h : kindB m = true) : m.kind = 7 ∨ m.kind = 8 ∨ (m.kind = 9 ∧ 0 ≤ m.flags ∧ m.flags ≤ 1) ∨ (m.kind = 10 ∧ shB m.ae m.addr = true) := by
  unfold kindB at h
  split at h
  · rename_i h1
    rcases h1 with h1 | h1
    · exact .inl h1
    · exact .inr (.inl h1)
  split at h
  · rename_i h1 h2
    exact .inr (.inr (.inl ⟨h2, by simpa using h⟩))
  split at h
  · rename_i h1 h2 h3
    exact .inr (.inr (.inr ⟨h3, h⟩))
  · cases h
theorem fits2 {n : Int} (h0 : 0 ≤ n) (h1 : n < 65536) : fitsB n 2 = true := (Oct.fitsB_iff n 2).2 ⟨by omega, by omega, h0, by simpa [Oct.pw] using h1⟩
theorem fits1 {n : Int} (h0 : 0 ≤ n) (h1 : n < 256) : fitsB n 1 = true := (Oct.fitsB_iff n 1).2 ⟨by omega, by omega, h0, by simpa [Oct.pw] using h1⟩
theorem flags_fit {n : Int} (h0 : 0 ≤ n) (h1 : n ≤ 1) : fitsB (n * 32768) 2 = true := fits2 (by omega) (by omega)

theorem f_7 {m : M} (h : m.kind = 7) : typF m = 2 ∧ fldF m = fld7 m := by unfold typF fldF; rw [if_pos h, if_pos h]; exact ⟨rfl, rfl⟩
theorem f_8 {m : M} (h : m.kind = 8) : typF m = 3 ∧ fldF m = layN m.nonce 2 := by
  unfold typF fldF; rw [if_neg (by omega), if_pos h, if_neg (by omega), if_pos h]; exact ⟨rfl, rfl⟩
theorem f_9 {m : M} (h : m.kind = 9) : typF m = 4 ∧ fldF m = fld9 m := by
  unfold typF fldF; rw [if_neg (by omega), if_neg (by omega), if_pos h, if_neg (by omega), if_neg (by omega), if_pos h]; exact ⟨rfl, rfl⟩
theorem f_10 {m : M} (h : m.kind = 10) : typF m = 5 ∧ fldF m = fld10 m := by
  unfold typF fldF; rw [if_neg (by omega), if_neg (by omega), if_neg (by omega), if_neg (by omega), if_neg (by omega), if_neg (by omega)]; exact ⟨rfl, rfl⟩
theorem fld_len {m : M} (h : okF m = true) : (fldF m).length ≤ 22 ∧ 2 ≤ typF m ∧ typF m ≤ 5 := by
  obtain ⟨_, _, n1, n2, n3, n4, hk⟩ := (ok_iff m).1 h
  rcases kind_cases hk with k | k | ⟨k, f0, f1⟩ | ⟨k, ha⟩
  · rw [(f_7 k).1, (f_7 k).2]; unfold fld7; simp [lay_len n1, lay_len n2]
  · rw [(f_8 k).1, (f_8 k).2]; simp [lay_len n1]
  · rw [(f_9 k).1, (f_9 k).2]; unfold fld9; simp [lay_len (flags_fit f0 f1), lay_len n2, lay_len n3]
  · obtain ⟨a0, a1, a2, _⟩ := sh_facts ha
    have := sizeA_le m.ae
    rw [(f_10 k).1, (f_10 k).2]; unfold fld10
    simp [lay_len n2, lay_len n4, lay_len (fits1 (n := m.ae) a0 (by omega)), a2]
    omega
theorem dat_size (m : M) : (datF m).size = (fldF m).length + (putS m.sl).size := by
  show (fldF m ++ (putS m.sl).data.toList).toArray.size = _
  simp
theorem dat_le {m : M} (h : okF m = true) : (datF m).size ≤ 222 := by
  have := (fld_len h).1
  have := putS_le m.sl
  rw [dat_size]; omega
theorem putB_yes {m : M} (h : okF m = true) : putB (typF m) (datF m) = true := by
  have := fld_len h
  have := dat_le h
  unfold putB
  simp
  omega
theorem putF_ok {m : M} (h : okF m = true) : (putF m).data.toList = enc1 (datF m, typF m) ∧ ok1 (datF m, typF m) := by
  have h1 := fld_len h
  have h2 := dat_le h
  have ho : ok1 (datF m, typF m) := ⟨by show 0 ≤ typF m; omega, by show typF m ≤ 255; omega, by show (datF m).size ≤ 255; omega, fun e => by have : typF m = 0 := e; omega⟩
  refine ⟨?_, ho⟩
  rw [putF_yes h, (F1.put_ok ho (by show ¬ typF m = 0; omega)).2]
theorem cut7 (c0 c1 : UInt8) (x1 x2 r : List UInt8) (h1 : x1.length = 2) (h2 : x2.length = 2) :
    ((c0 :: c1 :: (x1 ++ (x2 ++ r))).drop 2).take 2 = x1 ∧ ((c0 :: c1 :: (x1 ++ (x2 ++ r))).drop 4).take 2 = x2 ∧ (c0 :: c1 :: (x1 ++ (x2 ++ r))).drop 6 = r ∧ (c0 :: c1 :: (x1 ++ (x2 ++ r))).length = 6 + r.length := by
  match x1, h1, x2, h2 with
  | [_, _], _, [_, _], _ => exact ⟨rfl, rfl, rfl, by simp; omega⟩
theorem cut8 (x1 r : List UInt8) (h1 : x1.length = 2) : (x1 ++ r).take 2 = x1 ∧ (x1 ++ r).drop 2 = r := by
  match x1, h1 with
  | [_, _], _ => exact ⟨rfl, rfl⟩
theorem cut9 (x0 x1 x2 r : List UInt8) (h0 : x0.length = 2) (h1 : x1.length = 2) (h2 : x2.length = 2) :
    (x0 ++ (x1 ++ (x2 ++ r))).take 2 = x0 ∧ ((x0 ++ (x1 ++ (x2 ++ r))).drop 2).take 2 = x1 ∧ ((x0 ++ (x1 ++ (x2 ++ r))).drop 4).take 2 = x2 ∧ (x0 ++ (x1 ++ (x2 ++ r))).drop 6 = r := by
  match x0, h0, x1, h1, x2, h2 with
  | [_, _], _, [_, _], _, [_, _], _ => exact ⟨rfl, rfl, rfl, rfl⟩
theorem num2_of {d : ByteArray} {a : Nat} {v : Int} (h : (d.data.toList.drop a).take 2 = layN v 2) (hf : fitsB v 2 = true) : num2 d a = v := by unfold num2; rw [h]; exact lay_num hf
theorem ext_to (d : ByteArray) (a : Nat) : (d.extract a d.size).data.toList = d.data.toList.drop a := by
  rw [ext_list, List.take_of_length_le (by rw [List.length_drop, size_list]; exact Nat.le_refl _)]
/-- A message that may be is that of its TLV. -/
theorem put_back {m : M} (h : okF m = true) : outF (typF m) (datF m) = ({ ownM m with sa := none, sc := 0 }, true, 0) := by
  obtain ⟨_, hx, n1, n2, n3, n4, hk⟩ := (ok_iff m).1 h
  have hl : (datF m).data.toList = fldF m ++ (putS m.sl).data.toList := rfl
  generalize datF m = d at *
  have tail : ∀ z, d.data.toList.drop z = (putS m.sl).data.toList → outS (d.extract z d.size) = (m.sl, true, 0) := fun z hz => by
    rw [show d.extract z d.size = putS m.sl from text_eq (by rw [ext_to, hz])]
    exact put_out hx
  rcases kind_cases hk with k | k | ⟨k, f0, f1⟩ | ⟨k, ha⟩
  · rw [(f_7 k).2] at hl
    rw [(f_7 k).1, (is_7 k).2]
    have e : d.data.toList = 0 :: 0 :: (layN m.nonce 2 ++ (layN m.interval 2 ++ (putS m.sl).data.toList)) := by rw [hl]; simp [fld7]
    obtain ⟨q1, q2, q3, q4⟩ := cut7 0 0 _ _ (putS m.sl).data.toList (lay_len n1) (lay_len n2)
    rw [← e] at q1 q2 q3 q4
    rw [out_yes (t := 2) (by show ¬ d.size < 6; rw [← size_list, q4]; omega) (fun x => by have := x.1; omega) (tail 6 q3)]
    rw [show hdF 2 d = hd2 d from rfl]
    unfold hd2
    rw [num2_of q1 n1, num2_of q2 n2, k]
    rfl
  · rw [(f_8 k).2] at hl
    rw [(f_8 k).1, (is_8 k).2]
    obtain ⟨q1, q2⟩ := cut8 _ (putS m.sl).data.toList (lay_len n1)
    have hz : 2 ≤ d.size := by rw [← size_list, hl, List.length_append, lay_len (k := 2) n1]; omega
    rw [← hl] at q1 q2
    rw [out_yes (t := 3) (by show ¬ d.size < 2; omega) (fun x => by have := x.1; omega) (tail 2 q2)]
    rw [show hdF 3 d = hd3 d from rfl]
    unfold hd3
    rw [num2_of (a := 0) q1 n1, k]
    rfl
  · rw [(f_9 k).2] at hl
    rw [(f_9 k).1, (is_9 k).2]
    have hff := flags_fit f0 f1
    have e : d.data.toList = layN (m.flags * 32768) 2 ++ (layN m.seq 2 ++ (layN m.interval 2 ++ (putS m.sl).data.toList)) := by rw [hl]; simp [fld9]
    have hz : 6 ≤ d.size := by rw [← size_list, e]; simp only [List.length_append, lay_len hff, lay_len n2, lay_len n3]; omega
    obtain ⟨q0, q1, q2, q3⟩ := cut9 _ _ _ (putS m.sl).data.toList (lay_len hff) (lay_len n3) (lay_len n2)
    rw [← e] at q0 q1 q2 q3
    rw [out_yes (t := 4) (by show ¬ d.size < 6; omega) (fun x => by have := x.1; omega) (tail 6 q3)]
    rw [show hdF 4 d = hd4 d from rfl]
    have hb : bt d 0 / 128 = m.flags := by
      have e1 : 256 * bt d 0 + bt d 1 = m.flags * 32768 := (num_two d 0 (by omega)).symm.trans (num2_of (a := 0) q0 hff)
      have := bt_nn d 1
      have := bt_lt d 1
      omega
    unfold hd4
    rw [hb, num2_of q1 n3, num2_of q2 n2, k]
    rfl
  · rw [(f_10 k).2] at hl
    rw [(f_10 k).1, (is_10 k).2]
    obtain ⟨a0, a1, a2, a3⟩ := sh_facts ha
    have hf := fits1 (n := m.ae) a0 (by omega)
    obtain ⟨c, hc⟩ : ∃ c, layN m.ae 1 = [c] := by
      have := lay_len hf
      match layN m.ae 1, this with
      | [c], _ => exact ⟨c, rfl⟩
    have e : d.data.toList = c :: 0 :: (layN m.cost 2 ++ (layN m.interval 2 ++ ((shT m.ae m.addr).data.toList ++ (putS m.sl).data.toList))) := by rw [hl]; simp [fld10, hc]
    obtain ⟨q1, q2, q3, q4⟩ := cut7 c 0 _ _ ((shT m.ae m.addr).data.toList ++ (putS m.sl).data.toList) (lay_len n4) (lay_len n2)
    rw [← e] at q1 q2 q3 q4
    have hb : bt d 0 = m.ae := by
      have e1 := lay_num hf
      rw [hc] at e1
      unfold bt
      rw [e]
      show (c.toNat : Int) = _
      rw [← e1]
      simp [numL]
    have hz : d.size = 6 + (sizeA m.ae + (putS m.sl).size) := by rw [← size_list, q4, List.length_append, size_list, size_list, a2]
    have e6 : d.data.toList.drop (6 + sizeA m.ae) = (putS m.sl).data.toList := by
      rw [← List.drop_drop, q3, ← a2, ← size_list]
      exact List.drop_left ..
    have ea : d.extract 6 (6 + sizeA m.ae) = shT m.ae m.addr := text_eq (by
      rw [ext_list, Nat.add_sub_cancel_left, q3, ← a2, ← size_list]
      exact List.take_left ..)
    have hs : szF 5 d = 6 + sizeA m.ae := by show 6 + sizeA (bt d 0) = _; rw [hb]
    rw [out_yes (t := 5) (l := m.sl) (by rw [hs]; omega) (fun x => by have := x.2; omega) (by rw [hs]; exact tail _ e6)]
    rw [show hdF 5 d = hd5 d from rfl]
    unfold hd5
    rw [hb, ea, a3, num2_of q1 n4, num2_of q2 n2, k]
    rfl
end Go.Proofs.YtjhfpobjbijcpaaDoor.G1
namespace Go.Proofs.YtjhfpobjbijcpaaDoor.Bits
set_option linter.unusedVariables false
set_option maxRecDepth 100000

/-- the i-th bit of a byte's number, the highest first -/
def bitN (b p : Nat) : Bool := b.testBit (7 - p)

theorem bitN_eq (b p : Nat) : bitN b p = (b / 2 ^ (7 - p) % 2 == 1) := by
  unfold bitN
  rw [Nat.testBit_eq_decide_div_mod_eq]
  by_cases h : b / 2 ^ (7 - p) % 2 = 1 <;> simp [h]

theorem getD_in (l : List UInt8) (k : Nat) (h : k < l.length) : l.getD k 0 = l[k] := by simp [List.getD, h]
theorem getD_out (l : List UInt8) (k : Nat) (h : l.length ≤ k) : l.getD k 0 = 0 := by simp [List.getD, h]

def bitL (l : List UInt8) (i : Nat) : Bool := bitN (l.getD (i / 8) 0).toNat (i % 8)

theorem bitL_out (l : List UInt8) (i : Nat) (h : 8 * l.length ≤ i) : bitL l i = false := by
  unfold bitL
  rw [getD_out _ _ (by omega)]
  simp [bitN]

/-- the first m bits of a byte's number -/
def mask (b m : Nat) : Nat := (b >>> (8 - m)) <<< (8 - m)

theorem mask_eq (b m : Nat) : mask b m = b / 2 ^ (8 - m) * 2 ^ (8 - m) := by
  unfold mask; rw [Nat.shiftLeft_eq, Nat.shiftRight_eq_div_pow]

theorem mask_le (b m : Nat) : mask b m ≤ b := by rw [mask_eq]; exact Nat.div_mul_le_self _ _

theorem mask_all (b m : Nat) (h : 8 ≤ m) : mask b m = b := by
  rw [mask_eq, show 8 - m = 0 by omega]; simp

theorem mask_none (b : Nat) (h : b < 256) : mask b 0 = 0 := by
  rw [mask_eq]; omega

theorem bitN_mask (b m p : Nat) (hp : p < 8) : bitN (mask b m) p = (decide (p < m) && bitN b p) := by
  unfold bitN mask
  rw [Nat.testBit_shiftLeft, Nat.testBit_shiftRight]
  by_cases h : p < m
  · have e : 7 - p ≥ 8 - m := by omega
    simp [h, e]
  · have e : ¬ 7 - p ≥ 8 - m := by omega
    simp [h, e]

theorem bitN_xor (a b p : Nat) : bitN (a ^^^ b) p = (bitN a p ^^ bitN b p) := by
  unfold bitN; rw [Nat.testBit_xor]

/-- a number below 256 is its eight bits -/
theorem byte_ext {a b : Nat} (ha : a < 256) (hb : b < 256) (h : ∀ p, p < 8 → bitN a p = bitN b p) : a = b := by
  apply Nat.eq_of_testBit_eq
  intro j
  by_cases hj : j < 8
  · have := h (7 - j) (by omega)
    unfold bitN at this
    rw [show 7 - (7 - j) = j by omega] at this
    exact this
  · rw [Nat.testBit_lt_two_pow (Nat.lt_of_lt_of_le ha (show 256 ≤ 2 ^ j from Nat.pow_le_pow_right (n := 2) (by decide) (show 8 ≤ j by omega))),
      Nat.testBit_lt_two_pow (Nat.lt_of_lt_of_le hb (show 256 ≤ 2 ^ j from Nat.pow_le_pow_right (n := 2) (by decide) (show 8 ≤ j by omega)))]

theorem list_ext {a b : List UInt8} (hl : a.length = b.length) (h : ∀ i, i < 8 * a.length → bitL a i = bitL b i) : a = b := by
  apply List.ext_getElem hl
  intro k h1 h2
  apply UInt8.toNat_inj.1
  apply byte_ext (UInt8.toNat_lt _) (UInt8.toNat_lt _)
  intro p hp
  have := h (8 * k + p) (by omega)
  unfold bitL at this
  rw [show (8 * k + p) / 8 = k by omega, show (8 * k + p) % 8 = p by omega] at this
  rw [getD_in _ _ h1, getD_in _ _ h2] at this
  exact this

/-- the first n bits as they are, all others 0 -/
def keepL (l : List UInt8) (n : Nat) : List UInt8 := l.mapIdx fun j b => UInt8.ofNat (mask b.toNat (n - 8 * j))

theorem keepL_length (l : List UInt8) (n : Nat) : (keepL l n).length = l.length := by simp [keepL]

theorem ofNat_mask (b : UInt8) (m : Nat) : (UInt8.ofNat (mask b.toNat m)).toNat = mask b.toNat m := by
  have h := mask_le b.toNat m
  have := UInt8.toNat_lt b
  rw [UInt8.toNat_ofNat']
  omega

theorem keepL_get (l : List UInt8) (n j : Nat) (h : j < (keepL l n).length) : ((keepL l n)[j]).toNat = mask (l[j]'(by simpa [keepL_length] using h)).toNat (n - 8 * j) := by
  simp only [keepL, List.getElem_mapIdx]
  exact ofNat_mask _ _

theorem bitL_keep (l : List UInt8) (n i : Nat) : bitL (keepL l n) i = (decide (i < n) && bitL l i) := by
  by_cases h : i < 8 * l.length
  · unfold bitL
    rw [getD_in _ _ (show i / 8 < (keepL l n).length by rw [keepL_length]; omega), getD_in _ _ (show i / 8 < l.length by omega), keepL_get, bitN_mask _ _ _ (by omega)]
    congr 1
    by_cases hn : i < n
    · simp [hn]; omega
    · simp [hn]; omega
  · rw [bitL_out _ _ (by rw [keepL_length]; omega), bitL_out l i (by omega)]; simp

theorem keepL_all (l : List UInt8) (n : Nat) (h : 8 * l.length ≤ n) : keepL l n = l := by
  apply list_ext (by simp [keepL_length])
  intro i hi
  rw [keepL_length] at hi
  rw [bitL_keep]
  simp; omega

theorem keepL_min (l : List UInt8) (n : Nat) : keepL l (min n (8 * l.length)) = keepL l n := by
  apply list_ext (by simp [keepL_length])
  intro i hi
  rw [keepL_length] at hi
  rw [bitL_keep, bitL_keep]
  congr 1
  by_cases h : i < n <;> simp [h] <;> omega

/-- how many hold, from 0 on, below m -/
def lead (p : Nat → Bool) : Nat → Nat
  | 0 => 0
  | m + 1 => if lead p m = m ∧ p m = true then m + 1 else lead p m

theorem lead_le (p : Nat → Bool) (m : Nat) : lead p m ≤ m := by
  induction m with
  | zero => exact Nat.le_refl _
  | succ m ih => unfold lead; split <;> omega

theorem lead_below (p : Nat → Bool) (m i : Nat) (h : i < lead p m) : p i = true := by
  induction m with
  | zero => simp [lead] at h
  | succ m ih =>
    unfold lead at h
    split at h
    · rename_i hc
      by_cases e : i = m
      · rw [e]; exact hc.2
      · exact ih (by omega)
    · exact ih h

theorem lead_at (p : Nat → Bool) (m : Nat) (h : lead p m < m) : p (lead p m) = false := by
  induction m with
  | zero => omega
  | succ m ih =>
    have hle := lead_le p m
    unfold lead at h ⊢
    split at h
    · omega
    · rename_i hc
      rw [if_neg hc]
      by_cases e : lead p m = m
      · rw [e]
        by_cases hp : p m = true
        · exact absurd ⟨e, hp⟩ hc
        · simpa using hp
      · exact ih (by omega)

theorem lead_eq (p : Nat → Bool) (m k : Nat) (hk : k ≤ m) (h1 : ∀ i, i < k → p i = true) (h2 : k < m → p k = false) : lead p m = k := by
  have hle := lead_le p m
  by_cases h : lead p m < k
  · have := lead_at p m (by omega)
    rw [h1 _ h] at this
    cases this
  · by_cases h' : k < lead p m
    · have := lead_below p m k h'
      rw [h2 (by omega)] at this
      cases this
    · omega

/-- how many bits both have alike -/
def alikeN (a b : List UInt8) : Nat := lead (fun i => bitL a i == bitL b i) (8 * min a.length b.length)

/-- how many bits of a byte's number are 0 ahead of the first 1 -/
def noughts (b : Nat) : Nat := lead (fun p => !bitN b p) 8

theorem noughts_eq (b k : Nat) (hk : k ≤ 8) (h1 : b < 2 ^ (8 - k)) (h2 : k < 8 → 2 ^ (7 - k) ≤ b) : noughts b = k := by
  apply lead_eq _ _ _ hk
  · intro p hp
    have : b.testBit (7 - p) = false := Nat.testBit_lt_two_pow (Nat.lt_of_lt_of_le h1 (Nat.pow_le_pow_right (by decide) (by omega)))
    simp [bitN, this]
  · intro h
    have h2 := h2 h
    have e : b / 2 ^ (7 - k) = 1 := by
      have hp : 0 < 2 ^ (7 - k) := Nat.two_pow_pos _
      have hh : b < 2 * 2 ^ (7 - k) := by
        have : 2 ^ (8 - k) = 2 * 2 ^ (7 - k) := by rw [show 8 - k = (7 - k) + 1 by omega, Nat.pow_succ]; omega
        omega
      have := (Nat.div_lt_iff_lt_mul hp).2 hh
      have := (Nat.le_div_iff_mul_le hp).2 (show 1 * 2 ^ (7 - k) ≤ b by omega)
      omega
    show (!bitN b k) = false
    rw [bitN_eq, e]; rfl

theorem noughts_below (b p : Nat) (h : p < noughts b) : bitN b p = false := by
  have := lead_below (fun p => !bitN b p) 8 p h
  simpa using this
theorem noughts_at (b : Nat) (h : noughts b < 8) : bitN b (noughts b) = true := by
  have : (!bitN b (noughts b)) = false := lead_at (fun p => !bitN b p) 8 h
  simpa using this
theorem noughts_le (b : Nat) : noughts b ≤ 8 := lead_le _ _

theorem xor_noughts (a b : Nat) (ha : a < 256) (hb : b < 256) (hne : a ≠ b) :
    ∃ z, noughts (a ^^^ b) = z ∧ z < 8 ∧ (∀ p, p < z → bitN a p = bitN b p) ∧ bitN a z ≠ bitN b z := by
  have hsame : ∀ p, p < noughts (a ^^^ b) → bitN a p = bitN b p := by
    intro p hp
    have := noughts_below _ p hp
    rw [bitN_xor] at this
    revert this
    cases bitN a p <;> cases bitN b p <;> simp
  have hz : noughts (a ^^^ b) < 8 := by
    have hle := noughts_le (a ^^^ b)
    by_cases h : noughts (a ^^^ b) < 8
    · exact h
    · exact absurd (byte_ext ha hb fun p hp => hsame p (by omega)) hne
  refine ⟨_, rfl, hz, hsame, ?_⟩
  have := noughts_at _ hz
  rw [bitN_xor] at this
  revert this
  cases bitN a (noughts (a ^^^ b)) <;> cases bitN b (noughts (a ^^^ b)) <;> simp

theorem take_get (a b : List UInt8) (i k : Nat) (h : a.take i = b.take i) (hk : k < i) : a.getD k 0 = b.getD k 0 := by
  have h1 : (a.take i)[k]? = (b.take i)[k]? := by rw [h]
  rw [List.getElem?_take_of_lt hk, List.getElem?_take_of_lt hk] at h1
  simp [List.getD, h1]

/-- bytes that are the same up to the i-th, which isn't -/
theorem alike_differ (a b : List UInt8) (i : Nat) (ha : i < a.length) (hb : i < b.length) (hsame : a.take i = b.take i) (hne : a[i].toNat ≠ b[i].toNat) :
    alikeN a b = 8 * i + noughts (a[i].toNat ^^^ b[i].toNat) := by
  obtain ⟨z, hz, hz8, hzs, hzd⟩ := xor_noughts a[i].toNat b[i].toNat (UInt8.toNat_lt _) (UInt8.toNat_lt _) hne
  rw [hz]
  unfold alikeN
  apply lead_eq
  · have : i + 1 ≤ min a.length b.length := by omega
    omega
  · intro j hj
    simp only [bitL]
    by_cases hji : j / 8 < i
    · rw [take_get a b i (j / 8) hsame hji]
      simp
    · have e : j / 8 = i := by omega
      rw [e, getD_in _ _ ha, getD_in _ _ hb, hzs (j % 8) (by omega)]
      simp
  · intro _
    simp only [bitL]
    rw [show (8 * i + z) / 8 = i by omega, show (8 * i + z) % 8 = z by omega, getD_in _ _ ha, getD_in _ _ hb]
    simpa using hzd

/-- no byte differs up to the shorter one's end -/
theorem alike_full (a b : List UInt8) (h : a.take (min a.length b.length) = b.take (min a.length b.length)) : alikeN a b = 8 * min a.length b.length := by
  unfold alikeN
  apply lead_eq _ _ _ (Nat.le_refl _)
  · intro j hj
    simp only [bitL]
    rw [take_get a b _ (j / 8) h (by omega)]
    simp
  · intro h; omega

theorem alike_le (a b : List UInt8) : alikeN a b ≤ 8 * min a.length b.length := lead_le _ _
theorem alike_below (a b : List UInt8) (i : Nat) (h : i < alikeN a b) : bitL a i = bitL b i := by
  have := lead_below (fun i => bitL a i == bitL b i) _ i h
  simpa using this
/-- the row that a copy and one masked byte make -/
theorem keepL_parts (l : List UInt8) (n : Nat) (h : n ≤ 8 * l.length) :
    keepL l n = if n % 8 = 0 then l.take (n / 8) ++ List.replicate (l.length - n / 8) 0
      else (l.take (n / 8) ++ List.replicate (l.length - n / 8) 0).set (n / 8) (UInt8.ofNat (mask (l.getD (n / 8) 0).toNat (n % 8))) := by
  have hbase : ∀ k (h1 : k < l.length), k ≠ n / 8 ∨ n % 8 = 0 → (keepL l n)[k]'(by simpa [keepL_length] using h1) = (l.take (n / 8) ++ List.replicate (l.length - n / 8) 0)[k]'(by simp; omega) := by
    intro k hk hc
    apply UInt8.toNat_inj.1
    rw [keepL_get, List.getElem_append]
    split
    · rename_i hlt
      simp at hlt
      rw [mask_all _ _ (by omega), List.getElem_take]
    · rename_i hlt
      simp at hlt
      rw [show n - 8 * k = 0 by omega, mask_none _ (UInt8.toNat_lt _), List.getElem_replicate]
      rfl
  have hlen : (l.take (n / 8) ++ List.replicate (l.length - n / 8) (0 : UInt8)).length = l.length := by simp; omega
  split
  · rename_i h0
    apply List.ext_getElem (by rw [hlen, keepL_length])
    intro k h1 h2
    rw [keepL_length] at h1
    exact hbase k h1 (.inr h0)
  · rename_i h0
    apply List.ext_getElem (by rw [List.length_set, hlen, keepL_length])
    intro k h1 h2
    rw [keepL_length] at h1
    rw [List.getElem_set]
    split
    · rename_i e
      subst e
      apply UInt8.toNat_inj.1
      rw [keepL_get, ofNat_mask, getD_in _ _ h1]
      congr 1
      omega
    · rename_i e
      exact hbase k h1 (.inl fun he => e he.symm)
end Go.Proofs.YtjhfpobjbijcpaaDoor.Bits
