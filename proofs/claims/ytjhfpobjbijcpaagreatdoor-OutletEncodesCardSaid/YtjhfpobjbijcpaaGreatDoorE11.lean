/-
  What is known at a place, which Updates may be, what a TLV makes of what is known and tells: definitions on values alone, and facts on them. No conditions.
  The messages of Babel's TLVs, of a body and of a datagram, and what is known behind them: definitions on values alone, and facts on them. No conditions.
  Babel's messages in as few bytes as what is known lets: their TLVs, and what these tell where it is known: definitions on values alone, and facts on them. No conditions.
  How many bytes two texts have alike: they are, and one more isn't. No conditions.
-/
import Derived.Test.YtjhfpobjbijcpaaGreatDoorE07
import Derived.Test.YtjhfpobjbijcpaaGreatDoorE08
import Derived.Test.YtjhfpobjbijcpaaGreatDoorE09
import Derived.Test.YtjhfpobjbijcpaaGreatDoorE10
namespace Go.Proofs.YtjhfpobjbijcpaaGreatDoor.K1
open Go.ChangeShapes Go.WideShapes Go.ChangeAt Go.RowKit
open Go.Proofs.YtjhfpobjbijcpaaGreatDoor.Ms
open Go.Proofs.YtjhfpobjbijcpaaGreatDoor.S1
open Go.Proofs.YtjhfpobjbijcpaaGreatDoor.Lk
open Go.Proofs.YtjhfpobjbijcpaaGreatDoor.Nu
open Go.Proofs.YtjhfpobjbijcpaaGreatDoor.J1
open Go.Proofs.YtjhfpobjbijcpaaGreatDoor.Oct (fitsB)
open Go.Proofs.YtjhfpobjbijcpaaGreatDoor.Own (k11 ownM isKind fieldsOf)
open Go.Proofs.YtjhfpobjbijcpaaGreatDoor.Bits (keepL keepL_length)
open Go.Proofs.YtjhfpobjbijcpaaGreatDoor.Pre (leastN fillL rightZ)
open Go.Proofs.YtjhfpobjbijcpaaGreatDoor.F1 (bt bt_nn bt_lt)
set_option linter.unusedVariables false
set_option maxRecDepth 100000
set_option maxRecDepth 100000

/-- What is known at a place. -/
structure Kx where
  p0 : ByteArray
  p1 : ByteArray
  p2 : ByteArray
  p3 : ByteArray
  n0 : ByteArray
  n1 : ByteArray
  id : ByteArray
def Kx.zero : Kx := ⟨ByteArray.empty, ByteArray.empty, ByteArray.empty, ByteArray.empty, ByteArray.empty, ByteArray.empty, ByteArray.empty⟩
def Kx.cells (c : Kx) : Array Value := #[.string c.p0, .string c.p1, .string c.p2, .string c.p3, .string c.n0, .string c.n1, .string c.id]
/-- The default prefix of an encoding, the next hop of a family; with another one. -/
def Kx.pf (c : Kx) (ae : Int) : ByteArray := if ae = 1 then c.p1 else if ae = 2 then c.p2 else if ae = 3 then c.p3 else c.p0
def Kx.nx (c : Kx) (f : Int) : ByteArray := if f = 1 then c.n1 else c.n0
def Kx.setP (c : Kx) (ae : Int) (a : ByteArray) : Kx := if ae = 1 then { c with p1 := a } else if ae = 2 then { c with p2 := a } else if ae = 3 then { c with p3 := a } else { c with p0 := a }
def Kx.setN (c : Kx) (f : Int) (a : ByteArray) : Kx := if f = 1 then { c with n1 := a } else { c with n0 := a }
def emB (a : ByteArray) : Bool := decide (a.size = 0)
def okP (ae : Int) (a : ByteArray) : Bool := emB a || adrB ae a
def okN (k : Nat) (a : ByteArray) : Bool := emB a || decide (a.size = k)
/-- May it be? -/
def okC (c : Kx) : Bool := emB c.p0 && (okP 1 c.p1 && (okP 2 c.p2 && (okP 3 c.p3 && (okN 4 c.n0 && (okN 16 c.n1 && okN 8 c.id)))))
structure Okc (c : Kx) : Prop where
  p0 : c.p0.size = 0
  p1 : c.p1.size = 0 ∨ adrB 1 c.p1 = true
  p2 : c.p2.size = 0 ∨ adrB 2 c.p2 = true
  p3 : c.p3.size = 0 ∨ adrB 3 c.p3 = true
  n0 : c.n0.size = 0 ∨ c.n0.size = 4
  n1 : c.n1.size = 0 ∨ c.n1.size = 16
  id : c.id.size = 0 ∨ c.id.size = 8
theorem okc_iff (c : Kx) : okC c = true ↔ Okc c := by
  unfold okC okP okN emB
  simp only [Bool.and_eq_true, Bool.or_eq_true, decide_eq_true_eq]
  exact ⟨fun ⟨a, b, c, d, e, f, g⟩ => ⟨a, b, c, d, e, f, g⟩, fun ⟨a, b, c, d, e, f, g⟩ => ⟨a, b, c, d, e, f, g⟩⟩
theorem Okc.pf {c : Kx} (h : Okc c) {ae : Int} (h0 : 0 ≤ ae) (h3 : ae ≤ 3) : (c.pf ae).size = 0 ∨ (adrB ae (c.pf ae) = true ∧ ¬ ae = 0) := by
  rcases (show ae = 0 ∨ ae = 1 ∨ ae = 2 ∨ ae = 3 by omega) with rfl | rfl | rfl | rfl
  · exact .inl h.p0
  · exact h.p1.imp (fun x => x) (fun h => ⟨h, by decide⟩)
  · exact h.p2.imp (fun x => x) (fun h => ⟨h, by decide⟩)
  · exact h.p3.imp (fun x => x) (fun h => ⟨h, by decide⟩)
theorem Okc.setP {c : Kx} (h : Okc c) {ae : Int} {a : ByteArray} (h0 : 0 < ae) (h3 : ae ≤ 3) (ha : adrB ae a = true) : Okc (c.setP ae a) := by
  rcases (show ae = 1 ∨ ae = 2 ∨ ae = 3 by omega) with rfl | rfl | rfl
  · exact ⟨h.p0, .inr ha, h.p2, h.p3, h.n0, h.n1, h.id⟩
  · exact ⟨h.p0, h.p1, .inr ha, h.p3, h.n0, h.n1, h.id⟩
  · exact ⟨h.p0, h.p1, h.p2, .inr ha, h.n0, h.n1, h.id⟩
theorem Okc.setI {c : Kx} (h : Okc c) {a : ByteArray} (ha : a.size = 8) : Okc { c with id := a } := ⟨h.p0, h.p1, h.p2, h.p3, h.n0, h.n1, .inr ha⟩
theorem okc_zero : okC Kx.zero = true := rfl

/-- The family of an encoding's addresses, that of an address, the bytes of an encoding's address. -/
def fam (ae : Int) : Int := if ae = 1 then 0 else if ae = 2 ∨ ae = 3 then 1 else -1
def famA (a : ByteArray) : Int := if a.size = 4 then 0 else if a.size = 16 then 1 else -1
def sizeA (ae : Int) : Nat := if ae = 1 then 4 else if ae = 2 then 16 else if ae = 3 then 8 else 0
theorem Okc.setN {c : Kx} (h : Okc c) {ae : Int} {a : ByteArray} (h0 : 0 < ae) (h3 : ae ≤ 3) (ha : a.size = if ae = 1 then 4 else 16) : Okc (c.setN (fam ae) a) := by
  rcases (show ae = 1 ∨ ae = 2 ∨ ae = 3 by omega) with rfl | rfl | rfl
  · exact ⟨h.p0, h.p1, h.p2, h.p3, .inr ha, h.n1, h.id⟩
  · exact ⟨h.p0, h.p1, h.p2, h.p3, h.n0, .inr ha, h.id⟩
  · exact ⟨h.p0, h.p1, h.p2, h.p3, h.n0, .inr ha, h.id⟩
def wayB (m : M) : Bool := if m.metric = 65535 then emB m.id && emB m.next else !decide (m.ae = 0) && (decide (m.id.size = 8) && (emB m.next || decide (famA m.next = fam m.ae)))
/-- May it be an Update? -/
def okU (m : M) : Bool := decide (m.kind = 11) && (bare m && (okS m.sl && (inB m.ae m.pfx m.plen && (fitsB m.interval 2 && (fitsB m.seq 2 && (fitsB m.metric 2 && wayB m))))))

/-- The sub-TLVs from a place on: whether none must be known, or an error. -/
noncomputable def fixO (d : ByteArray) (z : Nat) : Bool × Int := if d.size < z then (false, 2) else (outS (d.extract z d.size)).2
/-- What a router-id's TLV makes, what a next hop's. -/
noncomputable def out6 (c : Kx) (d : ByteArray) : Kx × List M × Int :=
  if (fixO d 10).2 = 0 ∧ (fixO d 10).1 = true then ({ c with id := d.extract 2 10 }, [], 0) else (c, [], (fixO d 10).2)
def hopA (ae : Int) (d : ByteArray) : ByteArray := if ae = 3 then lgA (d.extract 2 (2 + sizeA ae)) else d.extract 2 (2 + sizeA ae)
noncomputable def out7 (c : Kx) (d : ByteArray) : Kx × List M × Int :=
  if d.size < 2 then (c, [], 2)
  else if bt d 0 = 0 ∨ 3 < bt d 0 then (c, [], 0)
  else if (fixO d (2 + sizeA (bt d 0))).2 = 0 ∧ (fixO d (2 + sizeA (bt d 0))).1 = true then (c.setN (fam (bt d 0)) (hopA (bt d 0) d), [], 0)
  else (c, [], (fixO d (2 + sizeA (bt d 0))).2)
/-- An Update's address: the bytes that were left out are the default prefix's. -/
def omL (c : Kx) (u : Up) : List UInt8 := ((c.pf u.ae).data.toList.drop (baseN u.ae)).take u.om.toNat
def adrC (c : Kx) (u : Up) : ByteArray := wholeP u.ae ⟨(omL c u ++ u.bytes.data.toList).toArray⟩ u.plen
/-- The router-id that lies in an address. -/
def idA (a : ByteArray) : ByteArray := ⟨((List.replicate 8 0 ++ a.data.toList).drop a.size).toArray⟩
/-- What is known behind an Update by its flags. -/
def flagC (c : Kx) (u : Up) (a : ByteArray) : Kx :=
  if u.ae = 0 then c
  else if u.flags / 64 % 2 = 1 then { (if 128 ≤ u.flags then c.setP u.ae a else c) with id := idA a }
  else if 128 ≤ u.flags then c.setP u.ae a else c
/-- Is it told? The message. -/
def tellB (c : Kx) (u : Up) : Bool := !decide (u.hav = 0) && (decide (u.metric = 65535) || (!decide (u.ae = 0) && !emB c.id))
def updM (c : Kx) (u : Up) (a : ByteArray) : M :=
  { M.zero with kind := 11, ae := u.ae, pfx := a, plen := u.plen, interval := u.iv, seq := u.seq, metric := u.metric, sl := u.sl,
                id := if u.metric = 65535 then ByteArray.empty else c.id, next := if u.metric = 65535 then ByteArray.empty else c.nx (fam u.ae) }
def stU (c : Kx) (u : Up) : Kx × List M × Int :=
  if 0 < u.om ∧ (c.pf u.ae).size = 0 then (c, [], 9)
  else (flagC c u (adrC c u), if tellB (flagC c u (adrC c u)) u then [updM (flagC c u (adrC c u)) u (adrC c u)] else [], 0)
noncomputable def out8 (c : Kx) (d : ByteArray) : Kx × List M × Int := if (outK d).2.1 = true then stU c (outK d).1 else (c, [], (outK d).2.2)
/-- What a TLV of the types 6 to 8 makes of what is known, what it tells, the error. -/
noncomputable def outC (c : Kx) (t : Int) (d : ByteArray) : Kx × List M × Int := if t = 6 then out6 c d else if t = 7 then out7 c d else out8 c d

theorem adr_len {ae : Int} {a : ByteArray} (h : adrB ae a = true) (h0 : 0 < ae) (h3 : ae ≤ 3) : a.size = if ae = 1 then 4 else 16 := by
  rcases (show ae = 1 ∨ ae = 2 ∨ ae = 3 by omega) with rfl | rfl | rfl
  · simpa [adrB] using h
  · simpa [adrB] using h
  · have h : link a = true := h
    exact link_size h
theorem in_adr {ae : Int} {a : ByteArray} {p : Int} (h : inB ae a p = true) : adrB ae a = true := by unfold inB at h; rw [Bool.and_eq_true] at h; exact h.1
theorem em_size {a : ByteArray} : emB a = true ↔ a.size = 0 := by unfold emB; exact decide_eq_true_iff
end Go.Proofs.YtjhfpobjbijcpaaGreatDoor.K1
namespace Go.Proofs.YtjhfpobjbijcpaaGreatDoor.I1
open Go.ChangeShapes Go.WideShapes Go.ChangeAt Go.RowKit
open Go.Proofs.YtjhfpobjbijcpaaGreatDoor.Ms
open Go.Proofs.YtjhfpobjbijcpaaGreatDoor.S1 (okS outS)
open Go.Proofs.YtjhfpobjbijcpaaGreatDoor.G1 (outF)
open Go.Proofs.YtjhfpobjbijcpaaGreatDoor.J1 (outJ)
open Go.Proofs.YtjhfpobjbijcpaaGreatDoor.K1
open Go.Proofs.YtjhfpobjbijcpaaGreatDoor.F1
open Go.Proofs.YtjhfpobjbijcpaaGreatDoor.Nu (text_eq ext_list)
set_option linter.unusedVariables false
set_option maxRecDepth 100000
set_option maxRecDepth 100000

/-- A message of a type that nobody knows. -/
def opM (t : Int) (d : ByteArray) : M := { M.zero with kind := 14, typ := t, data := d }
/-- A message's answer, beside what is known. -/
def tell (c : Kx) (p : M × Bool × Int) : Kx × List M × Int := (c, if p.2.2 = 0 ∧ p.2.1 = true then [p.1] else [], p.2.2)
/-- A TLV's messages, what is known behind it, or its error. -/
noncomputable def one (c : Kx) (t : Int) (d : ByteArray) : Kx × List M × Int :=
  if t = 0 ∨ t = 1 then (c, [], 0) else if 2 ≤ t ∧ t ≤ 5 then tell c (outF t d) else if 6 ≤ t ∧ t ≤ 8 then outC c t d else if t = 9 ∨ t = 10 then tell c (outJ t d) else (c, [opM t d], 0)
theorem one_f {t : Int} (h2 : 2 ≤ t) (h5 : t ≤ 5) (c : Kx) (d : ByteArray) : one c t d = tell c (outF t d) := by unfold one; rw [if_neg (by omega), if_pos ⟨h2, h5⟩]
theorem one_j {t : Int} (h : t = 9 ∨ t = 10) (c : Kx) (d : ByteArray) : one c t d = tell c (outJ t d) := by unfold one; rw [if_neg (by omega), if_neg (by omega), if_neg (by omega), if_pos h]
theorem one_o {t : Int} (h : t < 0 ∨ 10 < t) (c : Kx) (d : ByteArray) : one c t d = (c, [opM t d], 0) := by unfold one; rw [if_neg (by omega), if_neg (by omega), if_neg (by omega), if_neg (by omega)]

end Go.Proofs.YtjhfpobjbijcpaaGreatDoor.I1
namespace Go.Proofs.YtjhfpobjbijcpaaGreatDoor.L1
open Go.ChangeShapes Go.WideShapes Go.ChangeAt Go.RowKit
open Go.Proofs.YtjhfpobjbijcpaaGreatDoor.Ms
open Go.Proofs.YtjhfpobjbijcpaaGreatDoor.S1 (okS outS putS put_out putS_le outS_yes)
open Go.Proofs.YtjhfpobjbijcpaaGreatDoor.Lk
open Go.Proofs.YtjhfpobjbijcpaaGreatDoor.G1 (outF okF typF datF)
open Go.Proofs.YtjhfpobjbijcpaaGreatDoor.J1
open Go.Proofs.YtjhfpobjbijcpaaGreatDoor.K1
open Go.Proofs.YtjhfpobjbijcpaaGreatDoor.I1
open Go.Proofs.YtjhfpobjbijcpaaGreatDoor.Oct (fitsB)
open Go.Proofs.YtjhfpobjbijcpaaGreatDoor.Own (k11 k14 ownM isKind fieldsOf)
open Go.Proofs.YtjhfpobjbijcpaaGreatDoor.F1 (T okT okT_nil encT enc1 ok1 outT placed bt bt_nn bt_lt encT_append encT_cons encT_nil enc1_len okT_append)
open Go.Proofs.YtjhfpobjbijcpaaGreatDoor.Nu
set_option linter.unusedVariables false
set_option maxRecDepth 100000
set_option maxRecDepth 100000

/-- A message as it comes back. -/
def canM (m : M) : M := { ownM m with sa := none, sc := 0 }
theorem is_14 {m : M} (h : m.kind = 14) : isKind m = true ∧ ownM m = { k14 m with kind := m.kind } := by
  have hi : isKind m = true := by simp [isKind, h]
  exact ⟨hi, by simp [ownM, hi, fieldsOf, h]⟩
theorem can_14 {m : M} (h : m.kind = 14) : canM m = opM m.typ m.data := by
  unfold canM; rw [(is_14 h).2, h]; rfl
/-- An Update, part by part. -/
structure Oku (m : M) : Prop where
  kind : m.kind = 11
  bare : bare m = true
  subs : okS m.sl = true
  pfx : inB m.ae m.pfx m.plen = true
  iv : fitsB m.interval 2 = true
  seq : fitsB m.seq 2 = true
  metric : fitsB m.metric 2 = true
  way : wayB m = true
theorem oku_iff (m : M) : okU m = true ↔ Oku m := by
  unfold okU
  simp only [Bool.and_eq_true, decide_eq_true_eq]
  exact ⟨fun h => ⟨h.1, h.2.1, h.2.2.1, h.2.2.2.1, h.2.2.2.2.1, h.2.2.2.2.2.1, h.2.2.2.2.2.2.1, h.2.2.2.2.2.2.2⟩, fun h => ⟨h.1, h.2, h.3, h.4, h.5, h.6, h.7, h.8⟩⟩
theorem empty_of {a : ByteArray} (h : a.size = 0) : a = ByteArray.empty := ByteArray.ext (Array.eq_empty_of_size_eq_zero h)
theorem way_near {m : M} (h : wayB m = true) (hm : ¬ m.metric = 65535) : ¬ m.ae = 0 ∧ m.id.size = 8 ∧ (m.next.size = 0 ∨ famA m.next = fam m.ae) := by
  unfold wayB at h
  rw [if_neg hm] at h
  simp only [Bool.and_eq_true, Bool.or_eq_true, Bool.not_eq_true', decide_eq_false_iff_not, decide_eq_true_eq, em_size] at h
  exact h

/-- An Update's fields and prefix, but for its first n bytes. -/
def flB (m : M) : Int := if m.ae = 0 then 0 else 128
def updL (m : M) (n : Nat) : List UInt8 :=
  layN m.ae 1 ++ (layN (flB m) 1 ++ (layN m.plen 1 ++ (layN (n : Int) 1 ++ (layN m.interval 2 ++ (layN m.seq 2 ++ (layN m.metric 2 ++ ((cutP m.ae m.pfx m.plen).data.toList.drop n ++ (putS m.sl).data.toList)))))))
def updD (m : M) (n : Nat) : ByteArray := ⟨(updL m n).toArray⟩
theorem upd_size {m : M} {n : Nat} (h : okU m = true) (hn : n ≤ countN m.ae m.plen) : (updD m n).size = 10 + (countN m.ae m.plen - n) + (putS m.sl).size ∧ (updD m n).size ≤ 226 := by
  have o := (oku_iff m).1 h
  obtain ⟨a0, a1, p0, p1⟩ := len_range (in_cases o.pfx).1
  have hc := count_le (in_cases o.pfx).1
  have hz := cut_size o.pfx
  have hs := putS_le m.sl
  have l1 := fun (v : Int) (h0 : 0 ≤ v) (h1 : v < 256) => lay_one h0 h1
  obtain ⟨ca, ha, _⟩ := l1 m.ae a0 (by omega)
  obtain ⟨cf, hf, _⟩ := l1 (flB m) (by unfold flB; split <;> omega) (by unfold flB; split <;> omega)
  obtain ⟨cp, hp, _⟩ := l1 m.plen p0 (by omega)
  obtain ⟨cn, hn1, _⟩ := l1 (n : Int) (by omega) (by omega)
  have e : (updD m n).size = 10 + (countN m.ae m.plen - n) + (putS m.sl).size := by
    show (updL m n).toArray.size = _
    unfold updL
    rw [ha, hf, hp, hn1, List.size_toArray]
    simp only [List.length_append, lay_len o.iv, lay_len o.seq, lay_len o.metric, List.length_drop, List.length_cons, List.length_nil, J1.size_list, hz]
    omega
  exact ⟨e, by rw [e]; omega⟩
/-- What is known behind an Update. -/
def knowP (c : Kx) (m : M) : Kx := if m.ae = 0 then c else c.setP m.ae m.pfx
/-- A router-id's TLV. -/
def idD (a : ByteArray) : ByteArray := ⟨(0 :: 0 :: a.data.toList).toArray⟩
/-- A next hop's TLV. -/
def hopE (a : ByteArray) : Int := if a.size = 4 then 1 else if link a = true then 3 else 2
def hopS (a : ByteArray) : ByteArray := if a.size = 4 then a else if link a = true then shA a else a
def hopD (a : ByteArray) : ByteArray := ⟨(layN (hopE a) 1 ++ (0 :: (hopS a).data.toList)).toArray⟩
theorem hop_cases {a : ByteArray} (h : a.size = 4 ∨ a.size = 16) : 1 ≤ hopE a ∧ hopE a ≤ 3 ∧ (hopS a).size = sizeA (hopE a) ∧ fam (hopE a) = famA a ∧ (if hopE a = 3 then lgA (hopS a) else hopS a) = a := by
  unfold hopE hopS
  by_cases h4 : a.size = 4
  · rw [if_pos h4, if_pos h4]
    exact ⟨by omega, by omega, by rw [h4]; rfl, by unfold famA; rw [if_pos h4]; rfl, by rw [if_neg (by decide)]⟩
  have h16 : a.size = 16 := by omega
  by_cases hl : link a = true
  · rw [if_neg h4, if_neg h4, if_pos hl, if_pos hl]
    exact ⟨by omega, by omega, by rw [sh_size hl]; rfl, by unfold famA; rw [if_neg h4, if_pos h16]; rfl, by rw [if_pos rfl]; exact lg_sh hl⟩
  · rw [if_neg h4, if_neg h4, if_neg hl, if_neg hl]
    exact ⟨by omega, by omega, by rw [h16]; rfl, by unfold famA; rw [if_neg h4, if_pos h16]; rfl, by rw [if_neg (by decide)]⟩
theorem hop_size {a : ByteArray} (h : a.size = 4 ∨ a.size = 16) : (hopD a).size = 2 + sizeA (hopE a) ∧ (hopD a).size ≤ 18 := by
  obtain ⟨h1, h3, hs, _, _⟩ := hop_cases h
  obtain ⟨ca, ha, _⟩ := lay_one (v := hopE a) (by omega) (by omega)
  have e : (hopD a).size = 2 + sizeA (hopE a) := by
    show (layN (hopE a) 1 ++ (0 :: (hopS a).data.toList)).toArray.size = _
    rw [ha]; simp; omega
  refine ⟨e, ?_⟩
  rw [e]; unfold sizeA; split <;> (try split) <;> (try split) <;> omega
end Go.Proofs.YtjhfpobjbijcpaaGreatDoor.L1
namespace Go.Proofs.YtjhfpobjbijcpaaGreatDoor.Ld
open Go.ChangeShapes Go.WideShapes Go.ChangeAt Go.RowKit
open Go.Proofs.YtjhfpobjbijcpaaGreatDoor.Bits
open Go.Proofs.YtjhfpobjbijcpaaGreatDoor.Pre
set_option linter.unusedVariables false
set_option maxRecDepth 100000
set_option maxRecDepth 100000
theorem lead_le (a b : ByteArray) : leadN a b ≤ a.size ∧ leadN a b ≤ b.size := by
  have h := alike_le a.data.toList b.data.toList
  rw [len_list, len_list] at h
  unfold leadN
  omega

/-- the bytes ahead are the same -/
theorem lead_same (a b : ByteArray) : a.extract 0 (leadN a b) = b.extract 0 (leadN a b) := by
  obtain ⟨h1, h2⟩ := lead_le a b
  apply bytes_inj
  rw [head_list, head_list]
  apply list_ext
  · rw [List.length_take, List.length_take, len_list, len_list]; omega
  · intro i hi
    rw [List.length_take, len_list] at hi
    have e : ∀ l : List UInt8, i / 8 < leadN a b → bitL (l.take (leadN a b)) i = bitL l i := by
      intro l h
      unfold bitL
      simp [List.getD, List.getElem?_take_of_lt h]
    rw [e _ (by omega), e _ (by omega)]
    exact alike_below _ _ i (by unfold leadN at hi; omega)

end Go.Proofs.YtjhfpobjbijcpaaGreatDoor.Ld
