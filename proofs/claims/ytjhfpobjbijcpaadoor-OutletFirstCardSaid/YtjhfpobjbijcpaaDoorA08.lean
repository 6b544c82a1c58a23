/-
  What is known at a place, which Updates may be, what a TLV makes of what is known and tells: definitions on values alone, and facts on them. No conditions.
  The messages of Babel's TLVs, of a body and of a datagram, and what is known behind them: definitions on values alone, and facts on them. No conditions.
-/
import Derived.Test.YtjhfpobjbijcpaaDoorA05
import Derived.Test.YtjhfpobjbijcpaaDoorA07
namespace Go.Proofs.YtjhfpobjbijcpaaDoor.K1
open Go.ChangeShapes Go.WideShapes Go.ChangeAt Go.RowKit
open Go.Proofs.YtjhfpobjbijcpaaDoor.Ms
open Go.Proofs.YtjhfpobjbijcpaaDoor.S1
open Go.Proofs.YtjhfpobjbijcpaaDoor.Lk
open Go.Proofs.YtjhfpobjbijcpaaDoor.Nu
open Go.Proofs.YtjhfpobjbijcpaaDoor.J1
open Go.Proofs.YtjhfpobjbijcpaaDoor.Oct (fitsB)
open Go.Proofs.YtjhfpobjbijcpaaDoor.Own (k11 ownM isKind fieldsOf)
open Go.Proofs.YtjhfpobjbijcpaaDoor.Bits (keepL keepL_length)
open Go.Proofs.YtjhfpobjbijcpaaDoor.Pre (leastN fillL rightZ)
open Go.Proofs.YtjhfpobjbijcpaaDoor.F1 (bt bt_nn bt_lt)
set_option linter.unusedVariables false
set_option maxRecDepth 100000
set_option maxRecDepth 100000

/-- What is known at a place. -/
structure Kx where
  p0 : ByteArray
  p1 : ByteArray
  p2 : ByteArray
  p3 : ByteArray
  n0 : ByteArray
  n1 : ByteArray
  id : ByteArray
def Kx.zero : Kx := ⟨ByteArray.empty, ByteArray.empty, ByteArray.empty, ByteArray.empty, ByteArray.empty, ByteArray.empty, ByteArray.empty⟩
def Kx.cells (c : Kx) : Array Value := #[.string c.p0, .string c.p1, .string c.p2, .string c.p3, .string c.n0, .string c.n1, .string c.id]
/-- The default prefix of an encoding, the next hop of a family; with another one. -/
def Kx.pf (c : Kx) (ae : Int) : ByteArray := if ae = 1 then c.p1 else if ae = 2 then c.p2 else if ae = 3 then c.p3 else c.p0
def Kx.nx (c : Kx) (f : Int) : ByteArray := if f = 1 then c.n1 else c.n0
def Kx.setP (c : Kx) (ae : Int) (a : ByteArray) : Kx := if ae = 1 then { c with p1 := a } else if ae = 2 then { c with p2 := a } else if ae = 3 then { c with p3 := a } else { c with p0 := a }
def Kx.setN (c : Kx) (f : Int) (a : ByteArray) : Kx := if f = 1 then { c with n1 := a } else { c with n0 := a }
def emB (a : ByteArray) : Bool := decide (a.size = 0)
def okP (ae : Int) (a : ByteArray) : Bool := emB a || adrB ae a
def okN (k : Nat) (a : ByteArray) : Bool := emB a || decide (a.size = k)
/-- May it be? -/
def okC (c : Kx) : Bool := emB c.p0 && (okP 1 c.p1 && (okP 2 c.p2 && (okP 3 c.p3 && (okN 4 c.n0 && (okN 16 c.n1 && okN 8 c.id)))))
structure Okc (c : Kx) : Prop where
  p0 : c.p0.size = 0
  p1 : c.p1.size = 0 ∨ adrB 1 c.p1 = true
  p2 : c.p2.size = 0 ∨ adrB 2 c.p2 = true
  p3 : c.p3.size = 0 ∨ adrB 3 c.p3 = true
  n0 : c.n0.size = 0 ∨ c.n0.size = 4
  n1 : c.n1.size = 0 ∨ c.n1.size = 16
  id : c.id.size = 0 ∨ c.id.size = 8
theorem okc_iff (c : Kx) : okC c = true ↔ Okc c := by
  unfold okC okP okN emB
  simp only [Bool.and_eq_true, Bool.or_eq_true, decide_eq_true_eq]
  exact ⟨fun ⟨a, b, c, d, e, f, g⟩ => ⟨a, b, c, d, e, f, g⟩, fun ⟨a, b, c, d, e, f, g⟩ => ⟨a, b, c, d, e, f, g⟩⟩
theorem Okc.pf {c : Kx} (h : Okc c) {ae : Int} (h0 : 0 ≤ ae) (h3 : ae ≤ 3) : (c.pf ae).size = 0 ∨ (adrB ae (c.pf ae) = true ∧ ¬ ae = 0) := by
  rcases (show ae = 0 ∨ ae = 1 ∨ ae = 2 ∨ ae = 3 by omega) with rfl | rfl | rfl | rfl
  · exact .inl h.p0
  · exact h.p1.imp (fun x => x) (fun h => ⟨h, by decide⟩)
  · exact h.p2.imp (fun x => x) (fun h => ⟨h, by decide⟩)
  · exact h.p3.imp (fun x => x) (fun h => ⟨h, by decide⟩)
theorem Okc.setP {c : Kx} (h : Okc c) {ae : Int} {a : ByteArray} (h0 : 0 < ae) (h3 : ae ≤ 3) (ha : adrB ae a = true) : Okc (c.setP ae a) := by
  rcases (show ae = 1 ∨ ae = 2 ∨ ae = 3 by omega) with rfl | rfl | rfl
  · exact ⟨h.p0, .inr ha, h.p2, h.p3, h.n0, h.n1, h.id⟩
  · exact ⟨h.p0, h.p1, .inr ha, h.p3, h.n0, h.n1, h.id⟩
  · exact ⟨h.p0, h.p1, h.p2, .inr ha, h.n0, h.n1, h.id⟩
theorem Okc.setI {c : Kx} (h : Okc c) {a : ByteArray} (ha : a.size = 8) : Okc { c with id := a } := ⟨h.p0, h.p1, h.p2, h.p3, h.n0, h.n1, .inr ha⟩
theorem okc_zero : okC Kx.zero = true := rfl

/-- The family of an encoding's addresses, that of an address, the bytes of an encoding's address. -/
def fam (ae : Int) : Int := if ae = 1 then 0 else if ae = 2 ∨ ae = 3 then 1 else -1
def famA (a : ByteArray) : Int := if a.size = 4 then 0 else if a.size = 16 then 1 else -1
def sizeA (ae : Int) : Nat := if ae = 1 then 4 else if ae = 2 then 16 else if ae = 3 then 8 else 0
theorem Okc.setN {c : Kx} (h : Okc c) {ae : Int} {a : ByteArray} (h0 : 0 < ae) (h3 : ae ≤ 3) (ha : a.size = if ae = 1 then 4 else 16) : Okc (c.setN (fam ae) a) := by
  rcases (show ae = 1 ∨ ae = 2 ∨ ae = 3 by omega) with rfl | rfl | rfl
  · exact ⟨h.p0, h.p1, h.p2, h.p3, .inr ha, h.n1, h.id⟩
  · exact ⟨h.p0, h.p1, h.p2, h.p3, h.n0, .inr ha, h.id⟩
  · exact ⟨h.p0, h.p1, h.p2, h.p3, h.n0, .inr ha, h.id⟩
/-- Is it bare? Does an Update say who has the way, if there is one? -/
theorem is_11 {m : M} (h : m.kind = 11) : isKind m = true ∧ ownM m = { k11 m with kind := m.kind } := by
  have hi : isKind m = true := by simp [isKind, h]
  exact ⟨hi, by simp [ownM, hi, fieldsOf, h]⟩
def wayB (m : M) : Bool := if m.metric = 65535 then emB m.id && emB m.next else !decide (m.ae = 0) && (decide (m.id.size = 8) && (emB m.next || decide (famA m.next = fam m.ae)))
/-- May it be an Update? -/
def okU (m : M) : Bool := decide (m.kind = 11) && (bare m && (okS m.sl && (inB m.ae m.pfx m.plen && (fitsB m.interval 2 && (fitsB m.seq 2 && (fitsB m.metric 2 && wayB m))))))

/-- The sub-TLVs from a place on: whether none must be known, or an error. -/
noncomputable def fixO (d : ByteArray) (z : Nat) : Bool × Int := if d.size < z then (false, 2) else (outS (d.extract z d.size)).2
/-- What a router-id's TLV makes, what a next hop's. -/
noncomputable def out6 (c : Kx) (d : ByteArray) : Kx × List M × Int :=
  if (fixO d 10).2 = 0 ∧ (fixO d 10).1 = true then ({ c with id := d.extract 2 10 }, [], 0) else (c, [], (fixO d 10).2)
def hopA (ae : Int) (d : ByteArray) : ByteArray := if ae = 3 then lgA (d.extract 2 (2 + sizeA ae)) else d.extract 2 (2 + sizeA ae)
noncomputable def out7 (c : Kx) (d : ByteArray) : Kx × List M × Int :=
  if d.size < 2 then (c, [], 2)
  else if bt d 0 = 0 ∨ 3 < bt d 0 then (c, [], 0)
  else if (fixO d (2 + sizeA (bt d 0))).2 = 0 ∧ (fixO d (2 + sizeA (bt d 0))).1 = true then (c.setN (fam (bt d 0)) (hopA (bt d 0) d), [], 0)
  else (c, [], (fixO d (2 + sizeA (bt d 0))).2)
/-- An Update's address: the bytes that were left out are the default prefix's. -/
def omL (c : Kx) (u : Up) : List UInt8 := ((c.pf u.ae).data.toList.drop (baseN u.ae)).take u.om.toNat
def adrC (c : Kx) (u : Up) : ByteArray := wholeP u.ae ⟨(omL c u ++ u.bytes.data.toList).toArray⟩ u.plen
/-- The router-id that lies in an address. -/
def idA (a : ByteArray) : ByteArray := ⟨((List.replicate 8 0 ++ a.data.toList).drop a.size).toArray⟩
/-- What is known behind an Update by its flags. -/
def flagC (c : Kx) (u : Up) (a : ByteArray) : Kx :=
  if u.ae = 0 then c
  else if u.flags / 64 % 2 = 1 then { (if 128 ≤ u.flags then c.setP u.ae a else c) with id := idA a }
  else if 128 ≤ u.flags then c.setP u.ae a else c
/-- Is it told? The message. -/
def tellB (c : Kx) (u : Up) : Bool := !decide (u.hav = 0) && (decide (u.metric = 65535) || (!decide (u.ae = 0) && !emB c.id))
def updM (c : Kx) (u : Up) (a : ByteArray) : M :=
  { M.zero with kind := 11, ae := u.ae, pfx := a, plen := u.plen, interval := u.iv, seq := u.seq, metric := u.metric, sl := u.sl,
                id := if u.metric = 65535 then ByteArray.empty else c.id, next := if u.metric = 65535 then ByteArray.empty else c.nx (fam u.ae) }
def stU (c : Kx) (u : Up) : Kx × List M × Int :=
  if 0 < u.om ∧ (c.pf u.ae).size = 0 then (c, [], 9)
  else (flagC c u (adrC c u), if tellB (flagC c u (adrC c u)) u then [updM (flagC c u (adrC c u)) u (adrC c u)] else [], 0)
noncomputable def out8 (c : Kx) (d : ByteArray) : Kx × List M × Int := if (outK d).2.1 = true then stU c (outK d).1 else (c, [], (outK d).2.2)
/-- What a TLV of the types 6 to 8 makes of what is known, what it tells, the error. -/
noncomputable def outC (c : Kx) (t : Int) (d : ByteArray) : Kx × List M × Int := if t = 6 then out6 c d else if t = 7 then out7 c d else out8 c d

theorem fix_long {d : ByteArray} {z : Nat} (h : ¬ d.size < z) : fixO d z = (outS (d.extract z d.size)).2 := by unfold fixO; rw [if_neg h]
theorem adr_len {ae : Int} {a : ByteArray} (h : adrB ae a = true) (h0 : 0 < ae) (h3 : ae ≤ 3) : a.size = if ae = 1 then 4 else 16 := by
  rcases (show ae = 1 ∨ ae = 2 ∨ ae = 3 by omega) with rfl | rfl | rfl
  · simpa [adrB] using h
  · simpa [adrB] using h
  · have h : link a = true := h
    exact link_size h
theorem in_adr {ae : Int} {a : ByteArray} {p : Int} (h : inB ae a p = true) : adrB ae a = true := by unfold inB at h; rw [Bool.and_eq_true] at h; exact h.1
theorem em_size {a : ByteArray} : emB a = true ↔ a.size = 0 := by unfold emB; exact decide_eq_true_iff
theorem stU_yes {c : Kx} {u : Up} (h : ¬ (0 < u.om ∧ (c.pf u.ae).size = 0)) : stU c u = (flagC c u (adrC c u), if tellB (flagC c u (adrC c u)) u then [updM (flagC c u (adrC c u)) u (adrC c u)] else [], 0) := by unfold stU; rw [if_neg h]
theorem out8_yes {c : Kx} {d : ByteArray} {u : Up} (h : outK d = (u, true, 0)) : out8 c d = stU c u := by unfold out8; rw [h, if_pos rfl]
theorem at_0 {d : ByteArray} {x : UInt8} {l : List UInt8} (h : d.data.toList = x :: l) : bt d 0 = x.toNat := by unfold bt; rw [h]; rfl
theorem at_1 {d : ByteArray} {x y : UInt8} {l : List UInt8} (h : d.data.toList = x :: y :: l) : bt d 1 = y.toNat := by unfold bt; rw [h]; rfl
theorem at_2 {d : ByteArray} {x y z : UInt8} {l : List UInt8} (h : d.data.toList = x :: y :: z :: l) : bt d 2 = z.toNat := by unfold bt; rw [h]; rfl
theorem at_3 {d : ByteArray} {x y z u : UInt8} {l : List UInt8} (h : d.data.toList = x :: y :: z :: u :: l) : bt d 3 = u.toNat := by unfold bt; rw [h]; rfl
end Go.Proofs.YtjhfpobjbijcpaaDoor.K1
namespace Go.Proofs.YtjhfpobjbijcpaaDoor.I1
open Go.ChangeShapes Go.WideShapes Go.ChangeAt Go.RowKit
open Go.Proofs.YtjhfpobjbijcpaaDoor.Ms
open Go.Proofs.YtjhfpobjbijcpaaDoor.S1 (okS outS)
open Go.Proofs.YtjhfpobjbijcpaaDoor.G1 (outF)
open Go.Proofs.YtjhfpobjbijcpaaDoor.J1 (outJ)
open Go.Proofs.YtjhfpobjbijcpaaDoor.K1
open Go.Proofs.YtjhfpobjbijcpaaDoor.F1
open Go.Proofs.YtjhfpobjbijcpaaDoor.Nu (text_eq ext_list)
set_option linter.unusedVariables false
set_option maxRecDepth 100000
set_option maxRecDepth 100000

/-- A message of a type that nobody knows. -/
def opM (t : Int) (d : ByteArray) : M := { M.zero with kind := 14, typ := t, data := d }
/-- A message's answer, beside what is known. -/
def tell (c : Kx) (p : M × Bool × Int) : Kx × List M × Int := (c, if p.2.2 = 0 ∧ p.2.1 = true then [p.1] else [], p.2.2)
/-- A TLV's messages, what is known behind it, or its error. -/
noncomputable def one (c : Kx) (t : Int) (d : ByteArray) : Kx × List M × Int :=
  if t = 0 ∨ t = 1 then (c, [], 0) else if 2 ≤ t ∧ t ≤ 5 then tell c (outF t d) else if 6 ≤ t ∧ t ≤ 8 then outC c t d else if t = 9 ∨ t = 10 then tell c (outJ t d) else (c, [opM t d], 0)
theorem one_f {t : Int} (h2 : 2 ≤ t) (h5 : t ≤ 5) (c : Kx) (d : ByteArray) : one c t d = tell c (outF t d) := by unfold one; rw [if_neg (by omega), if_pos ⟨h2, h5⟩]
theorem one_c {t : Int} (h6 : 6 ≤ t) (h8 : t ≤ 8) (c : Kx) (d : ByteArray) : one c t d = outC c t d := by unfold one; rw [if_neg (by omega), if_neg (by omega), if_pos ⟨h6, h8⟩]
theorem one_j {t : Int} (h : t = 9 ∨ t = 10) (c : Kx) (d : ByteArray) : one c t d = tell c (outJ t d) := by unfold one; rw [if_neg (by omega), if_neg (by omega), if_neg (by omega), if_pos h]
theorem one_o {t : Int} (h : t < 0 ∨ 10 < t) (c : Kx) (d : ByteArray) : one c t d = (c, [opM t d], 0) := by unfold one; rw [if_neg (by omega), if_neg (by omega), if_neg (by omega), if_neg (by omega)]

/-- TLVs, one by one, from what is known and told. -/
noncomputable def foldI : List T → Kx → List M → List M × Kx × Int × Int
  | [], c, o => (o, c, 0, 0)
  | x :: l, c, o => if (one c x.2.2 x.2.1).2.2 = 0 then foldI l (one c x.2.2 x.2.1).1 (o ++ (one c x.2.2 x.2.1).2.1) else ([], Kx.zero, x.1, (one c x.2.2 x.2.1).2.2)
noncomputable def outI (l : List T) : List M × Kx × Int × Int := foldI l Kx.zero []
theorem fold_nil (c : Kx) (o : List M) : foldI [] c o = (o, c, 0, 0) := rfl
theorem fold_ok {x : T} {l : List T} {c c' : Kx} {o r : List M} (h : one c x.2.2 x.2.1 = (c', r, 0)) : foldI (x :: l) c o = foldI l c' (o ++ r) := by
  show (if _ then _ else _) = _
  rw [h, if_pos rfl]
theorem fold_err {x : T} {l : List T} {c : Kx} {o : List M} (h : ¬ (one c x.2.2 x.2.1).2.2 = 0) : foldI (x :: l) c o = ([], Kx.zero, x.1, (one c x.2.2 x.2.1).2.2) := by
  show (if _ then _ else _) = _
  rw [if_neg h]
/-- In two parts: the first one's, then the second one's. -/
theorem fold_app : ∀ (a b : List T) (c : Kx) (o : List M), foldI (a ++ b) c o = if (foldI a c o).2.2.2 = 0 then foldI b (foldI a c o).2.1 (foldI a c o).1 else foldI a c o
  | [], b, c, o => by rw [List.nil_append, fold_nil, if_pos rfl]
  | x :: a, b, c, o => by
      rw [List.cons_append]
      by_cases h : (one c x.2.2 x.2.1).2.2 = 0
      · rcases hp : one c x.2.2 x.2.1 with ⟨c', r, e⟩
        rw [hp] at h
        obtain rfl : e = 0 := h
        rw [fold_ok hp, fold_ok hp]; exact fold_app a b _ _
      · rw [fold_err h, fold_err h, if_neg h]
/-- The messages of a datagram, and where and why there are none. -/
noncomputable def outP (b : ByteArray) : List M × Int × Int :=
  if ¬ (outB b).2.2 = 0 then ([], (outB b).2.1, (outB b).2.2)
  else if ¬ (outT 4 (outB b).1).2.2 = 0 then ([], (outT 4 (outB b).1).2.1, (outT 4 (outB b).1).2.2)
  else if ¬ (outT (4 + ((outB b).1.size : Int)) (trail b)).2.2 = 0 then ([], (outT (4 + ((outB b).1.size : Int)) (trail b)).2.1, (outT (4 + ((outB b).1.size : Int)) (trail b)).2.2)
  else ((outI (outT 4 (outB b).1).1).1, (outI (outT 4 (outB b).1).1).2.2.1, (outI (outT 4 (outB b).1).1).2.2.2)
theorem outP_4 {b s : ByteArray} (h : outB b = (s, 0, 0)) (h2 : (outT 4 s).2.2 = 0) (h3 : (outT (4 + (s.size : Int)) (trail b)).2.2 = 0) : outP b = ((outI (outT 4 s).1).1, (outI (outT 4 s).1).2.2.1, (outI (outT 4 s).1).2.2.2) := by
  unfold outP; rw [h, if_neg (by simp), if_neg (by simpa using h2), if_neg (by simpa using h3)]
end Go.Proofs.YtjhfpobjbijcpaaDoor.I1
