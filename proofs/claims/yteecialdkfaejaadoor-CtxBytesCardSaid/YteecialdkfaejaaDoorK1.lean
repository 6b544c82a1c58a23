/-
  What is known at a place, which Updates may be, what a TLV makes of what is known and tells: definitions on values alone, and facts on them. No conditions.
-/
import Derived.Test.YteecialdkfaejaaDoorJ1
namespace Go.Proofs.YteecialdkfaejaaDoor.K1
open Go.ChangeShapes Go.WideShapes Go.ChangeAt Go.RowKit
open Go.Proofs.YteecialdkfaejaaDoor.Ms
open Go.Proofs.YteecialdkfaejaaDoor.S1
open Go.Proofs.YteecialdkfaejaaDoor.Lk
open Go.Proofs.YteecialdkfaejaaDoor.Nu
open Go.Proofs.YteecialdkfaejaaDoor.J1
open Go.Proofs.YteecialdkfaejaaDoor.Oct (fitsB)
open Go.Proofs.YteecialdkfaejaaDoor.Own (k11 ownM isKind fieldsOf)
open Go.Proofs.YteecialdkfaejaaDoor.Bits (keepL keepL_length)
open Go.Proofs.YteecialdkfaejaaDoor.Pre (leastN fillL rightZ)
open Go.Proofs.YteecialdkfaejaaDoor.F1 (bt bt_nn bt_lt)
set_option linter.unusedVariables false
set_option maxRecDepth 100000

/-- What is known at a place. -/
structure Kx where
  p0 : ByteArray
  p1 : ByteArray
  p2 : ByteArray
  p3 : ByteArray
  n0 : ByteArray
  n1 : ByteArray
  id : ByteArray
def Kx.zero : Kx := ⟨ByteArray.empty, ByteArray.empty, ByteArray.empty, ByteArray.empty, ByteArray.empty, ByteArray.empty, ByteArray.empty⟩
def Kx.cells (c : Kx) : Array Value := #[.string c.p0, .string c.p1, .string c.p2, .string c.p3, .string c.n0, .string c.n1, .string c.id]
/-- The default prefix of an encoding, the next hop of a family; with another one. -/
def Kx.pf (c : Kx) (ae : Int) : ByteArray := if ae = 1 then c.p1 else if ae = 2 then c.p2 else if ae = 3 then c.p3 else c.p0
def Kx.nx (c : Kx) (f : Int) : ByteArray := if f = 1 then c.n1 else c.n0
def Kx.setP (c : Kx) (ae : Int) (a : ByteArray) : Kx := if ae = 1 then { c with p1 := a } else if ae = 2 then { c with p2 := a } else if ae = 3 then { c with p3 := a } else { c with p0 := a }
def Kx.setN (c : Kx) (f : Int) (a : ByteArray) : Kx := if f = 1 then { c with n1 := a } else { c with n0 := a }
def emB (a : ByteArray) : Bool := decide (a.size = 0)
def okP (ae : Int) (a : ByteArray) : Bool := emB a || adrB ae a
def okN (k : Nat) (a : ByteArray) : Bool := emB a || decide (a.size = k)
/-- May it be? -/
def okC (c : Kx) : Bool := emB c.p0 && (okP 1 c.p1 && (okP 2 c.p2 && (okP 3 c.p3 && (okN 4 c.n0 && (okN 16 c.n1 && okN 8 c.id)))))
structure Okc (c : Kx) : Prop where
  p0 : c.p0.size = 0
  p1 : c.p1.size = 0 ∨ adrB 1 c.p1 = true
  p2 : c.p2.size = 0 ∨ adrB 2 c.p2 = true
  p3 : c.p3.size = 0 ∨ adrB 3 c.p3 = true
  n0 : c.n0.size = 0 ∨ c.n0.size = 4
  n1 : c.n1.size = 0 ∨ c.n1.size = 16
  id : c.id.size = 0 ∨ c.id.size = 8
theorem okc_iff (c : Kx) : okC c = true ↔ Okc c := by
  unfold okC okP okN emB
  simp only [Bool.and_eq_true, Bool.or_eq_true, decide_eq_true_eq]
  exact ⟨fun ⟨a, b, c, d, e, f, g⟩ => ⟨a, b, c, d, e, f, g⟩, fun ⟨a, b, c, d, e, f, g⟩ => ⟨a, b, c, d, e, f, g⟩⟩
theorem Okc.pf {c : Kx} (h : Okc c) {ae : Int} (h0 : 0 ≤ ae) (h3 : ae ≤ 3) : (c.pf ae).size = 0 ∨ (adrB ae (c.pf ae) = true ∧ ¬ ae = 0) := by
  rcases (show ae = 0 ∨ ae = 1 ∨ ae = 2 ∨ ae = 3 by omega) with rfl | rfl | rfl | rfl
  · exact .inl h.p0
  · exact h.p1.imp (fun x => x) (fun h => ⟨h, by decide⟩)
  · exact h.p2.imp (fun x => x) (fun h => ⟨h, by decide⟩)
  · exact h.p3.imp (fun x => x) (fun h => ⟨h, by decide⟩)
theorem Okc.setP {c : Kx} (h : Okc c) {ae : Int} {a : ByteArray} (h0 : 0 < ae) (h3 : ae ≤ 3) (ha : adrB ae a = true) : Okc (c.setP ae a) := by
  rcases (show ae = 1 ∨ ae = 2 ∨ ae = 3 by omega) with rfl | rfl | rfl
  · exact ⟨h.p0, .inr ha, h.p2, h.p3, h.n0, h.n1, h.id⟩
  · exact ⟨h.p0, h.p1, .inr ha, h.p3, h.n0, h.n1, h.id⟩
  · exact ⟨h.p0, h.p1, h.p2, .inr ha, h.n0, h.n1, h.id⟩
theorem Okc.setI {c : Kx} (h : Okc c) {a : ByteArray} (ha : a.size = 8) : Okc { c with id := a } := ⟨h.p0, h.p1, h.p2, h.p3, h.n0, h.n1, .inr ha⟩
theorem okc_zero : okC Kx.zero = true := rfl

/-- The family of an encoding's addresses, that of an address, the bytes of an encoding's address. -/
def fam (ae : Int) : Int := if ae = 1 then 0 else if ae = 2 ∨ ae = 3 then 1 else -1
def famA (a : ByteArray) : Int := if a.size = 4 then 0 else if a.size = 16 then 1 else -1
def sizeA (ae : Int) : Nat := if ae = 1 then 4 else if ae = 2 then 16 else if ae = 3 then 8 else 0
theorem Okc.setN {c : Kx} (h : Okc c) {ae : Int} {a : ByteArray} (h0 : 0 < ae) (h3 : ae ≤ 3) (ha : a.size = if ae = 1 then 4 else 16) : Okc (c.setN (fam ae) a) := by
  rcases (show ae = 1 ∨ ae = 2 ∨ ae = 3 by omega) with rfl | rfl | rfl
  · exact ⟨h.p0, h.p1, h.p2, h.p3, .inr ha, h.n1, h.id⟩
  · exact ⟨h.p0, h.p1, h.p2, h.p3, h.n0, .inr ha, h.id⟩
  · exact ⟨h.p0, h.p1, h.p2, h.p3, h.n0, .inr ha, h.id⟩
theorem Okc.nx {c : Kx} (h : Okc c) {ae : Int} (h0 : 0 < ae) (h3 : ae ≤ 3) : (c.nx (fam ae)).size = 0 ∨ famA (c.nx (fam ae)) = fam ae := by
  rcases (show ae = 1 ∨ ae = 2 ∨ ae = 3 by omega) with rfl | rfl | rfl
  · exact h.n0.imp (fun x => x) (fun h => by show famA c.n0 = 0; unfold famA; rw [if_pos h])
  · exact h.n1.imp (fun x => x) (fun h => by show famA c.n1 = 1; unfold famA; rw [if_neg (by omega), if_pos h])
  · exact h.n1.imp (fun x => x) (fun h => by show famA c.n1 = 1; unfold famA; rw [if_neg (by omega), if_pos h])

/-- Is it bare? Does an Update say who has the way, if there is one? -/
theorem is_11 {m : M} (h : m.kind = 11) : isKind m = true ∧ ownM m = { k11 m with kind := m.kind } := by
  have hi : isKind m = true := by simp [isKind, h]
  exact ⟨hi, by simp [ownM, hi, fieldsOf, h]⟩
def wayB (m : M) : Bool := if m.metric = 65535 then emB m.id && emB m.next else !decide (m.ae = 0) && (decide (m.id.size = 8) && (emB m.next || decide (famA m.next = fam m.ae)))
/-- May it be an Update? -/
def okU (m : M) : Bool := decide (m.kind = 11) && (bare m && (okS m.sl && (inB m.ae m.pfx m.plen && (fitsB m.interval 2 && (fitsB m.seq 2 && (fitsB m.metric 2 && wayB m))))))

/-- The sub-TLVs from a place on: whether none must be known, or an error. -/
noncomputable def fixO (d : ByteArray) (z : Nat) : Bool × Int := if d.size < z then (false, 2) else (outS (d.extract z d.size)).2
/-- What a router-id's TLV makes, what a next hop's. -/
noncomputable def out6 (c : Kx) (d : ByteArray) : Kx × List M × Int :=
  if (fixO d 10).2 = 0 ∧ (fixO d 10).1 = true then ({ c with id := d.extract 2 10 }, [], 0) else (c, [], (fixO d 10).2)
def hopA (ae : Int) (d : ByteArray) : ByteArray := if ae = 3 then lgA (d.extract 2 (2 + sizeA ae)) else d.extract 2 (2 + sizeA ae)
noncomputable def out7 (c : Kx) (d : ByteArray) : Kx × List M × Int :=
  if d.size < 2 then (c, [], 2)
  else if bt d 0 = 0 ∨ 3 < bt d 0 then (c, [], 0)
  else if (fixO d (2 + sizeA (bt d 0))).2 = 0 ∧ (fixO d (2 + sizeA (bt d 0))).1 = true then (c.setN (fam (bt d 0)) (hopA (bt d 0) d), [], 0)
  else (c, [], (fixO d (2 + sizeA (bt d 0))).2)
/-- An Update's address: the bytes that were left out are the default prefix's. -/
def omL (c : Kx) (u : Up) : List UInt8 := ((c.pf u.ae).data.toList.drop (baseN u.ae)).take u.om.toNat
def adrC (c : Kx) (u : Up) : ByteArray := wholeP u.ae ⟨(omL c u ++ u.bytes.data.toList).toArray⟩ u.plen
/-- The router-id that lies in an address. -/
def idA (a : ByteArray) : ByteArray := ⟨((List.replicate 8 0 ++ a.data.toList).drop a.size).toArray⟩
theorem idA_size (a : ByteArray) : (idA a).size = 8 := by
  unfold idA
  rw [mk_size, List.length_drop, List.length_append, List.length_replicate, size_list]
  omega
/-- What is known behind an Update by its flags. -/
def flagC (c : Kx) (u : Up) (a : ByteArray) : Kx :=
  if u.ae = 0 then c
  else if u.flags / 64 % 2 = 1 then { (if 128 ≤ u.flags then c.setP u.ae a else c) with id := idA a }
  else if 128 ≤ u.flags then c.setP u.ae a else c
/-- Is it told? The message. -/
def tellB (c : Kx) (u : Up) : Bool := !decide (u.hav = 0) && (decide (u.metric = 65535) || (!decide (u.ae = 0) && !emB c.id))
def updM (c : Kx) (u : Up) (a : ByteArray) : M :=
  { M.zero with kind := 11, ae := u.ae, pfx := a, plen := u.plen, interval := u.iv, seq := u.seq, metric := u.metric, sl := u.sl,
                id := if u.metric = 65535 then ByteArray.empty else c.id, next := if u.metric = 65535 then ByteArray.empty else c.nx (fam u.ae) }
def stU (c : Kx) (u : Up) : Kx × List M × Int :=
  if 0 < u.om ∧ (c.pf u.ae).size = 0 then (c, [], 9)
  else (flagC c u (adrC c u), if tellB (flagC c u (adrC c u)) u then [updM (flagC c u (adrC c u)) u (adrC c u)] else [], 0)
noncomputable def out8 (c : Kx) (d : ByteArray) : Kx × List M × Int := if (outK d).2.1 = true then stU c (outK d).1 else (c, [], (outK d).2.2)
/-- What a TLV of the types 6 to 8 makes of what is known, what it tells, the error. -/
noncomputable def outC (c : Kx) (t : Int) (d : ByteArray) : Kx × List M × Int := if t = 6 then out6 c d else if t = 7 then out7 c d else out8 c d

theorem fix_short {d : ByteArray} {z : Nat} (h : d.size < z) : fixO d z = (false, 2) := by unfold fixO; rw [if_pos h]
theorem fix_long {d : ByteArray} {z : Nat} (h : ¬ d.size < z) : fixO d z = (outS (d.extract z d.size)).2 := by unfold fixO; rw [if_neg h]
/-- A set of sub-TLVs that can't be told counts as none. -/
theorem fix_err {d : ByteArray} {z : Nat} (h : ¬ (fixO d z).2 = 0) : (fixO d z).1 = false := by
  unfold fixO at *
  split at h
  · rename_i k; rw [if_pos k]
  · rename_i k
    rw [if_neg k]
    rcases outS_cases (d.extract z d.size) with ⟨l, _, _, _, ⟨_, e⟩ | ⟨_, e⟩⟩ | ⟨p, _, e⟩
    · rw [e] at h; exact absurd rfl h
    · rw [e]
    · rw [e]
/-- An Update that counts. -/
structure Cnt (d : ByteArray) (u : Up) : Prop where
  ae0 : 0 ≤ u.ae
  ae3 : u.ae ≤ 3
  len : lenB u.ae u.plen = true
  om0 : 0 ≤ u.om
  omle : u.om ≤ countN u.ae u.plen
  size : u.bytes.size = countN u.ae u.plen - u.om.toNat
  subs : okS u.sl = true
  iv : fitsB u.iv 2 = true
  seq : fitsB u.seq 2 = true
  metric : fitsB u.metric 2 = true
  fl0 : 0 ≤ u.flags
  fl1 : u.flags < 256
theorem outK_cnt {d : ByteArray} (h : (outK d).2.1 = true) : Cnt d (outK d).1 ∧ (outK d).2.2 = 0 := by
  rcases outK_cases d with ⟨e, k⟩ | ⟨x, g, k⟩
  · rw [k] at h; cases h
  rw [k]
  have hl := len_range g.len
  have hs := g.size
  have h10 : 10 ≤ d.size := by unfold restN at hs; omega
  refine ⟨⟨hl.1, hl.2.1, g.len, bt_nn d 3, g.omle, ?_, g.subs, num2_fits (by omega), num2_fits (by omega), num2_fits (by omega), bt_nn d 1, bt_lt d 1⟩, rfl⟩
  show x.bytes.size = countN (bt d 0) (bt d 2) - (bt d 3).toNat
  rw [g.bytes, ext_size _ _ _ hs]
  unfold restN
  omega
theorem outK_two (d : ByteArray) : (∃ e, outK d = (Up.zero, false, e)) ∨ ∃ u, Cnt d u ∧ outK d = (u, true, 0) := by
  rcases outK_cases d with ⟨e, k⟩ | ⟨x, g, k⟩
  · exact .inl ⟨e, k⟩
  · have := outK_cnt (d := d) (by rw [k])
    rw [k] at this
    exact .inr ⟨_, this.1, k⟩
theorem adr_len {ae : Int} {a : ByteArray} (h : adrB ae a = true) (h0 : 0 < ae) (h3 : ae ≤ 3) : a.size = if ae = 1 then 4 else 16 := by
  rcases (show ae = 1 ∨ ae = 2 ∨ ae = 3 by omega) with rfl | rfl | rfl
  · simpa [adrB] using h
  · simpa [adrB] using h
  · have h : link a = true := h
    exact link_size h
/-- As many bytes as were left out stand in the default prefix. -/
theorem ahead_len {c : Kx} {d : ByteArray} {u : Up} (hc : Okc c) (g : Cnt d u) (h : ¬ (0 < u.om ∧ (c.pf u.ae).size = 0)) : (omL c u).length = u.om.toNat := by
  unfold omL
  rw [List.length_take, List.length_drop, size_list]
  by_cases h0 : u.om = 0
  · rw [h0]; simp
  have hp := hc.pf g.ae0 g.ae3
  have h1 := g.om0
  rcases hp with hp | ⟨hp, hz⟩
  · exact absurd ⟨by omega, hp⟩ h
  have hl := adr_len hp (by have := g.ae0; omega) g.ae3
  have h2 := g.omle
  have hcl := count_le g.len
  rcases len_cases g.len with ⟨e, _⟩ | ⟨e, _, k⟩ | ⟨e, _, k⟩ | ⟨e, _, k⟩
  · exact absurd e hz
  · rw [e] at hl hcl h2 ⊢
    have : countN 1 u.plen ≤ 4 := by unfold countN leastN baseN; simp; omega
    have hb : baseN 1 = 0 := rfl
    simp only [if_pos] at hl
    omega
  · rw [e] at hl hcl h2 ⊢
    have hb : baseN 2 = 0 := rfl
    rw [if_neg (by decide)] at hl
    omega
  · rw [e] at hl hcl h2 ⊢
    have hb : baseN 3 = 8 := rfl
    have : countN 3 u.plen ≤ 8 := by unfold countN leastN baseN; simp; omega
    rw [if_neg (by decide)] at hl
    omega
theorem whole_size {c : Kx} {d : ByteArray} {u : Up} (hc : Okc c) (g : Cnt d u) (h : ¬ (0 < u.om ∧ (c.pf u.ae).size = 0)) : (ByteArray.mk (omL c u ++ u.bytes.data.toList).toArray).size = countN u.ae u.plen := by
  rw [mk_size, List.length_append, ahead_len hc g h, size_list, g.size]
  have := g.omle
  have := g.om0
  omega
theorem adr_in {c : Kx} {d : ByteArray} {u : Up} (hc : Okc c) (g : Cnt d u) (h : ¬ (0 < u.om ∧ (c.pf u.ae).size = 0)) : inB u.ae (adrC c u) u.plen = true := whole_in g.len (whole_size hc g h)
theorem in_adr {ae : Int} {a : ByteArray} {p : Int} (h : inB ae a p = true) : adrB ae a = true := by unfold inB at h; rw [Bool.and_eq_true] at h; exact h.1
theorem flag_ok {c : Kx} {d : ByteArray} {u : Up} {a : ByteArray} (hc : Okc c) (g : Cnt d u) (ha : adrB u.ae a = true) : Okc (flagC c u a) := by
  unfold flagC
  by_cases h0 : u.ae = 0
  · rw [if_pos h0]; exact hc
  rw [if_neg h0]
  have h1 : 0 < u.ae := by have := g.ae0; omega
  have hp := hc.setP h1 g.ae3 ha
  by_cases k : u.flags / 64 % 2 = 1
  · rw [if_pos k]
    split
    · exact hp.setI (idA_size a)
    · exact hc.setI (idA_size a)
  · rw [if_neg k]
    split
    · exact hp
    · exact hc
theorem em_size {a : ByteArray} : emB a = true ↔ a.size = 0 := by unfold emB; exact decide_eq_true_iff
/-- What is told may be. -/
theorem upd_ok {c : Kx} {d : ByteArray} {u : Up} {a : ByteArray} (hc : Okc c) (g : Cnt d u) (hi : inB u.ae a u.plen = true) (ht : tellB c u = true) : okU (updM c u a) = true := by
  have hb : bare (updM c u a) = true := by
    unfold bare
    rw [(is_11 (m := updM c u a) rfl).1, (is_11 (m := updM c u a) rfl).2]
    unfold M.same M.flatE k11 updM M.zero
    simp
  have hw : wayB (updM c u a) = true := by
    unfold wayB
    unfold tellB at ht
    by_cases hm : u.metric = 65535
    · rw [if_pos (show (updM c u a).metric = 65535 from hm)]
      have e1 : (updM c u a).id = ByteArray.empty := by unfold updM; simp [hm]
      have e2 : (updM c u a).next = ByteArray.empty := by unfold updM; simp [hm]
      rw [e1, e2]
      rfl
    · rw [if_neg (show ¬ (updM c u a).metric = 65535 from hm)]
      rw [decide_eq_false hm] at ht
      simp only [Bool.and_eq_true, Bool.or_eq_true, Bool.not_eq_true', Bool.false_eq_true, false_or, decide_eq_false_iff_not] at ht
      obtain ⟨_, h0, hz⟩ := ht
      have e1 : (updM c u a).id = c.id := by unfold updM; simp [hm]
      have e2 : (updM c u a).next = c.nx (fam u.ae) := by unfold updM; simp [hm]
      have e3 : (updM c u a).ae = u.ae := rfl
      have h8 : c.id.size = 8 := hc.id.resolve_left (fun h => by rw [em_size.2 h] at hz; cases hz)
      rw [e1, e2, e3, decide_eq_false h0, decide_eq_true h8]
      have := hc.nx (ae := u.ae) (by have := g.ae0; omega) g.ae3
      rcases this with h | h
      · rw [em_size.2 h]; rfl
      · rw [decide_eq_true h]; simp
  unfold okU
  rw [hb, hw]
  show (decide ((11 : Int) = 11) && (true && (okS u.sl && (inB u.ae a u.plen && (fitsB u.iv 2 && (fitsB u.seq 2 && (fitsB u.metric 2 && true))))))) = true
  rw [g.subs, hi, g.iv, g.seq, g.metric]
  rfl
/-- What a TLV comes to. -/
theorem stU_err {c : Kx} {u : Up} (h : 0 < u.om ∧ (c.pf u.ae).size = 0) : stU c u = (c, [], 9) := by unfold stU; rw [if_pos h]
theorem stU_yes {c : Kx} {u : Up} (h : ¬ (0 < u.om ∧ (c.pf u.ae).size = 0)) : stU c u = (flagC c u (adrC c u), if tellB (flagC c u (adrC c u)) u then [updM (flagC c u (adrC c u)) u (adrC c u)] else [], 0) := by unfold stU; rw [if_neg h]
theorem out8_no {c : Kx} {d : ByteArray} {e : Int} (h : outK d = (Up.zero, false, e)) : out8 c d = (c, [], e) := by unfold out8; rw [h, if_neg (by simp)]
theorem out8_yes {c : Kx} {d : ByteArray} {u : Up} (h : outK d = (u, true, 0)) : out8 c d = stU c u := by unfold out8; rw [h, if_pos rfl]
structure Good (c : Kx) (p : Kx × List M × Int) : Prop where
  ok : okC p.1 = true
  told : p.2.1 = [] ∨ ∃ m, p.2.1 = [m] ∧ okU m = true ∧ m.la = none ∧ m.ll = [] ∧ m.lc = 0
  err : ¬ p.2.2 = 0 → p = (c, [], p.2.2)
theorem good_same {c : Kx} (hc : okC c = true) (e : Int) : Good c (c, [], e) := ⟨hc, .inl rfl, fun _ => rfl⟩
theorem good_ctx {c c' : Kx} (hc : okC c' = true) : Good c (c', [], 0) := ⟨hc, .inl rfl, fun h => absurd rfl h⟩
theorem hop_size {ae : Int} {d : ByteArray} (h0 : 0 < ae) (h3 : ae ≤ 3) (hd : ¬ d.size < 2 + sizeA ae) : (hopA ae d).size = if ae = 1 then 4 else 16 := by
  rcases (show ae = 1 ∨ ae = 2 ∨ ae = 3 by omega) with rfl | rfl | rfl
  · have : sizeA 1 = 4 := rfl
    show (d.extract 2 6).size = 4
    rw [ext_size _ _ _ (by omega)]
  · have : sizeA 2 = 16 := rfl
    show (d.extract 2 18).size = 16
    rw [ext_size _ _ _ (by omega)]
  · have : sizeA 3 = 8 := rfl
    show (lgA (d.extract 2 10)).size = 16
    exact link_size (link_lg (by rw [ext_size _ _ _ (by omega)])).1
theorem out_good {c : Kx} (t : Int) (d : ByteArray) (hc : okC c = true) : Good c (outC c t d) := by
  have ho := (okc_iff c).1 hc
  unfold outC
  by_cases h6 : t = 6
  · rw [if_pos h6]
    unfold out6
    by_cases k : (fixO d 10).2 = 0 ∧ (fixO d 10).1 = true
    · rw [if_pos k]
      have hz : ¬ d.size < 10 := fun h => by rw [fix_short h] at k; cases k.2
      exact good_ctx ((okc_iff _).2 (ho.setI (by rw [ext_size _ _ _ (by omega)])))
    · rw [if_neg k]; exact good_same hc _
  rw [if_neg h6]
  by_cases h7 : t = 7
  · rw [if_pos h7]
    unfold out7
    by_cases k1 : d.size < 2
    · rw [if_pos k1]; exact good_same hc _
    rw [if_neg k1]
    by_cases k2 : bt d 0 = 0 ∨ 3 < bt d 0
    · rw [if_pos k2]; exact good_same hc _
    rw [if_neg k2]
    by_cases k : (fixO d (2 + sizeA (bt d 0))).2 = 0 ∧ (fixO d (2 + sizeA (bt d 0))).1 = true
    · rw [if_pos k]
      have hz : ¬ d.size < 2 + sizeA (bt d 0) := fun h => by rw [fix_short h] at k; cases k.2
      have := bt_nn d 0
      exact good_ctx ((okc_iff _).2 (ho.setN (by omega) (by omega) (hop_size (by omega) (by omega) hz)))
    · rw [if_neg k]; exact good_same hc _
  rw [if_neg h7]
  rcases outK_two d with ⟨e, h⟩ | ⟨u, g, h⟩
  · rw [out8_no h]; exact good_same hc _
  rw [out8_yes h]
  by_cases hx : 0 < u.om ∧ (c.pf u.ae).size = 0
  · rw [stU_err hx]; exact good_same hc _
  rw [stU_yes hx]
  have hi := adr_in ho g hx
  have hf := flag_ok ho g (in_adr hi)
  refine ⟨(okc_iff _).2 hf, ?_, fun h => absurd rfl h⟩
  by_cases ht : tellB (flagC c u (adrC c u)) u = true
  · exact .inr ⟨_, by show (if _ then _ else _) = _; rw [if_pos ht], upd_ok hf g hi ht, rfl, rfl, rfl⟩
  · exact .inl (by show (if _ then _ else _) = _; rw [if_neg ht])
theorem out_short {c : Kx} (t : Int) (d : ByteArray) (hc : okC c = true) : ∀ m ∈ (outC c t d).2.1, m.la = none ∧ m.ll = [] ∧ m.lc = 0 ∧ m.sl.length ≤ 100 ∧ ∀ x ∈ m.sl, x.1.size ≤ 1099511627776 := by
  intro m hm
  rcases (out_good t d hc).told with h | ⟨n, h, ho, h1, h2, h3⟩
  · rw [h] at hm; exact absurd hm (by simp)
  · rw [h] at hm
    rw [List.mem_singleton.1 hm]
    have hs : okS n.sl = true := by
      unfold okU at ho
      simp only [Bool.and_eq_true] at ho
      exact ho.2.2.1
    exact ⟨h1, h2, h3, okS_len hs, okS_mem hs⟩

/-- What says that there is no way tells neither a router-id nor a next hop, whatever is known. -/
theorem far_told {c : Kx} {u : Up} {a : ByteArray} (hm : u.metric = 65535) (c' : Kx) : updM c u a = updM c' u a ∧ (updM c u a).id = ByteArray.empty ∧ (updM c u a).next = ByteArray.empty := by
  unfold updM
  simp [hm]
theorem far_tell {c c' : Kx} {u : Up} (hm : u.metric = 65535) : tellB c u = tellB c' u := by
  unfold tellB
  rw [decide_eq_true hm]
  simp
structure Alike (c c' : Kx) : Prop where
  p0 : c.p0 = c'.p0
  p1 : c.p1 = c'.p1
  p2 : c.p2 = c'.p2
  p3 : c.p3 = c'.p3
theorem Alike.pf {c c' : Kx} (h : Alike c c') (ae : Int) : c.pf ae = c'.pf ae := by unfold Kx.pf; rw [h.p0, h.p1, h.p2, h.p3]
theorem Alike.setP {c c' : Kx} (h : Alike c c') (ae : Int) (a : ByteArray) : Alike (c.setP ae a) (c'.setP ae a) := by
  unfold Kx.setP
  split
  · exact ⟨h.p0, rfl, h.p2, h.p3⟩
  split
  · exact ⟨h.p0, h.p1, rfl, h.p3⟩
  split
  · exact ⟨h.p0, h.p1, h.p2, rfl⟩
  · exact ⟨rfl, h.p1, h.p2, h.p3⟩
theorem Alike.flag {c c' : Kx} (h : Alike c c') (u : Up) (a : ByteArray) : Alike (flagC c u a) (flagC c' u a) := by
  unfold flagC
  split
  · exact h
  split
  · split
    · have := h.setP u.ae a; exact ⟨this.p0, this.p1, this.p2, this.p3⟩
    · exact ⟨h.p0, h.p1, h.p2, h.p3⟩
  split
  · exact h.setP u.ae a
  · exact h
/-- An Update that says so comes to the same, whatever router-id and next hops are known. -/
theorem far_same {c c' : Kx} (h : Alike c c') (d : ByteArray) (hm : num2 d 8 = 65535) : (out8 c d).2 = (out8 c' d).2 ∧ Alike (out8 c d).1 (out8 c' d).1 ∧ ∀ m ∈ (out8 c d).2.1, m.id = ByteArray.empty ∧ m.next = ByteArray.empty ∧ m.metric = 65535 := by
  rcases outK_cases d with ⟨e, k⟩ | ⟨x, g, k⟩
  · rw [out8_no k, out8_no k]; exact ⟨rfl, h, fun m hm => absurd hm (by show ¬ m ∈ ([] : List M); simp)⟩
  rw [out8_yes k, out8_yes k]
  obtain ⟨u, hu⟩ : ∃ u : Up, u = { hdK d with hav := if x.known then 1 else 0, bytes := x.bytes, sl := x.sl } := ⟨_, rfl⟩
  rw [← hu]
  have hmu : u.metric = 65535 := by rw [hu]; exact hm
  have hp := h.pf u.ae
  have ha : adrC c u = adrC c' u := by unfold adrC omL; rw [hp]
  by_cases hx : 0 < u.om ∧ (c.pf u.ae).size = 0
  · rw [stU_err hx, stU_err (by rw [← hp]; exact hx)]; exact ⟨rfl, h, fun m hm => absurd hm (by show ¬ m ∈ ([] : List M); simp)⟩
  rw [stU_yes hx, stU_yes (by rw [← hp]; exact hx), ha]
  have hf := h.flag u (adrC c' u)
  refine ⟨?_, hf, ?_⟩
  · show (_, (0 : Int)) = (_, (0 : Int))
    rw [far_tell (c := flagC c u (adrC c' u)) (c' := flagC c' u (adrC c' u)) hmu, (far_told (c := flagC c u (adrC c' u)) hmu (flagC c' u (adrC c' u))).1]
  · intro m hm2
    have hm2 : m ∈ (if tellB (flagC c u (adrC c' u)) u then [updM (flagC c u (adrC c' u)) u (adrC c' u)] else []) := hm2
    split at hm2
    · rw [List.mem_singleton.1 hm2]
      exact ⟨(far_told hmu Kx.zero).2.1, (far_told hmu Kx.zero).2.2, hmu⟩
    · exact absurd hm2 (by simp)
theorem end_err {s : ByteArray} {z : Nat} {ae p om e : Int} (h : endE s z ae p om = (En.zero, false, e)) (k : ¬ 3 < ae) : ¬ e = 0 := by
  have fin : ∀ {e' : Int}, endE s z ae p om = (En.zero, false, e') → ¬ e' = 0 → ¬ e = 0 := fun h' n => by
    rw [h'] at h
    injection h with _ h; injection h with _ h
    rw [← h]; exact n
  by_cases h1 : s.size < z
  · exact fin (end_short h1) (by decide)
  cases g1 : lenB ae p
  · exact fin (end_range h1 k (.inl g1)) (by decide)
  by_cases g2 : (countN ae p : Int) < om
  · exact fin (end_range h1 k (.inr g2)) (by decide)
  by_cases c : s.size < restN z ae p om
  · exact fin (end_cut h1 k g1 g2 c) (by decide)
  obtain ⟨⟨l, b, x⟩, ho⟩ : ∃ q, outS (s.extract (restN z ae p om) s.size) = q := ⟨_, rfl⟩
  by_cases n : x = 0
  · subst n
    rw [end_yes h1 k g1 g2 c ho] at h
    injection h with _ h; injection h with h _; cases h
  · exact fin (end_sub h1 k g1 g2 c ho n) n
theorem ten {l : List UInt8} (h : 10 ≤ l.length) : ∃ x0 x1 x2 x3 x4 x5 x6 x7 x8 x9 r, l = x0 :: x1 :: x2 :: x3 :: x4 :: x5 :: x6 :: x7 :: x8 :: x9 :: r := by
  match l, h with
  | x0 :: x1 :: x2 :: x3 :: x4 :: x5 :: x6 :: x7 :: x8 :: x9 :: r, _ => exact ⟨x0, x1, x2, x3, x4, x5, x6, x7, x8, x9, r, rfl⟩
theorem at_0 {d : ByteArray} {x : UInt8} {l : List UInt8} (h : d.data.toList = x :: l) : bt d 0 = x.toNat := by unfold bt; rw [h]; rfl
theorem at_1 {d : ByteArray} {x y : UInt8} {l : List UInt8} (h : d.data.toList = x :: y :: l) : bt d 1 = y.toNat := by unfold bt; rw [h]; rfl
theorem at_2 {d : ByteArray} {x y z : UInt8} {l : List UInt8} (h : d.data.toList = x :: y :: z :: l) : bt d 2 = z.toNat := by unfold bt; rw [h]; rfl
theorem at_3 {d : ByteArray} {x y z u : UInt8} {l : List UInt8} (h : d.data.toList = x :: y :: z :: u :: l) : bt d 3 = u.toNat := by unfold bt; rw [h]; rfl
/-- What an Update comes to hangs on nothing but its address, and its other fields. -/
theorem stU_same {c : Kx} {u u' : Up} (hx : ¬ (0 < u.om ∧ (c.pf u.ae).size = 0)) (hx' : ¬ (0 < u'.om ∧ (c.pf u'.ae).size = 0)) (hu : u' = { u with om := u'.om, bytes := u'.bytes }) (ha : adrC c u' = adrC c u) : stU c u' = stU c u := by
  rw [stU_yes hx, stU_yes hx', ha]
  have e1 : flagC c u' (adrC c u) = flagC c u (adrC c u) := by rw [hu]; rfl
  rw [e1]
  have e2 : ∀ x, tellB x u' = tellB x u := fun x => by rw [hu]; rfl
  have e3 : ∀ x y, updM x u' y = updM x u y := fun x y => by rw [hu]; rfl
  rw [e2, e3]
/-- Bytes that may be left out: they are what they stand for. -/
theorem om_same {c : Kx} {d d' : ByteArray} {k : Nat} (hc : okC c = true) (h1 : 1 ≤ bt d 0) (h3 : bt d 0 ≤ 3) (hz : bt d 3 = 0) (he : (out8 c d).2.2 = 0) (hp : ¬ (c.pf (bt d 0)).size = 0)
    (hk : k ≤ countN (bt d 0) (bt d 2)) (hd : 10 + k ≤ d.size)
    (heq : (d.data.toList.drop 10).take k = ((c.pf (bt d 0)).data.toList.drop (baseN (bt d 0))).take k)
    (hl : d'.data.toList = d.data.toList.take 3 ++ (UInt8.ofNat k :: ((d.data.toList.drop 4).take 6 ++ d.data.toList.drop (10 + k)))) : out8 c d' = out8 c d := by
  have g : ∃ x, Got d 10 (bt d 0) (bt d 2) (bt d 3) x := by
    rcases end_cases d 10 (bt d 0) (bt d 2) (bt d 3) with ⟨e, hh⟩ | g
    · rw [out8_no (outK_no hh)] at he
      exact absurd he (end_err hh (by omega))
    · exact g
  obtain ⟨x, g⟩ := g
  have hcn := (count_le g.len).1
  obtain ⟨x0, x1, x2, x3, x4, x5, x6, x7, x8, x9, r, hL⟩ := ten (l := d.data.toList) (by rw [size_list]; omega)
  have hk8 : (UInt8.ofNat k).toNat = k := by rw [UInt8.toNat_ofNat']; omega
  have hL' : d'.data.toList = x0 :: x1 :: x2 :: UInt8.ofNat k :: x4 :: x5 :: x6 :: x7 :: x8 :: x9 :: r.drop k := by
    rw [hl, hL, show 10 + k = k + 10 by omega]
    rfl
  have b0 : bt d' 0 = bt d 0 := by rw [at_0 hL, at_0 hL']
  have b1 : bt d' 1 = bt d 1 := by rw [at_1 hL, at_1 hL']
  have b2 : bt d' 2 = bt d 2 := by rw [at_2 hL, at_2 hL']
  have b3 : bt d' 3 = (k : Int) := by rw [at_3 hL', hk8]
  have n4 : num2 d' 4 = num2 d 4 := by unfold num2; rw [hL, hL']; rfl
  have n6 : num2 d' 6 = num2 d 6 := by unfold num2; rw [hL, hL']; rfl
  have n8 : num2 d' 8 = num2 d 8 := by unfold num2; rw [hL, hL']; rfl
  have hr : restN 10 (bt d 0) (bt d 2) (bt d 3) = 10 + countN (bt d 0) (bt d 2) := by unfold restN; rw [hz]; rfl
  have hr' : restN 10 (bt d 0) (bt d 2) (k : Int) = 10 + (countN (bt d 0) (bt d 2) - k) := by unfold restN; rw [Int.toNat_natCast]
  have hs := g.size
  have hrl : r.length = d.size - 10 := by have := size_list d; rw [hL] at this; simp only [List.length_cons] at this; omega
  have hs' : d'.size = d.size - k := by
    rw [← size_list, hL']
    simp only [List.length_cons, List.length_drop]
    omega
  have hb := g.bytes
  have ho := g.sub
  have hg := g.eq
  rw [hr] at hs hb ho
  obtain ⟨cn, hcc⟩ : ∃ cn, countN (bt d 0) (bt d 2) = cn := ⟨_, rfl⟩
  rw [hcc] at hs hb ho hr' hk hr hcn
  have hrest : d'.extract (10 + (cn - k)) d'.size = d.extract (10 + cn) d.size := text_eq (by
    rw [ext_to, ext_to, hL, hL', show 10 + (cn - k) = (cn - k) + 10 by omega, show 10 + cn = cn + 10 by omega]
    show (r.drop k).drop (cn - k) = r.drop cn
    rw [List.drop_drop, show k + (cn - k) = cn by omega])
  have hy := end_yes (s := d') (z := 10) (ae := bt d 0) (p := bt d 2) (om := (k : Int)) (l := x.sl) (b := x.known) (by omega) g.ae3 g.len (by rw [hcc]; omega) (by rw [hr']; omega) (by rw [hr', hrest]; exact ho)
  have hy2 := outK_yes (d := d') (x := ⟨d'.extract 10 (10 + (cn - k)), x.sl, x.known⟩) (by rw [b0, b2, b3, hy, hr'])
  rw [out8_yes hy2, out8_yes (outK_yes hg)]
  refine stU_same (by show ¬ (0 < bt d 3 ∧ _); omega) (fun h => hp (by have := h.2; rw [show (_ : Up).ae = bt d' 0 from rfl, b0] at this; exact this)) ?_ ?_
  · unfold hdK
    rw [b0, b1, b2, n4, n6, n8]
  · unfold adrC omL
    show wholeP (bt d' 0) ⟨((((c.pf (bt d' 0)).data.toList.drop (baseN (bt d' 0))).take (bt d' 3).toNat) ++ (d'.extract 10 (10 + (cn - k))).data.toList).toArray⟩ (bt d' 2) = wholeP (bt d 0) ⟨((((c.pf (bt d 0)).data.toList.drop (baseN (bt d 0))).take (bt d 3).toNat) ++ x.bytes.data.toList).toArray⟩ (bt d 2)
    rw [b0, b2, b3, hz, Int.toNat_natCast, ← heq, hb, ext_list, ext_list, hL, hL']
    show wholeP _ ⟨(r.take k ++ (r.drop k).take (10 + (cn - k) - 10)).toArray⟩ _ = wholeP _ ⟨([] ++ r.take (10 + cn - 10)).toArray⟩ _
    rw [show 10 + (cn - k) - 10 = cn - k by omega, show 10 + cn - 10 = k + (cn - k) by omega, List.nil_append, ← List.take_add]
end Go.Proofs.YteecialdkfaejaaDoor.K1
