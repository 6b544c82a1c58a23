/-
  What is known at a place, which Updates may be, what a TLV makes of what is known and tells: definitions on values alone, and facts on them. No conditions.
  The messages of Babel's TLVs, of a body and of a datagram, and what is known behind them: definitions on values alone, and facts on them. No conditions.
-/
import Derived.Test.YtjhfpobjbijcpaaGreatDoorB09
import Derived.Test.YtjhfpobjbijcpaaGreatDoorB12
namespace Go.Proofs.YtjhfpobjbijcpaaGreatDoor.K1
open Go.ChangeShapes Go.WideShapes Go.ChangeAt Go.RowKit
open Go.Proofs.YtjhfpobjbijcpaaGreatDoor.Ms
open Go.Proofs.YtjhfpobjbijcpaaGreatDoor.S1
open Go.Proofs.YtjhfpobjbijcpaaGreatDoor.Lk
open Go.Proofs.YtjhfpobjbijcpaaGreatDoor.Nu
open Go.Proofs.YtjhfpobjbijcpaaGreatDoor.J1
open Go.Proofs.YtjhfpobjbijcpaaGreatDoor.Oct (fitsB)
open Go.Proofs.YtjhfpobjbijcpaaGreatDoor.Own (k11 ownM isKind fieldsOf)
open Go.Proofs.YtjhfpobjbijcpaaGreatDoor.Bits (keepL keepL_length)
open Go.Proofs.YtjhfpobjbijcpaaGreatDoor.Pre (leastN fillL rightZ)
open Go.Proofs.YtjhfpobjbijcpaaGreatDoor.F1 (bt bt_nn bt_lt)
set_option linter.unusedVariables false
set_option maxRecDepth 100000
set_option maxRecDepth 100000

/-- What is known at a place. -/
structure Kx where
  p0 : ByteArray
  p1 : ByteArray
  p2 : ByteArray
  p3 : ByteArray
  n0 : ByteArray
  n1 : ByteArray
  id : ByteArray
def Kx.zero : Kx := ⟨ByteArray.empty, ByteArray.empty, ByteArray.empty, ByteArray.empty, ByteArray.empty, ByteArray.empty, ByteArray.empty⟩
def Kx.cells (c : Kx) : Array Value := #[.string c.p0, .string c.p1, .string c.p2, .string c.p3, .string c.n0, .string c.n1, .string c.id]
/-- The default prefix of an encoding, the next hop of a family; with another one. -/
def Kx.pf (c : Kx) (ae : Int) : ByteArray := if ae = 1 then c.p1 else if ae = 2 then c.p2 else if ae = 3 then c.p3 else c.p0
def Kx.nx (c : Kx) (f : Int) : ByteArray := if f = 1 then c.n1 else c.n0
def Kx.setP (c : Kx) (ae : Int) (a : ByteArray) : Kx := if ae = 1 then { c with p1 := a } else if ae = 2 then { c with p2 := a } else if ae = 3 then { c with p3 := a } else { c with p0 := a }
def Kx.setN (c : Kx) (f : Int) (a : ByteArray) : Kx := if f = 1 then { c with n1 := a } else { c with n0 := a }
def emB (a : ByteArray) : Bool := decide (a.size = 0)
def okP (ae : Int) (a : ByteArray) : Bool := emB a || adrB ae a
def okN (k : Nat) (a : ByteArray) : Bool := emB a || decide (a.size = k)
/-- May it be? -/
def okC (c : Kx) : Bool := emB c.p0 && (okP 1 c.p1 && (okP 2 c.p2 && (okP 3 c.p3 && (okN 4 c.n0 && (okN 16 c.n1 && okN 8 c.id)))))
structure Okc (c : Kx) : Prop where
  p0 : c.p0.size = 0
  p1 : c.p1.size = 0 ∨ adrB 1 c.p1 = true
  p2 : c.p2.size = 0 ∨ adrB 2 c.p2 = true
  p3 : c.p3.size = 0 ∨ adrB 3 c.p3 = true
  n0 : c.n0.size = 0 ∨ c.n0.size = 4
  n1 : c.n1.size = 0 ∨ c.n1.size = 16
  id : c.id.size = 0 ∨ c.id.size = 8
theorem okc_iff (c : Kx) : okC c = true ↔ Okc c := by
  unfold okC okP okN emB
  simp only [Bool.and_eq_true, Bool.or_eq_true, decide_eq_true_eq]
  exact ⟨fun ⟨a, b, c, d, e, f, g⟩ => ⟨a, b, c, d, e, f, g⟩, fun ⟨a, b, c, d, e, f, g⟩ => ⟨a, b, c, d, e, f, g⟩⟩
theorem Okc.pf {c : Kx} (h : Okc c) {ae : Int} (h0 : 0 ≤ ae) (h3 : ae ≤ 3) : (c.pf ae).size = 0 ∨ (adrB ae (c.pf ae) = true ∧ ¬ ae = 0) := by
  rcases (show ae = 0 ∨ ae = 1 ∨ ae = 2 ∨ ae = 3 by omega) with rfl | rfl | rfl | rfl
  · exact .inl h.p0
  · exact h.p1.imp (fun x => x) (fun h => ⟨h, by decide⟩)
  · exact h.p2.imp (fun x => x) (fun h => ⟨h, by decide⟩)
  · exact h.p3.imp (fun x => x) (fun h => ⟨h, by decide⟩)
theorem Okc.setP {c : Kx} (h : Okc c) {ae : Int} {a : ByteArray} (h0 : 0 < ae) (h3 : ae ≤ 3) (ha : adrB ae a = true) : Okc (c.setP ae a) := by
  rcases (show ae = 1 ∨ ae = 2 ∨ ae = 3 by omega) with rfl | rfl | rfl
  · exact ⟨h.p0, .inr ha, h.p2, h.p3, h.n0, h.n1, h.id⟩
  · exact ⟨h.p0, h.p1, .inr ha, h.p3, h.n0, h.n1, h.id⟩
  · exact ⟨h.p0, h.p1, h.p2, .inr ha, h.n0, h.n1, h.id⟩
theorem Okc.setI {c : Kx} (h : Okc c) {a : ByteArray} (ha : a.size = 8) : Okc { c with id := a } := ⟨h.p0, h.p1, h.p2, h.p3, h.n0, h.n1, .inr ha⟩
theorem okc_zero : okC Kx.zero = true := rfl

/-- The family of an encoding's addresses, that of an address, the bytes of an encoding's address. -/
def fam (ae : Int) : Int := if ae = 1 then 0 else if ae = 2 ∨ ae = 3 then 1 else -1
def famA (a : ByteArray) : Int := if a.size = 4 then 0 else if a.size = 16 then 1 else -1
def sizeA (ae : Int) : Nat := if ae = 1 then 4 else if ae = 2 then 16 else if ae = 3 then 8 else 0
theorem Okc.setN {c : Kx} (h : Okc c) {ae : Int} {a : ByteArray} (h0 : 0 < ae) (h3 : ae ≤ 3) (ha : a.size = if ae = 1 then 4 else 16) : Okc (c.setN (fam ae) a) := by
  rcases (show ae = 1 ∨ ae = 2 ∨ ae = 3 by omega) with rfl | rfl | rfl
  · exact ⟨h.p0, h.p1, h.p2, h.p3, .inr ha, h.n1, h.id⟩
  · exact ⟨h.p0, h.p1, h.p2, h.p3, h.n0, .inr ha, h.id⟩
  · exact ⟨h.p0, h.p1, h.p2, h.p3, h.n0, .inr ha, h.id⟩
theorem Okc.nx {c : Kx} (h : Okc c) {ae : Int} (h0 : 0 < ae) (h3 : ae ≤ 3) : (c.nx (fam ae)).size = 0 ∨ famA (c.nx (fam ae)) = fam ae := by
  rcases (show ae = 1 ∨ ae = 2 ∨ ae = 3 by omega) with rfl | rfl | rfl
  · exact h.n0.imp (fun x => x) (fun h => by show famA c.n0 = 0; unfold famA; rw [if_pos h])
  · exact h.n1.imp (fun x => x) (fun h => by show famA c.n1 = 1; unfold famA; rw [if_neg (by omega), if_pos h])
  · exact h.n1.imp (fun x => x) (fun h => by show famA c.n1 = 1; unfold famA; rw [if_neg (by omega), if_pos h])

/-- Is it bare? Does an Update say who has the way, if there is one? -/
theorem is_11 {m : M} (h : m.kind = 11) : isKind m = true ∧ ownM m = { k11 m with kind := m.kind } := by
  have hi : isKind m = true := by simp [isKind, h]
  exact ⟨hi, by simp [ownM, hi, fieldsOf, h]⟩
def wayB (m : M) : Bool := if m.metric = 65535 then emB m.id && emB m.next else !decide (m.ae = 0) && (decide (m.id.size = 8) && (emB m.next || decide (famA m.next = fam m.ae)))
/-- May it be an Update? -/
def okU (m : M) : Bool := decide (m.kind = 11) && (bare m && (okS m.sl && (inB m.ae m.pfx m.plen && (fitsB m.interval 2 && (fitsB m.seq 2 && (fitsB m.metric 2 && wayB m))))))

/-- The sub-TLVs from a place on: whether none must be known, or an error. -/
noncomputable def fixO (d : ByteArray) (z : Nat) : Bool × Int := if d.size < z then (false, 2) else (outS (d.extract z d.size)).2
/-- What a router-id's TLV makes, what a next hop's. -/
noncomputable def out6 (c : Kx) (d : ByteArray) : Kx × List M × Int :=
  if (fixO d 10).2 = 0 ∧ (fixO d 10).1 = true then ({ c with id := d.extract 2 10 }, [], 0) else (c, [], (fixO d 10).2)
def hopA (ae : Int) (d : ByteArray) : ByteArray := if ae = 3 then lgA (d.extract 2 (2 + sizeA ae)) else d.extract 2 (2 + sizeA ae)
noncomputable def out7 (c : Kx) (d : ByteArray) : Kx × List M × Int :=
  if d.size < 2 then (c, [], 2)
  else if bt d 0 = 0 ∨ 3 < bt d 0 then (c, [], 0)
  else if (fixO d (2 + sizeA (bt d 0))).2 = 0 ∧ (fixO d (2 + sizeA (bt d 0))).1 = true then (c.setN (fam (bt d 0)) (hopA (bt d 0) d), [], 0)
  else (c, [], (fixO d (2 + sizeA (bt d 0))).2)
/-- An Update's address: the bytes that were left out are the default prefix's. -/
def omL (c : Kx) (u : Up) : List UInt8 := ((c.pf u.ae).data.toList.drop (baseN u.ae)).take u.om.toNat
def adrC (c : Kx) (u : Up) : ByteArray := wholeP u.ae ⟨(omL c u ++ u.bytes.data.toList).toArray⟩ u.plen
/-- The router-id that lies in an address. -/
def idA (a : ByteArray) : ByteArray := ⟨((List.replicate 8 0 ++ a.data.toList).drop a.size).toArray⟩
theorem idA_size (a : ByteArray) : (idA a).size = 8 := by
  unfold idA
  rw [mk_size, List.length_drop, List.length_append, List.length_replicate, size_list]
  omega
/-- What is known behind an Update by its flags. -/
def flagC (c : Kx) (u : Up) (a : ByteArray) : Kx :=
  if u.ae = 0 then c
  else if u.flags / 64 % 2 = 1 then { (if 128 ≤ u.flags then c.setP u.ae a else c) with id := idA a }
  else if 128 ≤ u.flags then c.setP u.ae a else c
/-- Is it told? The message. -/
def tellB (c : Kx) (u : Up) : Bool := !decide (u.hav = 0) && (decide (u.metric = 65535) || (!decide (u.ae = 0) && !emB c.id))
def updM (c : Kx) (u : Up) (a : ByteArray) : M :=
  { M.zero with kind := 11, ae := u.ae, pfx := a, plen := u.plen, interval := u.iv, seq := u.seq, metric := u.metric, sl := u.sl,
                id := if u.metric = 65535 then ByteArray.empty else c.id, next := if u.metric = 65535 then ByteArray.empty else c.nx (fam u.ae) }
def stU (c : Kx) (u : Up) : Kx × List M × Int :=
  if 0 < u.om ∧ (c.pf u.ae).size = 0 then (c, [], 9)
  else (flagC c u (adrC c u), if tellB (flagC c u (adrC c u)) u then [updM (flagC c u (adrC c u)) u (adrC c u)] else [], 0)
noncomputable def out8 (c : Kx) (d : ByteArray) : Kx × List M × Int := if (outK d).2.1 = true then stU c (outK d).1 else (c, [], (outK d).2.2)
/-- What a TLV of the types 6 to 8 makes of what is known, what it tells, the error. -/
noncomputable def outC (c : Kx) (t : Int) (d : ByteArray) : Kx × List M × Int := if t = 6 then out6 c d else if t = 7 then out7 c d else out8 c d

theorem fix_short {d : ByteArray} {z : Nat} (h : d.size < z) : fixO d z = (false, 2) := by unfold fixO; rw [if_pos h]
theorem fix_long {d : ByteArray} {z : Nat} (h : ¬ d.size < z) : fixO d z = (outS (d.extract z d.size)).2 := by unfold fixO; rw [if_neg h]
/-- An Update that counts. -/
structure Cnt (d : ByteArray) (u : Up) : Prop where
  ae0 : 0 ≤ u.ae
  ae3 : u.ae ≤ 3
  len : lenB u.ae u.plen = true
  om0 : 0 ≤ u.om
  omle : u.om ≤ countN u.ae u.plen
  size : u.bytes.size = countN u.ae u.plen - u.om.toNat
  subs : okS u.sl = true
  iv : fitsB u.iv 2 = true
  seq : fitsB u.seq 2 = true
  metric : fitsB u.metric 2 = true
  fl0 : 0 ≤ u.flags
  fl1 : u.flags < 256
theorem outK_cnt {d : ByteArray} (h : (outK d).2.1 = true) : Cnt d (outK d).1 ∧ (outK d).2.2 = 0 := by
  rcases outK_cases d with ⟨e, k⟩ | ⟨x, g, k⟩
  · rw [k] at h; cases h
  rw [k]
  have hl := len_range g.len
  have hs := g.size
  have h10 : 10 ≤ d.size := by unfold restN at hs; omega
  refine ⟨⟨hl.1, hl.2.1, g.len, bt_nn d 3, g.omle, ?_, g.subs, num2_fits (by omega), num2_fits (by omega), num2_fits (by omega), bt_nn d 1, bt_lt d 1⟩, rfl⟩
  show x.bytes.size = countN (bt d 0) (bt d 2) - (bt d 3).toNat
  rw [g.bytes, ext_size _ _ _ hs]
  unfold restN
  omega
theorem outK_two (d : ByteArray) : (∃ e, outK d = (Up.zero, false, e)) ∨ ∃ u, Cnt d u ∧ outK d = (u, true, 0) := by
  rcases outK_cases d with ⟨e, k⟩ | ⟨x, g, k⟩
  · exact .inl ⟨e, k⟩
  · have := outK_cnt (d := d) (by rw [k])
    rw [k] at this
    exact .inr ⟨_, this.1, k⟩
theorem adr_len {ae : Int} {a : ByteArray} (h : adrB ae a = true) (h0 : 0 < ae) (h3 : ae ≤ 3) : a.size = if ae = 1 then 4 else 16 := by
  rcases (show ae = 1 ∨ ae = 2 ∨ ae = 3 by omega) with rfl | rfl | rfl
  · simpa [adrB] using h
  · simpa [adrB] using h
  · have h : link a = true := h
    exact link_size h
/-- As many bytes as were left out stand in the default prefix. -/
theorem ahead_len {c : Kx} {d : ByteArray} {u : Up} (hc : Okc c) (g : Cnt d u) (h : ¬ (0 < u.om ∧ (c.pf u.ae).size = 0)) : (omL c u).length = u.om.toNat := by
  unfold omL
  rw [List.length_take, List.length_drop, size_list]
  by_cases h0 : u.om = 0
  · rw [h0]; simp
  have hp := hc.pf g.ae0 g.ae3
  have h1 := g.om0
  rcases hp with hp | ⟨hp, hz⟩
  · exact absurd ⟨by omega, hp⟩ h
  have hl := adr_len hp (by have := g.ae0; omega) g.ae3
  have h2 := g.omle
  have hcl := count_le g.len
  rcases len_cases g.len with ⟨e, _⟩ | ⟨e, _, k⟩ | ⟨e, _, k⟩ | ⟨e, _, k⟩
  · exact absurd e hz
  · rw [e] at hl hcl h2 ⊢
    have : countN 1 u.plen ≤ 4 := by unfold countN leastN baseN; simp; omega
    have hb : baseN 1 = 0 := rfl
    simp only [if_pos] at hl
    omega
  · rw [e] at hl hcl h2 ⊢
    have hb : baseN 2 = 0 := rfl
    rw [if_neg (by decide)] at hl
    omega
  · rw [e] at hl hcl h2 ⊢
    have hb : baseN 3 = 8 := rfl
    have : countN 3 u.plen ≤ 8 := by unfold countN leastN baseN; simp; omega
    rw [if_neg (by decide)] at hl
    omega
theorem whole_size {c : Kx} {d : ByteArray} {u : Up} (hc : Okc c) (g : Cnt d u) (h : ¬ (0 < u.om ∧ (c.pf u.ae).size = 0)) : (ByteArray.mk (omL c u ++ u.bytes.data.toList).toArray).size = countN u.ae u.plen := by
  rw [mk_size, List.length_append, ahead_len hc g h, size_list, g.size]
  have := g.omle
  have := g.om0
  omega
theorem adr_in {c : Kx} {d : ByteArray} {u : Up} (hc : Okc c) (g : Cnt d u) (h : ¬ (0 < u.om ∧ (c.pf u.ae).size = 0)) : inB u.ae (adrC c u) u.plen = true := whole_in g.len (whole_size hc g h)
theorem in_adr {ae : Int} {a : ByteArray} {p : Int} (h : inB ae a p = true) : adrB ae a = true := by unfold inB at h; rw [Bool.and_eq_true] at h; exact h.1
theorem flag_ok {c : Kx} {d : ByteArray} {u : Up} {a : ByteArray} (hc : Okc c) (g : Cnt d u) (ha : adrB u.ae a = true) : Okc (flagC c u a) := by
  unfold flagC
  by_cases h0 : u.ae = 0
  · rw [if_pos h0]; exact hc
  rw [if_neg h0]
  have h1 : 0 < u.ae := by have := g.ae0; omega
  have hp := hc.setP h1 g.ae3 ha
  by_cases k : u.flags / 64 % 2 = 1
  · rw [if_pos k]
    split
    · exact hp.setI (idA_size a)
    · exact hc.setI (idA_size a)
  · rw [if_neg k]
    split
    · exact hp
    · exact hc
theorem em_size {a : ByteArray} : emB a = true ↔ a.size = 0 := by unfold emB; exact decide_eq_true_iff
/-- What is told may be. -/
theorem upd_ok {c : Kx} {d : ByteArray} {u : Up} {a : ByteArray} (hc : Okc c) (g : Cnt d u) (hi : inB u.ae a u.plen = true) (ht : tellB c u = true) : okU (updM c u a) = true := by
  have hb : bare (updM c u a) = true := by
    unfold bare
    rw [(is_11 (m := updM c u a) rfl).1, (is_11 (m := updM c u a) rfl).2]
    unfold M.same M.flatE k11 updM M.zero
    simp
  have hw : wayB (updM c u a) = true := by
    unfold wayB
    unfold tellB at ht
    by_cases hm : u.metric = 65535
    · rw [if_pos (show (updM c u a).metric = 65535 from hm)]
      have e1 : (updM c u a).id = ByteArray.empty := by unfold updM; simp [hm]
      have e2 : (updM c u a).next = ByteArray.empty := by unfold updM; simp [hm]
      rw [e1, e2]
      rfl
    · rw [if_neg (show ¬ (updM c u a).metric = 65535 from hm)]
      rw [decide_eq_false hm] at ht
      simp only [Bool.and_eq_true, Bool.or_eq_true, Bool.not_eq_true', Bool.false_eq_true, false_or, decide_eq_false_iff_not] at ht
      obtain ⟨_, h0, hz⟩ := ht
      have e1 : (updM c u a).id = c.id := by unfold updM; simp [hm]
      have e2 : (updM c u a).next = c.nx (fam u.ae) := by unfold updM; simp [hm]
      have e3 : (updM c u a).ae = u.ae := rfl
      have h8 : c.id.size = 8 := hc.id.resolve_left (fun h => by rw [em_size.2 h] at hz; cases hz)
      rw [e1, e2, e3, decide_eq_false h0, decide_eq_true h8]
      have := hc.nx (ae := u.ae) (by have := g.ae0; omega) g.ae3
      rcases this with h | h
      · rw [em_size.2 h]; rfl
      · rw [decide_eq_true h]; simp
  unfold okU
  rw [hb, hw]
  show (decide ((11 : Int) = 11) && (true && (okS u.sl && (inB u.ae a u.plen && (fitsB u.iv 2 && (fitsB u.seq 2 && (fitsB u.metric 2 && true))))))) = true
  rw [g.subs, hi, g.iv, g.seq, g.metric]
  rfl
/-- What a TLV comes to. -/
theorem stU_err {c : Kx} {u : Up} (h : 0 < u.om ∧ (c.pf u.ae).size = 0) : stU c u = (c, [], 9) := by unfold stU; rw [if_pos h]
theorem stU_yes {c : Kx} {u : Up} (h : ¬ (0 < u.om ∧ (c.pf u.ae).size = 0)) : stU c u = (flagC c u (adrC c u), if tellB (flagC c u (adrC c u)) u then [updM (flagC c u (adrC c u)) u (adrC c u)] else [], 0) := by unfold stU; rw [if_neg h]
theorem out8_no {c : Kx} {d : ByteArray} {e : Int} (h : outK d = (Up.zero, false, e)) : out8 c d = (c, [], e) := by unfold out8; rw [h, if_neg (by simp)]
theorem out8_yes {c : Kx} {d : ByteArray} {u : Up} (h : outK d = (u, true, 0)) : out8 c d = stU c u := by unfold out8; rw [h, if_pos rfl]
structure Good (c : Kx) (p : Kx × List M × Int) : Prop where
  ok : okC p.1 = true
  told : p.2.1 = [] ∨ ∃ m, p.2.1 = [m] ∧ okU m = true ∧ m.la = none ∧ m.ll = [] ∧ m.lc = 0
  err : ¬ p.2.2 = 0 → p = (c, [], p.2.2)
theorem good_same {c : Kx} (hc : okC c = true) (e : Int) : Good c (c, [], e) := ⟨hc, .inl rfl, fun _ => rfl⟩
theorem good_ctx {c c' : Kx} (hc : okC c' = true) : Good c (c', [], 0) := ⟨hc, .inl rfl, fun h => absurd rfl h⟩
theorem hop_size {ae : Int} {d : ByteArray} (h0 : 0 < ae) (h3 : ae ≤ 3) (hd : ¬ d.size < 2 + sizeA ae) : (hopA ae d).size = if ae = 1 then 4 else 16 := by
  rcases (show ae = 1 ∨ ae = 2 ∨ ae = 3 by omega) with rfl | rfl | rfl
  · have : sizeA 1 = 4 := rfl
    show (d.extract 2 6).size = 4
    rw [ext_size _ _ _ (by omega)]
  · have : sizeA 2 = 16 := rfl
    show (d.extract 2 18).size = 16
    rw [ext_size _ _ _ (by omega)]
  · have : sizeA 3 = 8 := rfl
    show (lgA (d.extract 2 10)).size = 16
    exact link_size (link_lg (by rw [ext_size _ _ _ (by omega)])).1
theorem out_good {c : Kx} (t : Int) (d : ByteArray) (hc : okC c = true) : Good c (outC c t d) := by
  have ho := (okc_iff c).1 hc
  unfold outC
  by_cases h6 : t = 6
  · rw [if_pos h6]
    unfold out6
    by_cases k : (fixO d 10).2 = 0 ∧ (fixO d 10).1 = true
    · rw [if_pos k]
      have hz : ¬ d.size < 10 := fun h => by rw [fix_short h] at k; cases k.2
      exact good_ctx ((okc_iff _).2 (ho.setI (by rw [ext_size _ _ _ (by omega)])))
    · rw [if_neg k]; exact good_same hc _
  rw [if_neg h6]
  by_cases h7 : t = 7
  · rw [if_pos h7]
    unfold out7
    by_cases k1 : d.size < 2
    · rw [if_pos k1]; exact good_same hc _
    rw [if_neg k1]
    by_cases k2 : bt d 0 = 0 ∨ 3 < bt d 0
    · rw [if_pos k2]; exact good_same hc _
    rw [if_neg k2]
    by_cases k : (fixO d (2 + sizeA (bt d 0))).2 = 0 ∧ (fixO d (2 + sizeA (bt d 0))).1 = true
    · rw [if_pos k]
      have hz : ¬ d.size < 2 + sizeA (bt d 0) := fun h => by rw [fix_short h] at k; cases k.2
      have := bt_nn d 0
      exact good_ctx ((okc_iff _).2 (ho.setN (by omega) (by omega) (hop_size (by omega) (by omega) hz)))
    · rw [if_neg k]; exact good_same hc _
  rw [if_neg h7]
  rcases outK_two d with ⟨e, h⟩ | ⟨u, g, h⟩
  · rw [out8_no h]; exact good_same hc _
  rw [out8_yes h]
  by_cases hx : 0 < u.om ∧ (c.pf u.ae).size = 0
  · rw [stU_err hx]; exact good_same hc _
  rw [stU_yes hx]
  have hi := adr_in ho g hx
  have hf := flag_ok ho g (in_adr hi)
  refine ⟨(okc_iff _).2 hf, ?_, fun h => absurd rfl h⟩
  by_cases ht : tellB (flagC c u (adrC c u)) u = true
  · exact .inr ⟨_, by show (if _ then _ else _) = _; rw [if_pos ht], upd_ok hf g hi ht, rfl, rfl, rfl⟩
  · exact .inl (by show (if _ then _ else _) = _; rw [if_neg ht])
theorem out_short {c : Kx} (t : Int) (d : ByteArray) (hc : okC c = true) : ∀ m ∈ (outC c t d).2.1, m.la = none ∧ m.ll = [] ∧ m.lc = 0 ∧ m.sl.length ≤ 100 ∧ ∀ x ∈ m.sl, x.1.size ≤ 1099511627776 := by
  intro m hm
  rcases (out_good t d hc).told with h | ⟨n, h, ho, h1, h2, h3⟩
  · rw [h] at hm; exact absurd hm (by simp)
  · rw [h] at hm
    rw [List.mem_singleton.1 hm]
    have hs : okS n.sl = true := by
      unfold okU at ho
      simp only [Bool.and_eq_true] at ho
      exact ho.2.2.1
    exact ⟨h1, h2, h3, okS_len hs, okS_mem hs⟩

theorem at_0 {d : ByteArray} {x : UInt8} {l : List UInt8} (h : d.data.toList = x :: l) : bt d 0 = x.toNat := by unfold bt; rw [h]; rfl
theorem at_1 {d : ByteArray} {x y : UInt8} {l : List UInt8} (h : d.data.toList = x :: y :: l) : bt d 1 = y.toNat := by unfold bt; rw [h]; rfl
theorem at_2 {d : ByteArray} {x y z : UInt8} {l : List UInt8} (h : d.data.toList = x :: y :: z :: l) : bt d 2 = z.toNat := by unfold bt; rw [h]; rfl
theorem at_3 {d : ByteArray} {x y z u : UInt8} {l : List UInt8} (h : d.data.toList = x :: y :: z :: u :: l) : bt d 3 = u.toNat := by unfold bt; rw [h]; rfl
end Go.Proofs.YtjhfpobjbijcpaaGreatDoor.K1
namespace Go.Proofs.YtjhfpobjbijcpaaGreatDoor.I1
open Go.ChangeShapes Go.WideShapes Go.ChangeAt Go.RowKit
open Go.Proofs.YtjhfpobjbijcpaaGreatDoor.Ms
open Go.Proofs.YtjhfpobjbijcpaaGreatDoor.S1 (okS outS)
open Go.Proofs.YtjhfpobjbijcpaaGreatDoor.G1 (outF)
open Go.Proofs.YtjhfpobjbijcpaaGreatDoor.J1 (outJ)
open Go.Proofs.YtjhfpobjbijcpaaGreatDoor.K1
open Go.Proofs.YtjhfpobjbijcpaaGreatDoor.F1
open Go.Proofs.YtjhfpobjbijcpaaGreatDoor.Nu (text_eq ext_list)
set_option linter.unusedVariables false
set_option maxRecDepth 100000
set_option maxRecDepth 100000

/-- A message of a type that nobody knows. -/
def opM (t : Int) (d : ByteArray) : M := { M.zero with kind := 14, typ := t, data := d }
/-- A message's answer, beside what is known. -/
def tell (c : Kx) (p : M × Bool × Int) : Kx × List M × Int := (c, if p.2.2 = 0 ∧ p.2.1 = true then [p.1] else [], p.2.2)
/-- A TLV's messages, what is known behind it, or its error. -/
noncomputable def one (c : Kx) (t : Int) (d : ByteArray) : Kx × List M × Int :=
  if t = 0 ∨ t = 1 then (c, [], 0) else if 2 ≤ t ∧ t ≤ 5 then tell c (outF t d) else if 6 ≤ t ∧ t ≤ 8 then outC c t d else if t = 9 ∨ t = 10 then tell c (outJ t d) else (c, [opM t d], 0)
theorem one_pad {t : Int} (h : t = 0 ∨ t = 1) (c : Kx) (d : ByteArray) : one c t d = (c, [], 0) := by unfold one; rw [if_pos h]
theorem one_f {t : Int} (h2 : 2 ≤ t) (h5 : t ≤ 5) (c : Kx) (d : ByteArray) : one c t d = tell c (outF t d) := by unfold one; rw [if_neg (by omega), if_pos ⟨h2, h5⟩]
theorem one_c {t : Int} (h6 : 6 ≤ t) (h8 : t ≤ 8) (c : Kx) (d : ByteArray) : one c t d = outC c t d := by unfold one; rw [if_neg (by omega), if_neg (by omega), if_pos ⟨h6, h8⟩]
theorem one_j {t : Int} (h : t = 9 ∨ t = 10) (c : Kx) (d : ByteArray) : one c t d = tell c (outJ t d) := by unfold one; rw [if_neg (by omega), if_neg (by omega), if_neg (by omega), if_pos h]
theorem one_o {t : Int} (h : t < 0 ∨ 10 < t) (c : Kx) (d : ByteArray) : one c t d = (c, [opM t d], 0) := by unfold one; rw [if_neg (by omega), if_neg (by omega), if_neg (by omega), if_neg (by omega)]

/-- Small: it has no destinations, and few Subs. -/
def Sml (m : M) : Prop := m.la = none ∧ m.ll = [] ∧ m.lc = 0 ∧ m.sl.length ≤ 100 ∧ ∀ x ∈ m.sl, x.1.size ≤ 1099511627776
theorem sml_op (t : Int) (d : ByteArray) : Sml (opM t d) := ⟨rfl, rfl, rfl, by simp [opM, M.zero], fun x hx => by simp [opM, M.zero] at hx⟩
/-- What a TLV makes: what is known may be; one message at most, and none beside an error, which changes nothing. -/
structure Fine (c : Kx) (p : Kx × List M × Int) : Prop where
  ok : okC p.1 = true
  told : p.2.1 = [] ∨ ∃ m, p.2.1 = [m] ∧ Sml m
  err : ¬ p.2.2 = 0 → p = (c, [], p.2.2)
theorem fine_tell {c : Kx} (hc : okC c = true) {p : M × Bool × Int} (hs : Sml p.1) : Fine c (tell c p) := by
  unfold tell
  by_cases h : p.2.2 = 0 ∧ p.2.1 = true
  · rw [if_pos h]; exact ⟨hc, .inr ⟨_, rfl, hs⟩, fun k => absurd h.1 k⟩
  · rw [if_neg h]; exact ⟨hc, .inl rfl, fun _ => rfl⟩
theorem one_fine {c : Kx} (hc : okC c = true) (t : Int) (d : ByteArray) : Fine c (one c t d) := by
  by_cases h0 : t = 0 ∨ t = 1
  · rw [one_pad h0]; exact ⟨hc, .inl rfl, fun _ => rfl⟩
  by_cases h1 : 2 ≤ t ∧ t ≤ 5
  · rw [one_f h1.1 h1.2]; exact fine_tell hc (G1.out_len t d h1.1 h1.2)
  by_cases h2 : 6 ≤ t ∧ t ≤ 8
  · rw [one_c h2.1 h2.2]
    have g := out_good t d hc
    refine ⟨g.ok, ?_, g.err⟩
    rcases g.told with h | ⟨m, h, _⟩
    · exact .inl h
    · exact .inr ⟨m, h, out_short t d hc m (by rw [h]; simp)⟩
  by_cases h3 : t = 9 ∨ t = 10
  · rw [one_j h3]; exact fine_tell hc (J1.out_len t d h3)
  rw [one_o (by omega)]; exact ⟨hc, .inr ⟨_, rfl, sml_op t d⟩, fun k => absurd rfl k⟩

/-- TLVs, one by one, from what is known and told. -/
noncomputable def foldI : List T → Kx → List M → List M × Kx × Int × Int
  | [], c, o => (o, c, 0, 0)
  | x :: l, c, o => if (one c x.2.2 x.2.1).2.2 = 0 then foldI l (one c x.2.2 x.2.1).1 (o ++ (one c x.2.2 x.2.1).2.1) else ([], Kx.zero, x.1, (one c x.2.2 x.2.1).2.2)
noncomputable def outI (l : List T) : List M × Kx × Int × Int := foldI l Kx.zero []
theorem fold_nil (c : Kx) (o : List M) : foldI [] c o = (o, c, 0, 0) := rfl
theorem fold_ok {x : T} {l : List T} {c c' : Kx} {o r : List M} (h : one c x.2.2 x.2.1 = (c', r, 0)) : foldI (x :: l) c o = foldI l c' (o ++ r) := by
  show (if _ then _ else _) = _
  rw [h, if_pos rfl]
theorem fold_err {x : T} {l : List T} {c : Kx} {o : List M} (h : ¬ (one c x.2.2 x.2.1).2.2 = 0) : foldI (x :: l) c o = ([], Kx.zero, x.1, (one c x.2.2 x.2.1).2.2) := by
  show (if _ then _ else _) = _
  rw [if_neg h]
/-- How a fold ends: all TLVs are told, or the first error. -/
theorem fold_cases : ∀ (l : List T) {c : Kx} (o : List M), okC c = true → (∃ r c', foldI l c o = (o ++ r, c', 0, 0) ∧ okC c' = true ∧ r.length ≤ l.length ∧ (∀ m ∈ r, Sml m) ∧ ∀ o', foldI l c o' = (o' ++ r, c', 0, 0)) ∨ ∃ a e, ¬ e = 0 ∧ ∀ o', foldI l c o' = ([], Kx.zero, a, e)
  | [], c, o, hc => .inl ⟨[], c, by rw [List.append_nil]; rfl, hc, Nat.le_refl _, fun m hm => absurd hm (by simp), fun o' => by rw [List.append_nil]; rfl⟩
  | x :: l, c, o, hc => by
      have g := one_fine hc x.2.2 x.2.1
      by_cases h : (one c x.2.2 x.2.1).2.2 = 0
      · rcases hp : one c x.2.2 x.2.1 with ⟨c', r, e⟩
        rw [hp] at g h
        obtain rfl : e = 0 := h
        have hr : r.length ≤ 1 ∧ ∀ m ∈ r, Sml m := by
          rcases g.told with h | ⟨m, h, hm⟩
          · have : r = [] := h
            subst this; exact ⟨by simp, fun m hm => absurd hm (by simp)⟩
          · have : r = [m] := h
            subst this; exact ⟨by simp, fun n hn => by rw [List.mem_singleton] at hn; exact hn ▸ hm⟩
        rcases fold_cases l (o ++ r) g.ok with ⟨q, c2, h1, h2, h3, h4, h5⟩ | ⟨a, e, h1, h2⟩
        · refine .inl ⟨r ++ q, c2, by rw [fold_ok hp, h1, List.append_assoc], h2, by rw [List.length_append, List.length_cons]; omega, fun m hm => ?_, fun o' => by rw [fold_ok hp, h5, List.append_assoc]⟩
          rcases List.mem_append.1 hm with k | k
          · exact hr.2 m k
          · exact h4 m k
        · exact .inr ⟨a, e, h1, fun o' => by rw [fold_ok hp, h2]⟩
      · exact .inr ⟨x.1, _, h, fun o' => fold_err h⟩
/-- How a body's fold ends. -/
theorem out_cases (l : List T) : (∃ r c, outI l = (r, c, 0, 0) ∧ okC c = true ∧ r.length ≤ l.length ∧ (∀ m ∈ r, Sml m)) ∨ ∃ a e, ¬ e = 0 ∧ outI l = ([], Kx.zero, a, e) := by
  rcases fold_cases l [] okc_zero with ⟨r, c, h1, h2, h3, h4, _⟩ | ⟨a, e, h, h1⟩
  · exact .inl ⟨r, c, by rw [List.nil_append] at h1; exact h1, h2, h3, h4⟩
  · exact .inr ⟨a, e, h, h1 []⟩
/-- What is told is small. -/
theorem out_sml (l : List T) : ∀ m ∈ (outI l).1, Sml m := by
  rcases out_cases l with ⟨r, c, h, _, _, h4⟩ | ⟨a, e, _, h⟩
  · rw [h]; exact h4
  · rw [h]; exact fun m hm => absurd hm (by simp)
/-- In two parts: the first one's, then the second one's. -/
theorem fold_app : ∀ (a b : List T) (c : Kx) (o : List M), foldI (a ++ b) c o = if (foldI a c o).2.2.2 = 0 then foldI b (foldI a c o).2.1 (foldI a c o).1 else foldI a c o
  | [], b, c, o => by rw [List.nil_append, fold_nil, if_pos rfl]
  | x :: a, b, c, o => by
      rw [List.cons_append]
      by_cases h : (one c x.2.2 x.2.1).2.2 = 0
      · rcases hp : one c x.2.2 x.2.1 with ⟨c', r, e⟩
        rw [hp] at h
        obtain rfl : e = 0 := h
        rw [fold_ok hp, fold_ok hp]; exact fold_app a b _ _
      · rw [fold_err h, fold_err h, if_neg h]
/-- The messages of a datagram, and where and why there are none. -/
noncomputable def outP (b : ByteArray) : List M × Int × Int :=
  if ¬ (outB b).2.2 = 0 then ([], (outB b).2.1, (outB b).2.2)
  else if ¬ (outT 4 (outB b).1).2.2 = 0 then ([], (outT 4 (outB b).1).2.1, (outT 4 (outB b).1).2.2)
  else if ¬ (outT (4 + ((outB b).1.size : Int)) (trail b)).2.2 = 0 then ([], (outT (4 + ((outB b).1.size : Int)) (trail b)).2.1, (outT (4 + ((outB b).1.size : Int)) (trail b)).2.2)
  else ((outI (outT 4 (outB b).1).1).1, (outI (outT 4 (outB b).1).1).2.2.1, (outI (outT 4 (outB b).1).1).2.2.2)
theorem outP_1 {b : ByteArray} (h : ¬ (outB b).2.2 = 0) : outP b = ([], (outB b).2.1, (outB b).2.2) := by unfold outP; rw [if_pos h]
theorem outP_2 {b s : ByteArray} (h : outB b = (s, 0, 0)) (h2 : ¬ (outT 4 s).2.2 = 0) : outP b = ([], (outT 4 s).2.1, (outT 4 s).2.2) := by unfold outP; rw [h, if_neg (by simp), if_pos h2]
theorem outP_3 {b s : ByteArray} (h : outB b = (s, 0, 0)) (h2 : (outT 4 s).2.2 = 0) (h3 : ¬ (outT (4 + (s.size : Int)) (trail b)).2.2 = 0) : outP b = ([], (outT (4 + (s.size : Int)) (trail b)).2.1, (outT (4 + (s.size : Int)) (trail b)).2.2) := by
  unfold outP; rw [h, if_neg (by simp), if_neg (by simpa using h2), if_pos h3]
theorem outP_4 {b s : ByteArray} (h : outB b = (s, 0, 0)) (h2 : (outT 4 s).2.2 = 0) (h3 : (outT (4 + (s.size : Int)) (trail b)).2.2 = 0) : outP b = ((outI (outT 4 s).1).1, (outI (outT 4 s).1).2.2.1, (outI (outT 4 s).1).2.2.2) := by
  unfold outP; rw [h, if_neg (by simp), if_neg (by simpa using h2), if_neg (by simpa using h3)]
end Go.Proofs.YtjhfpobjbijcpaaGreatDoor.I1
