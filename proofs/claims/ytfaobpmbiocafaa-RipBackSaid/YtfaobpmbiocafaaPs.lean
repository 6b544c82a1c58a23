/-
  What the bytes of a datagram of RIP say: its routes, or the first error and its place. Definitions on values alone.
-/
import Derived.Test.YtfaobpmbiocafaaRp
namespace Go.Proofs.Ytfaobpmbiocafaa.Ps
open Go.ChangeShapes Go.WideShapes Go.ChangeAt Go.RowKit
open Go.Proofs.Ytfaobpmbiocafaa.Ms
open Go.Proofs.Ytfaobpmbiocafaa.Rp
open Go.Proofs.Ytfaobpmbiocafaa.Bk (E)
set_option linter.unusedVariables false
set_option maxRecDepth 100000

/-- The i-th byte. -/
def bt (b : ByteArray) (i : Nat) : Int := ((b.data.toList.getD i 0).toNat : Int)
theorem bt_eq (b : ByteArray) (i : Nat) (h : i < b.size) : (b[i].toNat : Int) = bt b i := by
  unfold bt
  rw [List.getD_eq_getElem?_getD, List.getElem?_eq_getElem (by simpa using h)]
  rfl
theorem bt_nn (b : ByteArray) (i : Nat) : 0 ≤ bt b i := Int.natCast_nonneg _
theorem bt_lt (b : ByteArray) (i : Nat) : bt b i < 256 := by
  unfold bt
  have := UInt8.toNat_lt (b.data.toList.getD i 0)
  omega

/-- The first error of the bytes ahead of the entries: its place, its number. -/
def hdAt (b : ByteArray) : Int × Int := if b.size < 4 then ((b.size : Int), 2) else if isCmd (bt b 0) = false then (0, 4) else if isCmd (bt b 1) = false then (1, 4) else if Oct.zeroB (b.extract 2 4).data.toList = false then (2, 5) else (0, 0)
/-- The first error of how many bytes there are. -/
def cnAt (b : ByteArray) : Int × Int := if (b.size - 4) % 20 ≠ 0 then ((b.size : Int), 2) else if b.size - 4 = 0 then ((b.size : Int), 8) else if 500 < b.size - 4 then (504, 8) else (0, 0)
/-- Does the first entry say who speaks? -/
def says (b : ByteArray) : Bool := bt b 1 == 2 && Au.isA (b.extract 4 24)
/-- Where the first route's entry begins. -/
def atN (b : ByteArray) : Nat := if says b then 24 else 4
/-- What all routes share. -/
def base (b : ByteArray) : M := { M.zero with kind := 1, cmd := bt b 0, ver := bt b 1 }
def hdM (b : ByteArray) : M := { base b with auth := if says b then Au.getA (b.extract 4 24) else ByteArray.empty }

def plenE (h : M) (e : E) : Int := if e.fam = 0 then 0 else if h.ver = 1 then 32 else ((Mask.plenN e.mask : Nat) : Int)
/-- The route of an entry. -/
def routeM (h : M) (e : E) : M := { h with family := e.fam, tag := e.tag, pfx := e.addr, plen := plenE h e, next := e.next, metric := e.met }
def ckMet (e : E) : Int := if isMet e.met then 0 else 6
def ck1 (e : E) : Int := if e.tag == 0 && (isN e.mask && isN e.next) then ckMet e else 5
def ck2 (e : E) : Int := if Mask.isMask e.mask && Pre.rightZ e.addr ((Mask.plenN e.mask : Nat) : Int) then ckMet e else 7
def ck0 (h : M) (e : E) (alone : Bool) : Int := if alone && (isN e.mask && rightB (routeM h e)) then 0 else 7
/-- The error of an entry. -/
def ckE (h : M) (e : E) (alone : Bool) : Int := if e.fam = 0 then ck0 h e alone else if e.fam = 2 then (if h.ver = 1 then ck1 e else ck2 e) else 4

/-- The entry that begins at p. -/
def entP (b : ByteArray) (p : Nat) : E := Ent.E.of (b.extract p (p + 20))
/-- The first of n numbers that isn't 0. -/
def bad (f : Nat → Int) (n : Nat) : Option Nat := (List.range n).find? fun i => f i != 0
theorem bad_none {f : Nat → Int} {n : Nat} (h : ∀ i, i < n → f i = 0) : bad f n = none := by
  unfold bad
  rw [List.find?_eq_none]
  intro i hi
  have := h i (List.mem_range.1 hi)
  simp [this]
theorem bad_some {f : Nat → Int} {n k : Nat} (hk : k < n) (h : ∀ i, i < k → f i = 0) (hn : f k ≠ 0) : bad f n = some k := by
  unfold bad
  rw [List.find?_range_eq_some]
  exact ⟨by simpa using hn, List.mem_range.2 hk, fun j hj => by simp [h j hj]⟩

/-- What the entries from p on say. -/
def ents (h : M) (b : ByteArray) (p n : Nat) (alone : Bool) : List M × Int × Int :=
  match bad (fun i => ckE h (entP b (p + 20 * i)) alone) n with
  | some i => ([], ((p + 20 * i : Nat) : Int), ckE h (entP b (p + 20 * i)) alone)
  | none => ((List.range n).map fun i => routeM h (entP b (p + 20 * i)), 0, 0)
theorem ents_some {h : M} {b : ByteArray} {p n k : Nat} {alone : Bool} (hk : k < n) (hl : ∀ i, i < k → ckE h (entP b (p + 20 * i)) alone = 0) (hn : ckE h (entP b (p + 20 * k)) alone ≠ 0) :
    ents h b p n alone = ([], ((p + 20 * k : Nat) : Int), ckE h (entP b (p + 20 * k)) alone) := by
  unfold ents
  rw [bad_some hk hl hn]
theorem ents_none {h : M} {b : ByteArray} {p n : Nat} {alone : Bool} (hl : ∀ i, i < n → ckE h (entP b (p + 20 * i)) alone = 0) :
    ents h b p n alone = ((List.range n).map fun i => routeM h (entP b (p + 20 * i)), 0, 0) := by
  unfold ents
  rw [bad_none hl]
/-- The first k routes. -/
def rts (h : M) (b : ByteArray) (p k : Nat) : List M := (List.range k).map fun i => routeM h (entP b (p + 20 * i))
theorem rts_len (h : M) (b : ByteArray) (p k : Nat) : (rts h b p k).length = k := by simp [rts]
theorem rts_succ (h : M) (b : ByteArray) (p k : Nat) : rts h b p (k + 1) = rts h b p k ++ [routeM h (entP b (p + 20 * k))] := by simp [rts, List.range_succ]
/-- How many routes' entries there are. -/
def cntN (b : ByteArray) : Nat := (b.size - atN b) / 20
/-- The answer: its routes, the place, the error. -/
def out (b : ByteArray) : List M × Int × Int :=
  if (hdAt b).2 ≠ 0 then ([], hdAt b) else if (cnAt b).2 ≠ 0 then ([], cnAt b) else if atN b = b.size then ([], (b.size : Int), 8) else ents (hdM b) b (atN b) (cntN b) (decide (atN b + 20 = b.size))

theorem hd_ok {b : ByteArray} (h : (hdAt b).2 = 0) : 4 ≤ b.size ∧ isCmd (bt b 0) = true ∧ isCmd (bt b 1) = true ∧ Oct.zeroB (b.extract 2 4).data.toList = true := by
  unfold hdAt at h
  by_cases h1 : b.size < 4
  · rw [if_pos h1] at h; simp at h
  rw [if_neg h1] at h
  by_cases h2 : isCmd (bt b 0) = false
  · rw [if_pos h2] at h; simp at h
  rw [if_neg h2] at h
  by_cases h3 : isCmd (bt b 1) = false
  · rw [if_pos h3] at h; simp at h
  rw [if_neg h3] at h
  by_cases h4 : Oct.zeroB (b.extract 2 4).data.toList = false
  · rw [if_pos h4] at h; simp at h
  exact ⟨by omega, by simpa using h2, by simpa using h3, by simpa using h4⟩
theorem cn_ok {b : ByteArray} (h : (cnAt b).2 = 0) (h4 : 4 ≤ b.size) : ∃ n, 1 ≤ n ∧ n ≤ 25 ∧ b.size = 4 + 20 * n := by
  unfold cnAt at h
  by_cases h1 : (b.size - 4) % 20 ≠ 0
  · rw [if_pos h1] at h; simp at h
  rw [if_neg h1] at h
  by_cases h2 : b.size - 4 = 0
  · rw [if_pos h2] at h; simp at h
  rw [if_neg h2] at h
  by_cases h3 : 500 < b.size - 4
  · rw [if_pos h3] at h; simp at h
  exact ⟨(b.size - 4) / 20, by omega, by omega, by omega⟩
theorem atN_or (b : ByteArray) : atN b = 4 ∨ atN b = 24 := by unfold atN; split <;> simp
end Go.Proofs.Ytfaobpmbiocafaa.Ps
