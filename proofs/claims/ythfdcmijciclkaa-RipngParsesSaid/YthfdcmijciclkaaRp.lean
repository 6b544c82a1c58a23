/-
  What a route of RIPng is that may be, what the bytes of a datagram say, and what bytes routes have: definitions on values alone, and facts on them.
-/
import Derived.Test.YthfdcmijciclkaaBare
import Derived.Test.YthfdcmijciclkaaPre
import Derived.Test.YthfdcmijciclkaaRz
namespace Go.Proofs.Ythfdcmijciclkaa.Rp
open Go.ChangeShapes Go.WideShapes Go.ChangeAt Go.RowKit
open Go.Proofs.Ythfdcmijciclkaa.Ms
open Go.Proofs.Ythfdcmijciclkaa.Bk (E)
set_option linter.unusedVariables false
set_option maxRecDepth 100000

def none16 : ByteArray := ⟨#[0, 0, 0, 0, 0, 0, 0, 0, 0, 0, 0, 0, 0, 0, 0, 0]⟩
/-- Sixteen bytes that are 0? -/
def isN (s : ByteArray) : Bool := s.toList == [0, 0, 0, 0, 0, 0, 0, 0, 0, 0, 0, 0, 0, 0, 0, 0]
/-- The bytes begin as a link-local address's. -/
def lkB (s : ByteArray) : Bool := (s.extract 0 8).toList == [254, 128, 0, 0, 0, 0, 0, 0]
def link (s : ByteArray) : Bool := decide (s.size = 16) && lkB s
def isCmd (n : Int) : Bool := n == 1 || n == 2
def isMet (n : Int) : Bool := decide (1 ≤ n) && decide (n ≤ 16)
def pfxB (s : ByteArray) (p : Int) : Bool := decide (s.size = 16) && Pre.rightZ s p
def nextB (s : ByteArray) : Bool := isN s || link s
/-- May it be? -/
def rightB (m : M) : Bool := m.kind == 2 && (Bare.bare2 m && (isCmd m.cmd && (Oct.fitsB m.tag 2 && (isMet m.metric && (pfxB m.pfx m.plen && nextB m.next)))))

theorem isN_iff (s : ByteArray) : isN s = true ↔ s = none16 := by
  unfold isN none16
  rw [beq_iff_eq, ByteArray.toList_eq]
  constructor
  · intro h; exact ByteArray.ext (Array.toList_inj.1 h)
  · rintro rfl; rfl
theorem isN_size {s : ByteArray} (h : isN s = true) : s.size = 16 := by rw [(isN_iff s).1 h]; rfl
theorem isN_none : isN none16 = true := (isN_iff _).2 rfl
theorem link_size {s : ByteArray} (h : link s = true) : s.size = 16 := by
  unfold link at h
  simp only [Bool.and_eq_true, decide_eq_true_eq] at h
  exact h.1
theorem link_yes {s : ByteArray} (h : s.size = 16) : link s = lkB s := by unfold link; rw [decide_eq_true h]; rfl
theorem link_no {s : ByteArray} (h : s.size ≠ 16) : link s = false := by unfold link; rw [decide_eq_false h]; rfl
theorem next_size {s : ByteArray} (h : nextB s = true) : s.size = 16 := by
  unfold nextB at h
  rw [Bool.or_eq_true] at h
  exact h.elim isN_size link_size
theorem pfx_yes {s : ByteArray} {p : Int} (h : s.size = 16) : pfxB s p = Pre.rightZ s p := by unfold pfxB; rw [decide_eq_true h]; rfl
theorem pfx_no {s : ByteArray} {p : Int} (h : s.size ≠ 16) : pfxB s p = false := by unfold pfxB; rw [decide_eq_false h]; rfl
theorem isCmd_no {n : Int} (h : n < 1 ∨ 2 < n) : isCmd n = false := by
  unfold isCmd
  have h1 : (n == 1) = false := by rw [beq_eq_false_iff_ne]; omega
  have h2 : (n == 2) = false := by rw [beq_eq_false_iff_ne]; omega
  rw [h1, h2]; rfl
theorem isCmd_yes {n : Int} (h1 : ¬ n < 1) (h2 : ¬ 2 < n) : isCmd n = true := by
  rcases (show n = 1 ∨ n = 2 by omega) with rfl | rfl <;> rfl
theorem cmd_or {n : Int} (h : isCmd n = true) : n = 1 ∨ n = 2 := by
  unfold isCmd at h
  simpa [beq_iff_eq] using h
theorem fits2 (n : Int) : Oct.fitsB n 2 = (decide (0 ≤ n) && decide (n ≤ 65535)) := by
  unfold Oct.fitsB
  have : ((Oct.pw (2 : Int).toNat : Nat) : Int) = 65536 := by decide
  rw [this]
  by_cases h1 : 0 ≤ n <;> by_cases h2 : n ≤ 65535 <;> simp [h1, h2] <;> omega

/-- The i-th byte. -/
def bt (b : ByteArray) (i : Nat) : Int := ((b.data.toList.getD i 0).toNat : Int)
theorem bt_eq (b : ByteArray) (i : Nat) (h : i < b.size) : (b[i].toNat : Int) = bt b i := by
  unfold bt
  rw [List.getD_eq_getElem?_getD, List.getElem?_eq_getElem (by simpa using h)]
  rfl
theorem bt_nn (b : ByteArray) (i : Nat) : 0 ≤ bt b i := Int.natCast_nonneg _
theorem bt_lt (b : ByteArray) (i : Nat) : bt b i < 256 := by
  unfold bt
  have := UInt8.toNat_lt (b.data.toList.getD i 0)
  omega

/-- The first error of the bytes ahead of the entries, and of their size: its place, its number. -/
def hdAt (b : ByteArray) : Int × Int := if 65535 < b.size then (65535, 10) else if b.size < 4 then ((b.size : Int), 2) else if isCmd (bt b 0) = false then (0, 4) else if (bt b 1 == 1) = false then (1, 4) else if Oct.zeroB (b.extract 2 4).data.toList = false then (2, 5) else if (b.size - 4) % 20 ≠ 0 then ((b.size : Int), 2) else (0, 0)
/-- The error of an entry of a next hop; of a route; of an entry. -/
def ckHop (e : E) : Int := if e.tag == 0 && e.fam == 0 then 0 else 5
def ckRte (e : E) : Int := if pfxB e.addr e.fam then (if isMet e.met then 0 else 6) else 7
def ckE (e : E) : Int := if e.met = 255 then ckHop e else ckRte e
/-- What an entry of a next hop says. -/
def nx1 (e : E) : ByteArray := if link e.addr then e.addr else none16
/-- The route of an entry. -/
def routeM (c : Int) (nx : ByteArray) (e : E) : M := { M.zero with kind := 2, cmd := c, pfx := e.addr, plen := e.fam, tag := e.tag, next := nx, metric := e.met }
/-- The next hop behind entries. -/
def nxt (nx : ByteArray) : List E → ByteArray
  | [] => nx
  | e :: es => nxt (if e.met = 255 then nx1 e else nx) es
/-- The routes of entries. -/
def run (c : Int) : ByteArray → List E → List M
  | _, [] => []
  | nx, e :: es => if e.met = 255 then run c (nx1 e) es else routeM c nx e :: run c nx es
theorem nxt_snoc (e : E) : ∀ (es : List E) (nx : ByteArray), nxt nx (es ++ [e]) = if e.met = 255 then nx1 e else nxt nx es
  | [], nx => rfl
  | x :: es, nx => nxt_snoc e es _
theorem run_snoc (c : Int) (e : E) : ∀ (es : List E) (nx : ByteArray), run c nx (es ++ [e]) = run c nx es ++ (if e.met = 255 then [] else [routeM c (nxt nx es) e])
  | [], nx => by
    show (if e.met = 255 then run c (nx1 e) [] else routeM c nx e :: run c nx []) = _
    split <;> rfl
  | x :: es, nx => by
    show (if x.met = 255 then run c (nx1 x) (es ++ [e]) else routeM c nx x :: run c nx (es ++ [e])) = (if x.met = 255 then run c (nx1 x) es else routeM c nx x :: run c nx es) ++ (if e.met = 255 then [] else [routeM c (nxt (if x.met = 255 then nx1 x else nx) es) e])
    by_cases h : x.met = 255
    · rw [if_pos h, if_pos h, if_pos h]; exact run_snoc c e es _
    · rw [if_neg h, if_neg h, if_neg h, run_snoc c e es nx]; rfl
theorem run_len (c : Int) : ∀ (es : List E) (nx : ByteArray), (run c nx es).length ≤ es.length
  | [], _ => Nat.le_refl _
  | x :: es, nx => by
    show (if x.met = 255 then run c (nx1 x) es else routeM c nx x :: run c nx es).length ≤ es.length + 1
    split
    · have := run_len c es (nx1 x); omega
    · have := run_len c es nx; rw [List.length_cons]; omega
theorem run_flat (c : Int) : ∀ (es : List E) (nx : ByteArray), ∀ m ∈ run c nx es, m.ll = [] ∧ m.sl = [] ∧ m.la = none ∧ m.sa = none
  | [], _, m, hm => by cases hm
  | x :: es, nx, m, hm => by
    change m ∈ (if x.met = 255 then run c (nx1 x) es else routeM c nx x :: run c nx es) at hm
    split at hm
    · exact run_flat c es _ m hm
    · rcases List.mem_cons.1 hm with rfl | hm
      · exact ⟨rfl, rfl, rfl, rfl⟩
      · exact run_flat c es _ m hm

/-- The entry that begins at p; the first k. -/
def entP (b : ByteArray) (p : Nat) : E := Rte.E.of (b.extract p (p + 20))
def esK (b : ByteArray) (k : Nat) : List E := (List.range k).map fun i => entP b (4 + 20 * i)
theorem esK_succ (b : ByteArray) (k : Nat) : esK b (k + 1) = esK b k ++ [entP b (4 + 20 * k)] := by simp [esK, List.range_succ]
theorem esK_len (b : ByteArray) (k : Nat) : (esK b k).length = k := by simp [esK]
def rts (b : ByteArray) (k : Nat) : List M := run (bt b 0) none16 (esK b k)
def nxK (b : ByteArray) (k : Nat) : ByteArray := nxt none16 (esK b k)
theorem rts_succ (b : ByteArray) (k : Nat) : rts b (k + 1) = rts b k ++ (if (entP b (4 + 20 * k)).met = 255 then [] else [routeM (bt b 0) (nxK b k) (entP b (4 + 20 * k))]) := by
  unfold rts nxK
  rw [esK_succ, run_snoc]
theorem nxK_succ (b : ByteArray) (k : Nat) : nxK b (k + 1) = if (entP b (4 + 20 * k)).met = 255 then nx1 (entP b (4 + 20 * k)) else nxK b k := by
  unfold nxK
  rw [esK_succ, nxt_snoc]
theorem rts_len (b : ByteArray) (k : Nat) : (rts b k).length ≤ k := by
  have := run_len (bt b 0) (esK b k) none16
  rw [esK_len] at this
  exact this
/-- The first of n numbers that isn't 0. -/
def bad (f : Nat → Int) (n : Nat) : Option Nat := (List.range n).find? fun i => f i != 0
theorem bad_none {f : Nat → Int} {n : Nat} (h : ∀ i, i < n → f i = 0) : bad f n = none := by
  unfold bad
  rw [List.find?_eq_none]
  intro i hi
  have := h i (List.mem_range.1 hi)
  simp [this]
theorem bad_some {f : Nat → Int} {n k : Nat} (hk : k < n) (h : ∀ i, i < k → f i = 0) (hn : f k ≠ 0) : bad f n = some k := by
  unfold bad
  rw [List.find?_range_eq_some]
  exact ⟨by simpa using hn, List.mem_range.2 hk, fun j hj => by simp [h j hj]⟩
theorem first_of (f : Nat → Int) (n : Nat) : (∃ k, k < n ∧ (∀ i, i < k → f i = 0) ∧ f k ≠ 0) ∨ (∀ i, i < n → f i = 0) := by
  induction n with
  | zero => exact .inr (fun i hi => absurd hi (by omega))
  | succ n ih =>
    rcases ih with ⟨k, h1, h2, h3⟩ | h
    · exact .inl ⟨k, by omega, h2, h3⟩
    · by_cases hn : f n = 0
      · exact .inr (fun i hi => by
          by_cases hin : i < n
          · exact h i hin
          · obtain rfl : i = n := by omega
            exact hn)
      · exact .inl ⟨n, by omega, h, hn⟩
/-- The i-th entry's error. -/
def ckI (b : ByteArray) (i : Nat) : Int := ckE (entP b (4 + 20 * i))
/-- What the entries say. -/
def ents (b : ByteArray) (n : Nat) : List M × Int × Int :=
  match bad (ckI b) n with
  | some i => ([], ((4 + 20 * i : Nat) : Int), ckI b i)
  | none => if (rts b n).length = 0 then ([], (b.size : Int), 8) else (rts b n, 0, 0)
theorem ents_some {b : ByteArray} {n k : Nat} (hk : k < n) (hl : ∀ i, i < k → ckI b i = 0) (hn : ckI b k ≠ 0) : ents b n = ([], ((4 + 20 * k : Nat) : Int), ckI b k) := by
  unfold ents
  rw [bad_some hk hl hn]
theorem ents_none {b : ByteArray} {n : Nat} (hl : ∀ i, i < n → ckI b i = 0) : ents b n = if (rts b n).length = 0 then ([], (b.size : Int), 8) else (rts b n, 0, 0) := by
  unfold ents
  rw [bad_none hl]
/-- The answer: its routes, the place, the error. -/
def out (b : ByteArray) : List M × Int × Int := if (hdAt b).2 ≠ 0 then ([], hdAt b) else ents b ((b.size - 4) / 20)
theorem hd_ok {b : ByteArray} (h : (hdAt b).2 = 0) : b.size ≤ 65535 ∧ 4 ≤ b.size ∧ isCmd (bt b 0) = true ∧ bt b 1 = 1 ∧ Oct.zeroB (b.extract 2 4).data.toList = true ∧ (b.size - 4) % 20 = 0 := by
  unfold hdAt at h
  by_cases h0 : 65535 < b.size
  · rw [if_pos h0] at h; simp at h
  rw [if_neg h0] at h
  by_cases h1 : b.size < 4
  · rw [if_pos h1] at h; simp at h
  rw [if_neg h1] at h
  by_cases h2 : isCmd (bt b 0) = false
  · rw [if_pos h2] at h; simp at h
  rw [if_neg h2] at h
  by_cases h3 : (bt b 1 == 1) = false
  · rw [if_pos h3] at h; simp at h
  rw [if_neg h3] at h
  by_cases h4 : Oct.zeroB (b.extract 2 4).data.toList = false
  · rw [if_pos h4] at h; simp at h
  rw [if_neg h4] at h
  by_cases h5 : (b.size - 4) % 20 ≠ 0
  · rw [if_pos h5] at h; simp at h
  exact ⟨by omega, by omega, by simpa using h2, by simpa using h3, by simpa using h4, by omega⟩
theorem zero_two (b : ByteArray) (h : 4 ≤ b.size) : Oct.zeroB (b.extract 2 4).data.toList = (bt b 2 == 0 && bt b 3 == 0) := by
  have h2 : 2 < b.size := by omega
  have h3 : 3 < b.size := by omega
  have e : (b.extract 2 4).data.toList = [b[2], b[3]] := by
    apply List.ext_getElem
    · simp; omega
    · intro i h1 h4
      match i, h4 with
      | 0, _ => simp [ByteArray.getElem_eq_getElem_data]
      | 1, _ => simp [ByteArray.getElem_eq_getElem_data]
  rw [e, ← bt_eq b 2 h2, ← bt_eq b 3 h3]
  unfold Oct.zeroB
  have q : ∀ c : UInt8, (c == 0) = ((c.toNat : Int) == 0) := fun c => by
    rw [Bool.eq_iff_iff, beq_iff_eq, beq_iff_eq, ← UInt8.toNat_inj]
    show c.toNat = 0 ↔ _
    omega
  simp [q]

/- What is written. -/
def hopE (nx : ByteArray) : E := { E.zero with addr := nx, met := 255 }
def entM (m : M) : E := { E.zero with addr := m.pfx, fam := m.plen, tag := m.tag, met := m.metric }
/-- The bytes of an entry; of a route, whose next hop is said if it isn't said already. -/
def putL (e : E) : List UInt8 := (Rte.putE e).data.toList
def entsM (nx : ByteArray) (m : M) : List E := (if m.next = nx then [] else [hopE m.next]) ++ [entM m]
/-- The entries of routes. -/
def entsL : ByteArray → List M → List E
  | _, [] => []
  | nx, m :: l => entsM nx m ++ entsL m.next l
/-- The next hop behind routes. -/
def lastN : ByteArray → List M → ByteArray
  | nx, [] => nx
  | _, m :: l => lastN m.next l
theorem lastN_snoc (m : M) : ∀ (l : List M) (nx : ByteArray), lastN nx (l ++ [m]) = m.next
  | [], _ => rfl
  | x :: l, _ => lastN_snoc m l _
theorem entsL_snoc (m : M) : ∀ (l : List M) (nx : ByteArray), entsL nx (l ++ [m]) = entsL nx l ++ entsM (lastN nx l) m
  | [], nx => by show entsM nx m ++ entsL m.next [] = _; simp [entsL, lastN]
  | x :: l, nx => by
    show entsM nx x ++ entsL x.next (l ++ [m]) = entsM nx x ++ entsL x.next l ++ entsM (lastN x.next l) m
    rw [entsL_snoc m l x.next, List.append_assoc]
def hdL (c : Int) : List UInt8 := Rte.layN c 1 ++ [1, 0, 0]
def at0 (l : List M) (i : Nat) : M := l.getD i M.zero
theorem at0_eq (l : List M) (i : Nat) (h : i < l.length) : at0 l i = l[i] := by unfold at0; rw [List.getD_eq_getElem?_getD, List.getElem?_eq_getElem h]; rfl
/-- The bytes behind k routes; all. -/
def bsK (l : List M) (k : Nat) : List UInt8 := hdL (at0 l 0).cmd ++ (entsL none16 (l.take k)).flatMap putL
def laK (l : List M) (k : Nat) : ByteArray := lastN none16 (l.take k)
def wrtL (l : List M) : List UInt8 := hdL (at0 l 0).cmd ++ (entsL none16 l).flatMap putL
theorem bs_zero (l : List M) : bsK l 0 = hdL (at0 l 0).cmd := by simp [bsK, entsL]
theorem bs_succ (l : List M) (k : Nat) (h : k < l.length) : bsK l (k + 1) = bsK l k ++ (entsM (laK l k) l[k]).flatMap putL := by
  unfold bsK laK
  rw [List.take_succ_eq_append_getElem h, entsL_snoc, List.flatMap_append, List.append_assoc]
theorem la_succ (l : List M) (k : Nat) (h : k < l.length) : laK l (k + 1) = l[k].next := by
  unfold laK
  rw [List.take_succ_eq_append_getElem h, lastN_snoc]
theorem bs_all (l : List M) : bsK l l.length = wrtL l := by unfold bsK wrtL; rw [List.take_length]
theorem putL_len (e : E) : (putL e).length ≤ 20 := by
  unfold putL
  cases h : Rte.okE e
  · rw [Rte.put_no_eq e h]; decide
  · have := (Rte.put_back e h).1
    simp [this]
theorem entsM_len (nx : ByteArray) (m : M) : ((entsM nx m).flatMap putL).length ≤ 40 := by
  unfold entsM
  have h1 := putL_len (hopE m.next)
  have h2 := putL_len (entM m)
  split <;> simp <;> omega
theorem hd_len (c : Int) : (hdL c).length ≤ 4 := by
  unfold hdL
  have := Rte.layN_len c 1
  simp; omega
theorem bs_len (l : List M) : ∀ k, k ≤ l.length → (bsK l k).length ≤ 4 + 40 * k
  | 0, _ => by rw [bs_zero]; exact hd_len _
  | k + 1, h => by
    rw [bs_succ l k h, List.length_append]
    have := bs_len l k (by omega)
    have := entsM_len (laK l k) l[k]
    omega
/-- May the i-th not be? Is its Cmd another than the first one's? -/
def ckW (l : List M) (i : Nat) : Int := if rightB (at0 l i) then 0 else 1
def ckC (l : List M) (i : Nat) : Int := if (at0 l i).cmd = (at0 l 0).cmd then 0 else 7
/-- The answer, of not more routes than there is room for: bytes, a place, an error. -/
def enc (l : List M) : ByteArray × Int × Int :=
  match bad (ckW l) l.length with
  | some i => (ByteArray.mk #[], ((i : Nat) : Int), 1)
  | none => if l.length = 0 then (⟨#[]⟩, 0, 8) else
    match bad (ckC l) l.length with
    | some i => (ByteArray.mk #[], ((i : Nat) : Int), 7)
    | none => (⟨(wrtL l).toArray⟩, 0, 0)
theorem enc_wrong {l : List M} {k : Nat} (hk : k < l.length) (h : ∀ i, i < k → ckW l i = 0) (hn : ckW l k ≠ 0) : enc l = (ByteArray.mk #[], ((k : Nat) : Int), 1) := by
  unfold enc
  rw [bad_some hk h hn]
theorem enc_none {l : List M} (h : l.length = 0) : enc l = (ByteArray.mk #[], 0, 8) := by
  unfold enc
  rw [bad_none (fun i hi => absurd hi (by omega)), if_pos h]
theorem enc_apart {l : List M} {k : Nat} (hw : ∀ i, i < l.length → ckW l i = 0) (hk : k < l.length) (h : ∀ i, i < k → ckC l i = 0) (hn : ckC l k ≠ 0) : enc l = (ByteArray.mk #[], ((k : Nat) : Int), 7) := by
  unfold enc
  rw [bad_none hw, if_neg (by omega), bad_some hk h hn]
theorem enc_ok {l : List M} (hw : ∀ i, i < l.length → ckW l i = 0) (h0 : l.length ≠ 0) (h : ∀ i, i < l.length → ckC l i = 0) : enc l = (ByteArray.mk (wrtL l).toArray, 0, 0) := by
  unfold enc
  rw [bad_none hw, if_neg h0, bad_none h]
theorem ckW_zero {l : List M} {i : Nat} : ckW l i = 0 ↔ rightB (at0 l i) = true := by
  unfold ckW
  cases rightB (at0 l i) <;> simp
theorem ckC_zero {l : List M} {i : Nat} : ckC l i = 0 ↔ (at0 l i).cmd = (at0 l 0).cmd := by
  unfold ckC
  split <;> simp_all
theorem all_right {l : List M} (h : ∀ i, i < l.length → ckW l i = 0) : ∀ m ∈ l, rightB m = true := by
  intro m hm
  obtain ⟨i, hi, rfl⟩ := List.getElem_of_mem hm
  have := ckW_zero.1 (h i hi)
  rwa [at0_eq l i hi] at this
end Go.Proofs.Ythfdcmijciclkaa.Rp
