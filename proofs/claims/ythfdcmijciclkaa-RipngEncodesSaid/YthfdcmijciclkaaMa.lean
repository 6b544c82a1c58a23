/-
  There and back, of values alone: routes that have a datagram come back of it; what bytes say has a datagram no longer, of which it comes back. No conditions.
-/
import Derived.Test.YthfdcmijciclkaaRp
import Derived.Test.YthfdcmijciclkaaAp
namespace Go.Proofs.Ythfdcmijciclkaa.Ma
open Go.ChangeShapes Go.WideShapes Go.ChangeAt Go.RowKit
open Go.Proofs.Ythfdcmijciclkaa.Ms
open Go.Proofs.Ythfdcmijciclkaa.Rp
open Go.Proofs.Ythfdcmijciclkaa.All
open Go.Proofs.Ythfdcmijciclkaa.Own (k2)
open Go.Proofs.Ythfdcmijciclkaa.Bk (E)
set_option linter.unusedVariables false
set_option maxRecDepth 100000

theorem bare_route (c : Int) (nx : ByteArray) (e : E) : Bare.bare2 (routeM c nx e) = true := by
  unfold Bare.bare2 M.same M.flatE
  simp [routeM, k2, M.zero]
/-- An entry that comes of twenty bytes. -/
structure Fit (e : E) : Prop where
  (m : e.mask = ⟨#[]⟩) (n : e.next = ⟨#[]⟩) (ok : Rte.okE e = true)
theorem fit_of (s : ByteArray) (h : s.size = 20) : Fit (Rte.E.of s) := ⟨rfl, rfl, (Rte.of_back s h).1⟩
theorem rte_ok {e : E} (h : ckRte e = 0) : pfxB e.addr e.fam = true ∧ isMet e.met = true := by
  unfold ckRte at h
  cases h1 : pfxB e.addr e.fam
  · rw [h1] at h; simp at h
  cases h2 : isMet e.met
  · rw [h1, h2] at h; simp at h
  exact ⟨rfl, rfl⟩
theorem ent_back (c : Int) (nx : ByteArray) {e : E} (hf : Fit e) : entM (routeM c nx e) = e := by
  obtain ⟨fam, tag, addr, mask, next, met⟩ := e
  obtain ⟨h1, h2, _⟩ := hf
  change mask = _ at h1
  change next = _ at h2
  subst h1 h2
  rfl
theorem right_route {c : Int} {nx : ByteArray} {e : E} (hc : isCmd c = true) (hn : nextB nx = true) (hf : Fit e) (h : ckRte e = 0) : rightB (routeM c nx e) = true := by
  obtain ⟨h1, h2⟩ := rte_ok h
  have ht := (Rte.ok_parts e hf.ok).2.2.2.1
  unfold rightB
  show ((2 : Int) == 2 && (Bare.bare2 (routeM c nx e) && (isCmd c && (Oct.fitsB e.tag 2 && (isMet e.met && (pfxB e.addr e.fam && nextB nx)))))) = true
  rw [bare_route, hc, ht, h1, h2, hn]
  rfl
/-- A route as its entry tells it. -/
def norm (c : Int) (m : M) : M := routeM c m.next (entM m)
theorem hop_ok {nx : ByteArray} (h : nextB nx = true) : Rte.okE (hopE nx) = true ∧ ckE (hopE nx) = 0 ∧ nx1 (hopE nx) = nx := by
  have hs := next_size h
  refine ⟨Rte.ok_of hs rfl rfl (show Oct.fitsB 0 2 = true by decide) (show Oct.fitsB 0 1 = true by decide) (show Oct.fitsB 255 1 = true by decide), rfl, ?_⟩
  show (if link nx then nx else none16) = nx
  cases hl : link nx
  · unfold nextB at h
    rw [hl, Bool.or_false] at h
    rw [(isN_iff nx).1 h]; rfl
  · rfl
structure Rt (m : M) : Prop where
  kind : m.kind = 2
  bare : Bare.bare2 m = true
  c : isCmd m.cmd = true
  t : Oct.fitsB m.tag 2 = true
  met : isMet m.metric = true
  p : pfxB m.pfx m.plen = true
  nx : nextB m.next = true
theorem right_rt {m : M} (h : rightB m = true) : Rt m := by
  unfold rightB at h
  simp only [Bool.and_eq_true, beq_iff_eq] at h
  exact ⟨h.1, h.2.1, h.2.2.1, h.2.2.2.1, h.2.2.2.2.1, h.2.2.2.2.2.1, h.2.2.2.2.2.2⟩
theorem ent_ok {m : M} (h : rightB m = true) : Rte.okE (entM m) = true ∧ ckE (entM m) = 0 ∧ (entM m).met ≠ 255 := by
  obtain ⟨_, _, _, ht, hm, hp, _⟩ := right_rt h
  have hm2 := hm
  have hp2 := hp
  unfold isMet at hm
  unfold pfxB Pre.rightZ at hp
  simp only [Bool.and_eq_true, decide_eq_true_eq] at hm hp
  have p1 : ((Oct.pw (1 : Int).toNat : Nat) : Int) = 256 := by decide
  have h255 : (entM m).met ≠ 255 := by show m.metric ≠ 255; omega
  refine ⟨Rte.ok_of hp.1 rfl rfl ht ?_ ?_, ?_, h255⟩
  · show Oct.fitsB m.plen 1 = true
    rw [Oct.fitsB_iff, p1]; omega
  · show Oct.fitsB m.metric 1 = true
    rw [Oct.fitsB_iff, p1]; omega
  · unfold ckE
    rw [if_neg h255]
    unfold ckRte
    show (if pfxB m.pfx m.plen then (if isMet m.metric then 0 else 6) else 7 : Int) = 0
    rw [hp2, hm2]
    rfl
theorem ents_ok : ∀ (l : List M) (nx : ByteArray), (∀ m ∈ l, rightB m = true) → ∀ e ∈ entsL nx l, Rte.okE e = true ∧ ckE e = 0
  | [], _, _, e, he => by cases he
  | m :: l, nx, h, e, he => by
    have hm := h m (List.mem_cons_self ..)
    change e ∈ entsM nx m ++ entsL m.next l at he
    rcases List.mem_append.1 he with he | he
    · unfold entsM at he
      rcases List.mem_append.1 he with he | he
      · split at he
        · cases he
        · obtain rfl : e = hopE m.next := by simpa using he
          have := hop_ok (right_rt hm).nx
          exact ⟨this.1, this.2.1⟩
      · obtain rfl : e = entM m := by simpa using he
        have := ent_ok hm
        exact ⟨this.1, this.2.1⟩
    · exact ents_ok l m.next (fun u hu => h u (List.mem_cons_of_mem _ hu)) e he
theorem run_ents (c : Int) : ∀ (l : List M) (nx : ByteArray), (∀ m ∈ l, rightB m = true) → run c nx (entsL nx l) = l.map (norm c)
  | [], _, _ => rfl
  | m :: l, nx, h => by
    have hm := h m (List.mem_cons_self ..)
    have ih := run_ents c l m.next (fun u hu => h u (List.mem_cons_of_mem _ hu))
    have h255 := (ent_ok hm).2.2
    have step : ∀ es, run c m.next (entM m :: es) = norm c m :: run c m.next es := fun es => by
      show (if (entM m).met = 255 then run c (nx1 (entM m)) es else routeM c m.next (entM m) :: run c m.next es) = _
      rw [if_neg h255]; rfl
    show run c nx (((if m.next = nx then [] else [hopE m.next]) ++ [entM m]) ++ entsL m.next l) = norm c m :: l.map (norm c)
    by_cases hn : m.next = nx
    · rw [if_pos hn, ← hn]
      show run c m.next (entM m :: entsL m.next l) = _
      rw [step, ih]
    · rw [if_neg hn]
      show run c nx (hopE m.next :: entM m :: entsL m.next l) = _
      show (if (255 : Int) = 255 then run c (nx1 (hopE m.next)) (entM m :: entsL m.next l) else _) = _
      rw [if_pos rfl, (hop_ok (right_rt hm).nx).2.2, step, ih]

theorem piece {f : E → List UInt8} : ∀ (es : List E), (∀ e ∈ es, (f e).length = 20) → ∀ i (h : i < es.length), ((es.flatMap f).drop (20 * i)).take 20 = f es[i]
  | [], _, i, h => absurd h (by simp)
  | e :: es, hl, 0, _ => by
    have := hl e (List.mem_cons_self ..)
    rw [List.flatMap_cons, Nat.mul_zero, List.drop_zero, List.take_left' this]
    rfl
  | e :: es, hl, i + 1, h => by
    have he := hl e (List.mem_cons_self ..)
    have ih := piece es (fun u hu => hl u (List.mem_cons_of_mem _ hu)) i (by simpa using h)
    rw [List.flatMap_cons, show 20 * (i + 1) = 20 + 20 * i by omega, ← List.drop_drop, List.drop_left' he, ih]
    rfl
theorem flat_len {f : E → List UInt8} : ∀ (es : List E), (∀ e ∈ es, (f e).length = 20) → (es.flatMap f).length = 20 * es.length
  | [], _ => rfl
  | e :: es, hl => by
    have he := hl e (List.mem_cons_self ..)
    have ih := flat_len es (fun u hu => hl u (List.mem_cons_of_mem _ hu))
    rw [List.flatMap_cons, List.length_append, he, ih, List.length_cons]
    omega
theorem hd_eq {c : Int} (hc : isCmd c = true) : ∃ x : UInt8, hdL c = [x, 1, 0, 0] ∧ (x.toNat : Int) = c := by
  rcases cmd_or hc with rfl | rfl
  · exact ⟨1, rfl, rfl⟩
  · exact ⟨2, rfl, rfl⟩
theorem put_20 {e : E} (h : Rte.okE e = true) : (putL e).length = 20 := by
  have := (Rte.put_back e h).1
  unfold putL
  simpa using this

/-- Bytes of entries, each without an error: their routes come of them. -/
theorem out_of {c : Int} {es : List E} (hc : isCmd c = true) (he : ∀ e ∈ es, Rte.okE e = true ∧ ckE e = 0) (hn : es.length ≤ 3276) (h0 : (run c none16 es).length ≠ 0) :
    out ⟨(hdL c ++ es.flatMap putL).toArray⟩ = (run c none16 es, 0, 0) ∧ (hdL c ++ es.flatMap putL).length = 4 + 20 * es.length := by
  obtain ⟨x, hx, hxc⟩ := hd_eq hc
  have hp : ∀ e ∈ es, (putL e).length = 20 := fun e h => put_20 (he e h).1
  have hfl := flat_len es hp
  have hlen : (hdL c ++ es.flatMap putL).length = 4 + 20 * es.length := by rw [hx, List.length_append, hfl]; rfl
  refine ⟨?_, hlen⟩
  have hS : (ByteArray.mk (hdL c ++ es.flatMap putL).toArray).size = 4 + 20 * es.length := by show (hdL c ++ es.flatMap putL).toArray.size = _; simpa using hlen
  have hD : (ByteArray.mk (hdL c ++ es.flatMap putL).toArray).data.toList = x :: 1 :: 0 :: 0 :: es.flatMap putL := by rw [hx]; rfl
  generalize ByteArray.mk (hdL c ++ es.flatMap putL).toArray = S at *
  have b0 : bt S 0 = c := by unfold bt; rw [hD]; exact hxc
  have b1 : bt S 1 = 1 := by unfold bt; rw [hD]; rfl
  have b2 : bt S 2 = 0 := by unfold bt; rw [hD]; rfl
  have b3 : bt S 3 = 0 := by unfold bt; rw [hD]; rfl
  have hh : hdAt S = (0, 0) := by
    unfold hdAt
    rw [if_neg (by omega), if_neg (by omega), b0, hc, b1, zero_two S (by omega), b2, b3, hS]
    rw [if_neg (by decide), if_neg (by decide), if_neg (by decide), if_neg (by omega)]
  have hE : ∀ i (h : i < es.length), entP S (4 + 20 * i) = es[i] := fun i h => by
    have ho := (he es[i] (List.getElem_mem h)).1
    unfold entP
    have : S.extract (4 + 20 * i) (4 + 20 * i + 20) = Rte.putE es[i] := Rte.text_eq (by
      rw [Rte.ext_list, hD, show 4 + 20 * i + 20 - (4 + 20 * i) = 20 by omega, ← List.drop_drop]
      show ((es.flatMap putL).drop (20 * i)).take 20 = _
      exact piece es hp i h)
    rw [this, (Rte.put_back _ ho).2]
  have hK : esK S es.length = es := by
    unfold esK
    apply List.ext_getElem
    · simp
    · intro i h1 h2
      simp only [List.getElem_map, List.getElem_range]
      exact hE i h2
  have hR : rts S es.length = run c none16 es := by unfold rts; rw [hK, b0]
  have hI : ∀ i, i < es.length → ckI S i = 0 := fun i h => by
    unfold ckI
    rw [hE i h]
    exact (he es[i] (List.getElem_mem h)).2
  unfold out
  rw [hh, if_neg (by simp), hS, show (4 + 20 * es.length - 4) / 20 = es.length by omega, ents_none hI, hR, if_neg h0]

/-- Routes that have a datagram. -/
structure Wrt (l : List M) : Prop where
  n1 : 1 ≤ l.length
  r : ∀ m ∈ l, rightB m = true
  t : ∀ m ∈ l, m.cmd = (at0 l 0).cmd
theorem enc_two (l : List M) : ((enc l).2.2 ≠ 0 ∧ (enc l).1 = ⟨#[]⟩ ∧ 0 ≤ (enc l).2.1 ∧ (enc l).2.1 ≤ (l.length : Int)) ∨ (Wrt l ∧ enc l = (⟨(wrtL l).toArray⟩, 0, 0)) := by
  rcases first_of (ckW l) l.length with ⟨k, h1, h2, h3⟩ | hw
  · rw [enc_wrong h1 h2 h3]
    exact .inl ⟨show (1 : Int) ≠ 0 by decide, rfl, Int.natCast_nonneg _, by show ((k : Nat) : Int) ≤ l.length; omega⟩
  by_cases h0 : l.length = 0
  · rw [enc_none h0]
    exact .inl ⟨show (8 : Int) ≠ 0 by decide, rfl, Int.le_refl _, Int.natCast_nonneg _⟩
  rcases first_of (ckC l) l.length with ⟨k, h1, h2, h3⟩ | ht
  · rw [enc_apart hw h1 h2 h3]
    exact .inl ⟨show (7 : Int) ≠ 0 by decide, rfl, Int.natCast_nonneg _, by show ((k : Nat) : Int) ≤ l.length; omega⟩
  · refine .inr ⟨⟨by omega, all_right hw, fun m hm => ?_⟩, enc_ok hw h0 ht⟩
    obtain ⟨i, hi, rfl⟩ := List.getElem_of_mem hm
    have := ckC_zero.1 (ht i hi)
    rwa [at0_eq l i hi] at this
theorem Wrt.enc {l : List M} (W : Wrt l) : enc l = (⟨(wrtL l).toArray⟩, 0, 0) := by
  refine enc_ok (fun i hi => ?_) (by have := W.n1; omega) (fun i hi => ?_)
  · rw [ckW_zero, at0_eq l i hi]; exact W.r _ (List.getElem_mem hi)
  · rw [ckC_zero, at0_eq l i hi]; exact W.t _ (List.getElem_mem hi)
theorem Wrt.c {l : List M} (W : Wrt l) : isCmd (at0 l 0).cmd = true := by
  have h0 : 0 < l.length := W.n1
  rw [at0_eq l 0 h0]
  exact (right_rt (W.r _ (List.getElem_mem h0))).c
theorem ents_len : ∀ (l : List M) (nx : ByteArray), (entsL nx l).length ≤ 2 * l.length
  | [], _ => Nat.le_refl _
  | m :: l, nx => by
    have ih := ents_len l m.next
    show (entsM nx m ++ entsL m.next l).length ≤ 2 * (l.length + 1)
    have : (entsM nx m).length ≤ 2 := by unfold entsM; split <;> simp
    rw [List.length_append]
    omega
theorem wrt_out {l : List M} (W : Wrt l) (hl : l.length ≤ 1000) : out ⟨(wrtL l).toArray⟩ = (l.map (norm (at0 l 0).cmd), 0, 0) ∧ (wrtL l).length = 4 + 20 * (entsL none16 l).length := by
  have hr := run_ents (at0 l 0).cmd l none16 W.r
  have := out_of (c := (at0 l 0).cmd) (es := entsL none16 l) W.c (ents_ok l none16 W.r) (by have := ents_len l none16; omega) (by rw [hr]; have := W.n1; simp; intro h; rw [h] at this; simp at this)
  rw [hr] at this
  exact this
theorem same_norm {m : M} {c : Int} (h : rightB m = true) (hc : m.cmd = c) : M.same m (norm c m) = true := by
  obtain ⟨hk, hb, _⟩ := right_rt h
  unfold Bare.bare2 M.same M.flatE at hb
  unfold M.same M.flatE
  simp only [Bool.and_eq_true] at hb ⊢
  obtain ⟨⟨b0, b1, b2, b3, b4, b5, b6, b7, b8, b9, b10, b11, b12, b13, b14, b15, b16, b17, b18, b19, b20, b21, b22⟩, b23, b24⟩ := hb
  refine ⟨⟨?_, ?_, b2, b3, b4, b5, b6, b7, b8, b9, b10, b11, b12, b13, b14, b15, b16, b17, b18, b19, b20, b21, b22⟩, b23, b24⟩
  · show (m.kind == 2) = true
    rw [hk]; rfl
  · show (m.cmd == c) = true
    rw [hc]; simp
theorem wrt_same {l : List M} (W : Wrt l) : sameL l (l.map (norm (at0 l 0).cmd)) = true :=
  sameL_yes (by simp) fun i h1 h2 => by
    rw [List.getElem_map]
    exact same_norm (W.r _ (List.getElem_mem h1)) (W.t _ (List.getElem_mem h1))
theorem norm_flat (c : Int) (l : List M) : Ap.Flat (l.map (norm c)) := fun m hm => by
  obtain ⟨u, _, rfl⟩ := List.mem_map.1 hm
  exact ⟨rfl, rfl⟩
/-- How many bytes k routes have. -/
def szK (l : List M) (k : Nat) : Nat := 4 + 20 * (entsL none16 (l.take k)).length
theorem sz_zero (l : List M) : szK l 0 = 4 := rfl
theorem sz_succ (l : List M) (k : Nat) (h : k < l.length) : szK l (k + 1) = szK l k + 20 + (if l[k].next = laK l k then 0 else 20) := by
  unfold szK laK
  rw [List.take_succ_eq_append_getElem h, entsL_snoc, List.length_append]
  unfold entsM
  split <;> simp <;> omega
theorem sz_all {l : List M} (W : Wrt l) (hl : l.length ≤ 1000) : (wrtL l).length = szK l l.length := by
  rw [(wrt_out W hl).2]
  unfold szK
  rw [List.take_length]
theorem sz_le (l : List M) (k : Nat) (h : k ≤ l.length) : szK l k ≤ 4 + 40 * k := by
  unfold szK
  have := ents_len (l.take k) none16
  rw [List.length_take] at this
  omega

/- Bytes first. -/
theorem first_bad (f : Nat → Int) (n : Nat) : (∃ k, k < n ∧ (∀ i, i < k → f i = 0) ∧ f k ≠ 0) ∨ (∀ i, i < n → f i = 0) := first_of f n
structure Good (b : ByteArray) (n : Nat) : Prop where
  sz : b.size = 4 + 20 * n
  c : isCmd (bt b 0) = true
  ck : ∀ i, i < n → ckI b i = 0
  n0 : (rts b n).length ≠ 0
  o : out b = (rts b n, 0, 0)
theorem out_two (b : ByteArray) : ((out b).2.2 ≠ 0 ∧ (out b).1 = [] ∧ 0 ≤ (out b).2.1 ∧ (out b).2.1 ≤ (b.size : Int)) ∨ ∃ n, Good b n := by
  by_cases h : (hdAt b).2 = 0
  rotate_left
  · refine .inl ?_
    have e : out b = ([], hdAt b) := by unfold Rp.out; rw [if_pos h]
    rw [e]
    refine ⟨h, rfl, ?_⟩
    show 0 ≤ (hdAt b).1 ∧ (hdAt b).1 ≤ _
    unfold hdAt
    split
    · exact ⟨show (0 : Int) ≤ 65535 by decide, by show (65535 : Int) ≤ _; omega⟩
    split
    · exact ⟨Int.natCast_nonneg _, Int.le_refl _⟩
    split
    · exact ⟨Int.le_refl _, Int.natCast_nonneg _⟩
    split
    · exact ⟨show (0 : Int) ≤ 1 by decide, by show (1 : Int) ≤ _; omega⟩
    split
    · exact ⟨show (0 : Int) ≤ 2 by decide, by show (2 : Int) ≤ _; omega⟩
    split
    · exact ⟨Int.natCast_nonneg _, Int.le_refl _⟩
    · exact ⟨Int.le_refl _, Int.natCast_nonneg _⟩
  obtain ⟨h65, h4, hc, _, _, h20⟩ := hd_ok h
  obtain ⟨n, hn⟩ : ∃ n, b.size = 4 + 20 * n := ⟨(b.size - 4) / 20, by omega⟩
  have e : out b = ents b n := by unfold Rp.out; rw [if_neg (by simpa using h), show (b.size - 4) / 20 = n by omega]
  rcases first_of (ckI b) n with ⟨k, h1, h2, h3⟩ | hk
  · rw [e, ents_some h1 h2 h3]
    exact .inl ⟨h3, rfl, Int.natCast_nonneg _, by show ((4 + 20 * k : Nat) : Int) ≤ _; omega⟩
  by_cases h0 : (rts b n).length = 0
  · rw [e, ents_none hk, if_pos h0]
    exact .inl ⟨show (8 : Int) ≠ 0 by decide, rfl, Int.natCast_nonneg _, Int.le_refl _⟩
  · exact .inr ⟨n, hn, hc, hk, h0, by rw [e, ents_none hk, if_neg h0]⟩
theorem nx1_ok (e : E) : nextB (nx1 e) = true := by
  unfold nx1 nextB
  cases h : link e.addr
  · rw [show (if false = true then e.addr else none16) = none16 from rfl, isN_none]; rfl
  · rw [show (if true = true then e.addr else none16) = e.addr from rfl, h]; simp
theorem run_good {c : Int} (hc : isCmd c = true) : ∀ (es : List E) (nx : ByteArray), nextB nx = true → (∀ e ∈ es, Fit e ∧ ckE e = 0) → ∀ m ∈ run c nx es, rightB m = true ∧ m.cmd = c ∧ norm c m = m
  | [], _, _, _, m, hm => by cases hm
  | e :: es, nx, hn, h, m, hm => by
    have he := h e (List.mem_cons_self ..)
    have ht : ∀ u ∈ es, Fit u ∧ ckE u = 0 := fun u hu => h u (List.mem_cons_of_mem _ hu)
    change m ∈ (if e.met = 255 then run c (nx1 e) es else routeM c nx e :: run c nx es) at hm
    by_cases h255 : e.met = 255
    · rw [if_pos h255] at hm
      exact run_good hc es _ (nx1_ok e) ht m hm
    · rw [if_neg h255] at hm
      rcases List.mem_cons.1 hm with rfl | hm
      · have hr : ckRte e = 0 := by have := he.2; unfold ckE at this; rwa [if_neg h255] at this
        exact ⟨right_route hc hn he.1 hr, rfl, by unfold norm; rw [ent_back c nx he.1]; rfl⟩
      · exact run_good hc es nx hn ht m hm
theorem run_less (c : Int) : ∀ (es : List E) (a nx : ByteArray), (∀ e ∈ es, Fit e) → (entsL a (run c nx es)).length ≤ es.length + (if a = nx then 0 else 1)
  | [], a, nx, _ => by show 0 ≤ _; omega
  | e :: es, a, nx, h => by
    have ht : ∀ u ∈ es, Fit u := fun u hu => h u (List.mem_cons_of_mem _ hu)
    show (entsL a (if e.met = 255 then run c (nx1 e) es else routeM c nx e :: run c nx es)).length ≤ (es.length + 1) + _
    by_cases h255 : e.met = 255
    · rw [if_pos h255]
      have := run_less c es a (nx1 e) ht
      have h1 : (if a = nx1 e then 0 else 1) ≤ 1 := by split <;> omega
      omega
    · rw [if_neg h255]
      have := run_less c es nx nx ht
      rw [if_pos rfl] at this
      show (entsM a (routeM c nx e) ++ entsL nx (run c nx es)).length ≤ _
      rw [List.length_append]
      unfold entsM
      show ((if nx = a then [] else [hopE nx]) ++ [entM (routeM c nx e)]).length + _ ≤ _
      by_cases hx : nx = a
      · rw [if_pos hx, if_pos hx.symm]; simp; omega
      · rw [if_neg hx, if_neg (fun h => hx h.symm)]; simp; omega
theorem map_id {f : M → M} : ∀ {l : List M}, (∀ m ∈ l, f m = m) → l.map f = l
  | [], _ => rfl
  | m :: l, h => by rw [List.map_cons, h m (List.mem_cons_self ..), map_id (fun u hu => h u (List.mem_cons_of_mem _ hu))]
/-- What bytes say has a datagram no longer, of which it comes back. -/
theorem Good.back {b : ByteArray} {n : Nat} (g : Good b n) (hs : b.size ≤ 2000) :
    ∃ S : ByteArray, enc (rts b n) = (S, 0, 0) ∧ S.size ≤ b.size ∧ Rp.out S = (rts b n, 0, 0) ∧ (rts b n).length ≤ 100 := by
  have hn := g.sz
  have hl : (rts b n).length ≤ n := rts_len b n
  have hF : ∀ e ∈ esK b n, Fit e ∧ ckE e = 0 := fun e he => by
    unfold esK at he
    obtain ⟨i, hi, rfl⟩ := List.mem_map.1 he
    have hi := List.mem_range.1 hi
    exact ⟨fit_of _ (by simp; omega), g.ck i hi⟩
  have hG := run_good g.c (esK b n) none16 (by unfold nextB; rw [isN_none]; rfl) hF
  have hc : (at0 (rts b n) 0).cmd = bt b 0 := by
    have h0 : 0 < (rts b n).length := by have := g.n0; omega
    rw [at0_eq _ 0 h0]
    exact (hG _ (List.getElem_mem h0)).2.1
  have W : Wrt (rts b n) := ⟨by have := g.n0; omega, fun m hm => (hG m hm).1, fun m hm => by rw [hc]; exact (hG m hm).2.1⟩
  obtain ⟨o1, o2⟩ := wrt_out W (by omega)
  refine ⟨_, W.enc, ?_, ?_, by omega⟩
  · have := run_less (bt b 0) (esK b n) none16 none16 (fun e he => (hF e he).1)
    rw [if_pos rfl, esK_len] at this
    show (wrtL (rts b n)).toArray.size ≤ _
    have : (entsL none16 (rts b n)).length ≤ n := this
    simp only [List.size_toArray]
    omega
  · rw [o1, hc, map_id (l := rts b n) (fun m hm => (hG m hm).2.2)]
end Go.Proofs.Ythfdcmijciclkaa.Ma
