/-
  Babel's messages in as few bytes as what is known lets, whole: their TLVs, the bytes, what is known behind them; taken where it is known they tell the message. No conditions.
  Babel's messages, written one behind the other, each where what those ahead of it leave behind is known: the TLVs, the datagram, or why there is none; it is read as these messages. No conditions.
-/
import Derived.Test.YtjhfpobjbijcpaaGreatDoorB14
namespace Go.Proofs.YtjhfpobjbijcpaaGreatDoor.L2
open Go.ChangeShapes Go.WideShapes Go.ChangeAt Go.RowKit
open Go.Proofs.YtjhfpobjbijcpaaGreatDoor.Ms
open Go.Proofs.YtjhfpobjbijcpaaGreatDoor.S1 (okS outS putS)
open Go.Proofs.YtjhfpobjbijcpaaGreatDoor.G1 (outF okF typF datF)
open Go.Proofs.YtjhfpobjbijcpaaGreatDoor.J1
open Go.Proofs.YtjhfpobjbijcpaaGreatDoor.K1
open Go.Proofs.YtjhfpobjbijcpaaGreatDoor.I1
open Go.Proofs.YtjhfpobjbijcpaaGreatDoor.L1
open Go.Proofs.YtjhfpobjbijcpaaGreatDoor.Pre (leadN leastN)
open Go.Proofs.YtjhfpobjbijcpaaGreatDoor.Own (ownM)
open Go.Proofs.YtjhfpobjbijcpaaGreatDoor.F1 (T okT okT_nil okT_snoc encT enc1 ok1 outT placed encT_append encT_cons encT_nil enc1_len okT_append placed_append)
open Go.Proofs.YtjhfpobjbijcpaaGreatDoor.Nu
set_option linter.unusedVariables false
set_option maxRecDepth 100000
set_option maxRecDepth 100000

def okO (m : M) : Bool := decide (m.kind = 14) && (bare m && (decide (11 ≤ m.typ) && (decide (m.typ ≤ 255) && decide (m.data.size ≤ 255))))
/-- May it be a message of Babel? -/
def okL (m : M) : Bool := okF m || (okJ m || (okU m || okO m))
theorem kind_F {m : M} (h : okF m = true) : 7 ≤ m.kind ∧ m.kind ≤ 10 := by
  rcases G1.kind_cases ((G1.ok_iff m).1 h).kind with k | k | ⟨k, _⟩ | ⟨k, _⟩ <;> omega
theorem kind_J {m : M} (h : okJ m = true) : m.kind = 12 ∨ m.kind = 13 := by
  rcases J1.kind_cases ((J1.ok_iff m).1 h).kind with k | ⟨k, _⟩ <;> omega
theorem o_parts {m : M} (h : okO m = true) : m.kind = 14 ∧ bare m = true ∧ 11 ≤ m.typ ∧ m.typ ≤ 255 ∧ m.data.size ≤ 255 := by
  unfold okO at h
  simpa only [Bool.and_eq_true, decide_eq_true_eq] using h
theorem ok_u {m : M} (h : okL m = true) (k : m.kind = 11) : okU m = true := by
  unfold okL at h
  simp only [Bool.or_eq_true] at h
  rcases h with h | h | h | h
  · have := kind_F h; omega
  · have := kind_J h; omega
  · exact h
  · have := (o_parts h).1; omega
theorem ok_not {m : M} (h : okL m = true) (k : ¬ m.kind = 11) : okF m = true ∨ (okF m = false ∧ okJ m = true) ∨ (okF m = false ∧ okJ m = false ∧ okO m = true) := by
  unfold okL at h
  simp only [Bool.or_eq_true] at h
  rcases h with h | h | h | h
  · exact .inl h
  · refine .inr (.inl ⟨?_, h⟩)
    rcases hF : okF m with _ | _
    · rfl
    · have := kind_F hF; have := kind_J h; omega
  · exact absurd ((oku_iff m).1 h).kind k
  · have k14 := (o_parts h).1
    refine .inr (.inr ⟨?_, ?_, h⟩)
    · rcases hF : okF m with _ | _
      · rfl
      · have := kind_F hF; omega
    · rcases hJ : okJ m with _ | _
      · rfl
      · have := kind_J hJ; omega
/-- The TLV of a message that is no Update. -/
def othE (m : M) : F1.El := if okF m = true then (datF m, typF m) else if okJ m = true then (datJ m, typJ m) else (m.data, m.typ)
theorem oth_one {m : M} (h : okL m = true) (k : ¬ m.kind = 11) (c : Kx) : one c (othE m).2 (othE m).1 = (c, [canM m], 0) ∧ ok1 (othE m) ∧ ¬ (othE m).2 = 0 := by
  unfold othE
  rcases ok_not h k with hF | ⟨nF, hJ⟩ | ⟨nF, nJ, hO⟩
  · rw [if_pos hF]
    have hl := G1.fld_len hF
    refine ⟨?_, (G1.putF_ok hF).2, by show ¬ typF m = 0; omega⟩
    rw [one_f hl.2.1 hl.2.2, G1.put_back hF]
    rfl
  · rw [if_neg (by rw [nF]; decide), if_pos hJ]
    have hl := (J1.fld_len hJ).2
    refine ⟨?_, (J1.putJ_ok hJ).2, by show ¬ typJ m = 0; omega⟩
    rw [one_j hl, J1.put_back hJ]
    rfl
  · rw [if_neg (by rw [nF]; decide), if_neg (by rw [nJ]; decide)]
    obtain ⟨o1, o2, o3, o4, o5⟩ := o_parts hO
    refine ⟨?_, ⟨by show 0 ≤ m.typ; omega, o4, o5, fun h0 => absurd h0 (by show ¬ m.typ = 0; omega)⟩, by show ¬ m.typ = 0; omega⟩
    rw [one_o (.inr (by show 10 < m.typ; omega)), can_14 o1]
/-- It comes back the same. -/
theorem can_same {m : M} (h : okL m = true) : M.same m (canM m) = true ∧ (canM m).la = none ∧ (canM m).ll = [] ∧ (canM m).lc = 0 ∧ (canM m).sl = m.sl := by
  by_cases k : m.kind = 11
  · have o := (oku_iff m).1 (ok_u h k)
    have h1 : M.same m (ownM m) = true := by have := o.bare; unfold bare at this; simp at this; exact this.2
    rw [can_11 k]
    refine ⟨?_, rfl, rfl, rfl, rfl⟩
    rw [(is_11 k).2, k] at h1
    exact h1
  rcases ok_not h k with hF | ⟨_, hJ⟩ | ⟨_, _, hO⟩
  · exact G1.own_same hF
  · exact J1.own_same hJ
  · obtain ⟨o1, o2, _⟩ := o_parts hO
    have h1 : M.same m (ownM m) = true := by have := o2; unfold bare at this; simp at this; exact this.2
    rw [can_14 o1]
    have h2 := h1
    rw [(is_14 o1).2, o1] at h2
    have hs : m.sl = [] := by
      unfold M.same at h2
      simp only [Bool.and_eq_true, decide_eq_true_eq] at h2
      exact h2.2.2
    exact ⟨h2, rfl, rfl, rfl, by rw [hs]; rfl⟩

/-- How many bytes of an Update's prefix are left out. -/
def omN (c : Kx) (m : M) : Nat := if m.ae = 0 ∨ (c.pf m.ae).size = 0 then 0 else leadN ⟨((c.pf m.ae).data.toList.drop (baseN m.ae)).toArray⟩ (cutP m.ae m.pfx m.plen)
theorem om_le {c : Kx} {m : M} (h : okU m = true) : omN c m ≤ countN m.ae m.plen ∧ (0 < omN c m → ¬ (c.pf m.ae).size = 0 ∧ ¬ m.ae = 0) ∧ ((c.pf m.ae).data.toList.drop (baseN m.ae)).take (omN c m) = (cutP m.ae m.pfx m.plen).data.toList.take (omN c m) := by
  have hz := cut_size ((oku_iff m).1 h).pfx
  unfold omN
  by_cases h0 : m.ae = 0 ∨ (c.pf m.ae).size = 0
  · rw [if_pos h0]
    exact ⟨Nat.zero_le _, fun h => absurd h (Nat.lt_irrefl 0), rfl⟩
  · rw [if_neg h0]
    refine ⟨?_, fun _ => ⟨fun k => h0 (.inr k), fun k => h0 (.inl k)⟩, ?_⟩
    · rw [← hz]; exact (Ld.lead_le _ _).2
    · have := congrArg (fun b : ByteArray => b.data.toList) (Ld.lead_same ⟨((c.pf m.ae).data.toList.drop (baseN m.ae)).toArray⟩ (cutP m.ae m.pfx m.plen))
      simp only [ext_list, List.drop_zero, Nat.sub_zero] at this
      exact this
/-- The TLVs ahead of an Update, what is known behind them. -/
def wayE (c : Kx) (m : M) : List F1.El := if m.metric = 65535 then [] else (if m.id = c.id then [] else [(idD m.id, 6)]) ++ (if m.next = c.nx (fam m.ae) then [] else [(hopD m.next, 7)])
def wayC (c : Kx) (m : M) : Kx := if m.metric = 65535 then c else ({ c with id := m.id } : Kx).setN (fam m.ae) m.next
/-- A next hop is known, and the message says none. -/
def badC (c : Kx) (m : M) : Bool := decide (m.kind = 11) && (!decide (m.metric = 65535) && (decide (m.next.size = 0) && !decide ((c.nx (fam m.ae)).size = 0)))
def elsL (c : Kx) (m : M) : List F1.El := if m.kind = 11 then wayE c m ++ [(updD m (omN c m), 8)] else [othE m]
def ctxL (c : Kx) (m : M) : Kx := if m.kind = 11 then knowP (wayC c m) m else c
theorem set_same {c : Kx} {ae : Int} {a : ByteArray} (h : a = c.nx (fam ae)) : c.setN (fam ae) a = c := by
  subst h
  unfold Kx.setN Kx.nx
  split <;> rfl
theorem near_next {c : Kx} {m : M} (h : okU m = true) (hm : ¬ m.metric = 65535) (hb : badC c m = false) : m.next = c.nx (fam m.ae) ∨ ((m.next.size = 4 ∨ m.next.size = 16) ∧ famA m.next = fam m.ae) := by
  have o := (oku_iff m).1 h
  obtain ⟨w1, _, w3⟩ := way_near o.way hm
  obtain ⟨a0, a1, _, _⟩ := len_range (in_cases o.pfx).1
  by_cases hz : m.next.size = 0
  · left
    unfold badC at hb
    rw [decide_eq_true o.kind, decide_eq_false hm, decide_eq_true hz] at hb
    simp only [Bool.not_false, Bool.true_and, Bool.not_eq_false', decide_eq_true_eq] at hb
    rw [empty_of hz, empty_of hb]
  · have hf : famA m.next = fam m.ae := by rcases w3 with k | k; exact absurd k hz; exact k
    have h0 : ¬ fam m.ae = -1 := by
      unfold fam
      rcases (show m.ae = 1 ∨ m.ae = 2 ∨ m.ae = 3 by omega) with k | k | k <;> rw [k] <;> decide
    refine .inr ⟨?_, hf⟩
    unfold famA at hf
    by_cases h4 : m.next.size = 4
    · exact .inl h4
    · by_cases h16 : m.next.size = 16
      · exact .inr h16
      · rw [if_neg h4, if_neg h16] at hf
        exact absurd hf.symm h0
theorem way_pf (c : Kx) (m : M) (ae : Int) : (wayC c m).pf ae = c.pf ae := by
  have hs : ∀ (x : Kx) (f : Int) (a : ByteArray), (x.setN f a).pf ae = x.pf ae := fun x f a => by unfold Kx.setN; split <;> rfl
  unfold wayC
  split
  · rfl
  · rw [hs]; rfl
theorem nx_set (c : Kx) (ae : Int) (a : ByteArray) : (c.setN (fam ae) a).nx (fam ae) = a := by
  unfold Kx.setN Kx.nx
  split
  · rfl
  · rfl
theorem way_know {c : Kx} {m : M} (hm : ¬ m.metric = 65535) : (wayC c m).id = m.id ∧ (wayC c m).nx (fam m.ae) = m.next := by
  unfold wayC
  rw [if_neg hm]
  refine ⟨?_, nx_set _ _ _⟩
  unfold Kx.setN
  split <;> rfl
theorem way_fold {c : Kx} {m : M} (h : okU m = true) (hb : badC c m = false) (p : Int) (o : List M) : foldI (placed p (wayE c m)) c o = (o, wayC c m, 0, 0) := by
  have ok := (oku_iff m).1 h
  unfold wayE wayC
  by_cases hm : m.metric = 65535
  · rw [if_pos hm, if_pos hm]; rfl
  rw [if_neg hm, if_neg hm]
  obtain ⟨w1, w2, w3⟩ := way_near ok.way hm
  have hn := near_next h hm hb
  have hid : ∀ p : Int, foldI (placed p (if m.id = c.id then [] else [(idD m.id, 6)])) c o = (o, { c with id := m.id }, 0, 0) := fun p => by
    by_cases hi : m.id = c.id
    · rw [if_pos hi, hi]; rfl
    · rw [if_neg hi]
      show foldI [(p, (idD m.id, 6))] c o = _
      rw [fold_ok (x := (p, (idD m.id, 6))) (id_one w2), List.append_nil]
      rfl
  have hnx : ∀ (p : Int) (c' : Kx), c'.nx (fam m.ae) = c.nx (fam m.ae) → foldI (placed p (if m.next = c.nx (fam m.ae) then [] else [(hopD m.next, 7)])) c' o = (o, c'.setN (fam m.ae) m.next, 0, 0) := fun p c' hc' => by
    by_cases hi : m.next = c.nx (fam m.ae)
    · rw [if_pos hi, set_same (by rw [hc']; exact hi)]; rfl
    · rw [if_neg hi]
      rcases hn with k | ⟨k, k2⟩
      · exact absurd k hi
      · show foldI [(p, (hopD m.next, 7))] c' o = _
        rw [fold_ok (x := (p, (hopD m.next, 7))) (hop_one k), List.append_nil, k2]
        rfl
  rw [placed_append, fold_app, hid, if_pos rfl]
  exact hnx _ _ rfl
/-- Taken where it is known, a message's TLVs tell it, and nothing else. -/
theorem put_fold {c : Kx} {m : M} (h : okL m = true) (hb : badC c m = false) (p : Int) (o : List M) : foldI (placed p (elsL c m)) c o = (o ++ [canM m], ctxL c m, 0, 0) := by
  unfold elsL ctxL
  by_cases k : m.kind = 11
  · rw [if_pos k, if_pos k]
    have hu := ok_u h k
    obtain ⟨o1, o2, o3⟩ := om_le (c := c) hu
    rw [placed_append, fold_app, way_fold hu hb, if_pos rfl]
    have h1 := upd_one (c := wayC c m) hu o1 (by rw [way_pf]; exact o3) (fun q => by rw [way_pf]; exact (o2 q).1) (fun hm => way_know hm)
    show foldI [(_, (updD m (omN c m), 8))] (wayC c m) o = _
    rw [fold_ok (x := (_, (updD m (omN c m), 8))) h1]
    rfl
  · rw [if_neg k, if_neg k]
    show foldI [(p, othE m)] c o = _
    rw [fold_ok (x := (p, othE m)) (oth_one h k c).1]
    rfl
theorem way_ok {c : Kx} {m : M} (hc : okC c = true) (h : okU m = true) (hb : badC c m = false) : okC (wayC c m) = true := by
  have ok := (oku_iff m).1 h
  have hk := (okc_iff c).1 hc
  obtain ⟨a0, a1, _, _⟩ := len_range (in_cases ok.pfx).1
  unfold wayC
  split
  · exact hc
  · rename_i hm
    obtain ⟨w1, w2, w3⟩ := way_near ok.way hm
    rw [okc_iff]
    rcases near_next h hm hb with e | ⟨e1, e2⟩
    · rw [set_same (c := { c with id := m.id }) (show m.next = ({ c with id := m.id } : Kx).nx (fam m.ae) from e)]
      exact hk.setI w2
    · refine (hk.setI w2).setN (by omega) a1 ?_
      unfold famA fam at e2
      rcases (show m.ae = 1 ∨ m.ae = 2 ∨ m.ae = 3 by omega) with q | q | q <;> rw [q] at e2 ⊢ <;> rcases e1 with e | e <;> rw [e] at e2 ⊢ <;> simp at e2 ⊢
theorem put_ok {c : Kx} {m : M} (hc : okC c = true) (h : okL m = true) (hb : badC c m = false) : okC (ctxL c m) = true := by
  unfold ctxL
  split
  · rename_i k
    have hu := ok_u h k
    have ok := (oku_iff m).1 hu
    obtain ⟨a0, a1, _, _⟩ := len_range (in_cases ok.pfx).1
    unfold knowP
    split
    · exact way_ok hc hu hb
    · rw [okc_iff]
      exact ((okc_iff _).1 (way_ok hc hu hb)).setP (by omega) a1 (in_adr ok.pfx)
  · exact hc
theorem id_ok {a : ByteArray} (h : a.size = 8) : ok1 (idD a, 6) ∧ (idD a).size = 10 := by
  have : (idD a).size = 10 := by show (0 :: 0 :: a.data.toList).toArray.size = 10; simp; omega
  exact ⟨⟨by show (0 : Int) ≤ 6; decide, by show (6 : Int) ≤ 255; decide, by show (idD a).size ≤ 255; omega, fun h => absurd h (by show ¬ (6 : Int) = 0; decide)⟩, this⟩
theorem hop_ok {a : ByteArray} (h : a.size = 4 ∨ a.size = 16) : ok1 (hopD a, 7) := by
  have := (L1.hop_size h).2
  exact ⟨by show (0 : Int) ≤ 7; decide, by show (7 : Int) ≤ 255; decide, by show (hopD a).size ≤ 255; omega, fun h => absurd h (by show ¬ (7 : Int) = 0; decide)⟩
theorem upd_ok1 {m : M} {n : Nat} (h : okU m = true) (hn : n ≤ countN m.ae m.plen) : ok1 (updD m n, 8) := by
  have := (upd_size h hn).2
  exact ⟨by show (0 : Int) ≤ 8; decide, by show (8 : Int) ≤ 255; decide, by show (updD m n).size ≤ 255; omega, fun h => absurd h (by show ¬ (8 : Int) = 0; decide)⟩
theorem okT_one {x : F1.El} (h : ok1 x) : okT [x] := fun y hy => by rw [List.mem_singleton] at hy; exact hy ▸ h
theorem els_ok {c : Kx} {m : M} (h : okL m = true) (hb : badC c m = false) : okT (elsL c m) := by
  unfold elsL
  by_cases k : m.kind = 11
  · rw [if_pos k]
    have hu := ok_u h k
    have ok := (oku_iff m).1 hu
    refine okT_append ?_ (okT_one (upd_ok1 hu (om_le hu).1))
    unfold wayE
    split
    · exact okT_nil
    · rename_i hm
      obtain ⟨w1, w2, w3⟩ := way_near ok.way hm
      refine okT_append ?_ ?_
      · split
        · exact okT_nil
        · exact okT_one (id_ok w2).1
      · split
        · exact okT_nil
        · rename_i hi
          rcases near_next hu hm hb with e | ⟨e1, _⟩
          · exact absurd e hi
          · exact okT_one (hop_ok e1)
  · rw [if_neg k]
    exact okT_one (oth_one h k c).2.1
/-- A message's bytes, what is known behind them, or why there are none. -/
def putL (c : Kx) (m : M) : ByteArray × Kx × Int := if okL m = true then (if badC c m = true then (ByteArray.empty, c, 9) else (⟨(encT (elsL c m)).toArray⟩, ctxL c m, 0)) else (ByteArray.empty, c, 1)
/-- Its plain bytes: those where nothing is known. -/
def plainL (m : M) : ByteArray × Bool := if okL m = true then (⟨(encT (elsL Kx.zero m)).toArray⟩, true) else (ByteArray.empty, false)
theorem bad_zero (m : M) : badC Kx.zero m = false := by
  unfold badC
  have : (Kx.zero.nx (fam m.ae)).size = 0 := by unfold Kx.nx; split <;> rfl
  rw [decide_eq_true this]
  simp
theorem om_zero (m : M) : omN Kx.zero m = 0 := by
  unfold omN
  rw [if_pos (.inr (by unfold Kx.pf; (repeat' split) <;> rfl))]
theorem len_one (x : F1.El) : (encT [x]).length = (enc1 x).length := by rw [encT_cons, encT_nil, List.append_nil]
/-- Never more than the plain ones. -/
theorem put_short {c : Kx} {m : M} (h : okL m = true) (hb : badC c m = false) : (encT (elsL c m)).length ≤ (encT (elsL Kx.zero m)).length := by
  unfold elsL
  by_cases k : m.kind = 11
  · rw [if_pos k, if_pos k, encT_append, encT_append, List.length_append, List.length_append, len_one, len_one, enc1_len, enc1_len]
    have hu := ok_u h k
    have ok := (oku_iff m).1 hu
    have s1 := (upd_size hu (om_le (c := c) hu).1).1
    have s2 := (upd_size hu (om_le (c := Kx.zero) hu).1).1
    rw [om_zero] at s2
    have hw : (encT (wayE c m)).length ≤ (encT (wayE Kx.zero m)).length := by
      unfold wayE
      by_cases hm : m.metric = 65535
      · rw [if_pos hm, if_pos hm]; exact Nat.le_refl _
      · rw [if_neg hm, if_neg hm, encT_append, encT_append, List.length_append, List.length_append]
        obtain ⟨w1, w2, w3⟩ := way_near ok.way hm
        have z1 : ¬ m.id = Kx.zero.id := fun e => by rw [e] at w2; exact absurd w2 (by decide)
        rw [if_neg z1]
        have hi : (encT (if m.id = c.id then [] else [(idD m.id, 6)])).length ≤ (encT [(idD m.id, 6)]).length := by
          split
          · exact Nat.zero_le _
          · exact Nat.le_refl _
        have hn : (encT (if m.next = c.nx (fam m.ae) then [] else [(hopD m.next, 7)])).length ≤ (encT (if m.next = Kx.zero.nx (fam m.ae) then [] else [(hopD m.next, 7)])).length := by
          by_cases e : m.next = c.nx (fam m.ae)
          · rw [if_pos e]; exact Nat.zero_le _
          · rw [if_neg e]
            have : ¬ m.next = Kx.zero.nx (fam m.ae) := fun z => by
              rcases near_next hu hm hb with q | ⟨q, _⟩
              · exact e q
              · rw [z] at q
                have z0 : (Kx.zero.nx (fam m.ae)).size = 0 := by unfold Kx.nx; split <;> rfl
                omega
            rw [if_neg this]; exact Nat.le_refl _
        omega
    rw [om_zero, if_neg (by show ¬ (8 : Int) = 0; decide), if_neg (by show ¬ (8 : Int) = 0; decide)]
    show (encT (wayE c m)).length + (2 + (updD m (omN c m)).size) ≤ (encT (wayE Kx.zero m)).length + (2 + (updD m 0).size)
    omega
  · rw [if_neg k, if_neg k]; exact Nat.le_refl _
end Go.Proofs.YtjhfpobjbijcpaaGreatDoor.L2
namespace Go.Proofs.YtjhfpobjbijcpaaGreatDoor.O1
open Go.ChangeShapes Go.WideShapes Go.ChangeAt Go.RowKit
open Go.Proofs.YtjhfpobjbijcpaaGreatDoor.Ms
open Go.Proofs.YtjhfpobjbijcpaaGreatDoor.K1
open Go.Proofs.YtjhfpobjbijcpaaGreatDoor.I1
open Go.Proofs.YtjhfpobjbijcpaaGreatDoor.I2
open Go.Proofs.YtjhfpobjbijcpaaGreatDoor.L1 (canM)
open Go.Proofs.YtjhfpobjbijcpaaGreatDoor.L2
open Go.Proofs.YtjhfpobjbijcpaaGreatDoor.F1 (T okT okT_nil encT outT outB trail wrap wrap_back wrap_size placed placed_append okT_append encT_append encT_nil)
set_option linter.unusedVariables false
set_option maxRecDepth 100000
set_option maxRecDepth 100000
/-- Messages, one by one, from what is known and written; i: the place. -/
def outW : List M → Kx → List F1.El → Int → ByteArray × Int × Int
  | [], _, a, _ => (wrap ⟨(encT a).toArray⟩, 0, 0)
  | m :: l, c, a, i => if badC c m = true then (ByteArray.empty, i, 9) else if 65531 < (encT (a ++ elsL c m)).length then (ByteArray.empty, i, 10) else outW l (ctxL c m) (a ++ elsL c m) (i + 1)
/-- The first that may not be. -/
def wrongAt : List M → Int → Int
  | [], _ => -1
  | m :: l, i => if okL m = true then wrongAt l (i + 1) else i
/-- The datagram of messages, or why there is none. -/
def outE (l : List M) : ByteArray × Int × Int := if l.all okL = true then outW l Kx.zero [] 0 else (ByteArray.empty, wrongAt l 0, 1)
def plainN : List M → Int
  | [] => 0
  | m :: l => ((encT (elsL Kx.zero m)).length : Int) + plainN l
def outN (l : List M) : Int := if l.all okL = true then 4 + plainN l else 0
theorem wrong_range : ∀ (l : List M) (i : Int), ¬ l.all okL = true → i ≤ wrongAt l i ∧ wrongAt l i < i + l.length
  | [], i, h => absurd rfl h
  | m :: l, i, h => by
      unfold wrongAt
      by_cases hm : okL m = true
      · rw [if_pos hm]
        have := wrong_range l (i + 1) (fun k => h (by rw [List.all_cons, hm, k]; rfl))
        rw [List.length_cons]; push_cast; omega
      · rw [if_neg hm, List.length_cons]; push_cast; omega
theorem plain_nn : ∀ l : List M, 0 ≤ plainN l
  | [] => Int.le_refl 0
  | m :: l => by unfold plainN; have := plain_nn l; omega
/-- How a writing ends: all are written, and read again they are these; or the first error. -/
theorem write_cases : ∀ (l : List M) (c : Kx) (a : List F1.El) (i : Int), l.all okL = true → okC c = true → okT a → (encT a).length ≤ 65531 →
    (∃ b c', okT b ∧ (encT (a ++ b)).length ≤ 65531 ∧ outW l c a i = (wrap ⟨(encT (a ++ b)).toArray⟩, 0, 0) ∧ okC c' = true ∧ (∀ p o, foldI (placed p b) c o = (o ++ l.map canM, c', 0, 0)) ∧ ((encT b).length : Int) ≤ plainN l ∧
      ∀ k, k ≤ l.length → ∃ b1 b2, b = b1 ++ b2 ∧ outW (l.take k) c a i = (wrap ⟨(encT (a ++ b1)).toArray⟩, 0, 0)) ∨
    ∃ j e, (e = 9 ∨ e = 10) ∧ i ≤ j ∧ j < i + l.length ∧ outW l c a i = (ByteArray.empty, j, e)
  | [], c, a, i, _, hc, ha, hz => .inl ⟨[], c, okT_nil, by rw [List.append_nil]; exact hz, by rw [List.append_nil]; rfl, hc, fun p o => by rw [List.map_nil, List.append_nil]; rfl, Int.le_refl _, fun k hk => ⟨[], [], rfl, by rw [List.take_nil, List.append_nil]; rfl⟩⟩
  | m :: l, c, a, i, ho, hc, ha, hz => by
      rw [List.all_cons, Bool.and_eq_true] at ho
      by_cases hb : badC c m = true
      · refine .inr ⟨i, 9, .inl rfl, Int.le_refl _, by rw [List.length_cons]; push_cast; omega, ?_⟩
        show (if _ then _ else _) = _
        rw [if_pos hb]
      have hb' : badC c m = false := by simpa using hb
      by_cases hs : 65531 < (encT (a ++ elsL c m)).length
      · refine .inr ⟨i, 10, .inr rfl, Int.le_refl _, by rw [List.length_cons]; push_cast; omega, ?_⟩
        show (if _ then _ else _) = _
        rw [if_neg hb, if_pos hs]
      have hw : outW (m :: l) c a i = outW l (ctxL c m) (a ++ elsL c m) (i + 1) := by
        show (if _ then _ else _) = _
        rw [if_neg hb, if_neg hs]
      have he := els_ok ho.1 hb'
      rcases write_cases l (ctxL c m) (a ++ elsL c m) (i + 1) ho.2 (put_ok hc ho.1 hb') (okT_append ha he) (by omega) with ⟨b, c', h1, h2, h3, h4, h5, h6, h7⟩ | ⟨j, e, h1, h2, h3, h4⟩
      · refine .inl ⟨elsL c m ++ b, c', okT_append he h1, by rw [← List.append_assoc]; exact h2, by rw [hw, h3, List.append_assoc], h4, fun p o => ?_, ?_, fun k hk => ?_⟩
        · rw [placed_append, fold_app, put_fold ho.1 hb', if_pos rfl, h5, List.map_cons, List.append_assoc]
          rfl
        · rw [encT_append, List.length_append]
          unfold plainN
          have := put_short ho.1 hb'
          push_cast; omega
        · cases k with
          | zero => exact ⟨[], elsL c m ++ b, rfl, by rw [List.take_zero, List.append_nil]; rfl⟩
          | succ k =>
            obtain ⟨b1, b2, e1, e2⟩ := h7 k (by rw [List.length_cons] at hk; omega)
            refine ⟨elsL c m ++ b1, b2, by rw [e1, List.append_assoc], ?_⟩
            rw [List.take_succ_cons, ← List.append_assoc, ← e2]
            show (if _ then _ else _) = _
            rw [if_neg hb, if_neg hs]
      · exact .inr ⟨j, e, h1, by omega, by rw [List.length_cons]; push_cast; omega, by rw [hw]; exact h4⟩
theorem wrap_out {a : List F1.El} (ha : okT a) (hz : (encT a).length ≤ 65531) {r : List M} {c : Kx} (hf : foldI (placed 4 a) Kx.zero [] = (r, c, 0, 0)) : outP (wrap ⟨(encT a).toArray⟩) = (r, 0, 0) ∧ outB (wrap ⟨(encT a).toArray⟩) = (⟨(encT a).toArray⟩, 0, 0) ∧ (wrap ⟨(encT a).toArray⟩).size = 4 + (encT a).length := by
  have hs : (⟨(encT a).toArray⟩ : ByteArray).size = (encT a).length := by show (encT a).toArray.size = _; simp
  have hw := wrap_back (s := ⟨(encT a).toArray⟩) (t := ⟨#[]⟩) (by rw [hs]; show 4 + (encT a).length + 0 ≤ 65535; omega)
  have he : wrap ⟨(encT a).toArray⟩ ++ (⟨#[]⟩ : ByteArray) = wrap ⟨(encT a).toArray⟩ := by
    apply Nu.text_eq; simp
  rw [he] at hw
  obtain ⟨w1, w2, _⟩ := hw
  have h2 : outT 4 ⟨(encT a).toArray⟩ = (placed 4 a, 0, 0) := F1.out_yes ha rfl
  refine ⟨?_, w1, by rw [wrap_size (by rw [hs]; exact hz), hs]⟩
  rw [outP_4 w1 (by rw [h2]) (by rw [w2, F1.out_yes (l := []) okT_nil rfl]), h2, show outI (placed 4 a) = foldI (placed 4 a) Kx.zero [] from rfl, hf]
/-- How Encode ends. -/
theorem enc_cases (l : List M) : (l.all okL = true ∧ ∃ a c, okT a ∧ (encT a).length ≤ 65531 ∧ outE l = (wrap ⟨(encT a).toArray⟩, 0, 0) ∧ okC c = true ∧ outP (wrap ⟨(encT a).toArray⟩) = (l.map canM, 0, 0) ∧ outB (wrap ⟨(encT a).toArray⟩) = (⟨(encT a).toArray⟩, 0, 0) ∧
      (wrap ⟨(encT a).toArray⟩).size = 4 + (encT a).length ∧ ((encT a).length : Int) + 4 ≤ outN l ∧
      ∀ k, k ≤ l.length → ∃ a1 a2, a = a1 ++ a2 ∧ outE (l.take k) = (wrap ⟨(encT a1).toArray⟩, 0, 0)) ∨
    (l.all okL = true ∧ ∃ (j e : Int), (e = 9 ∨ e = 10) ∧ 0 ≤ j ∧ j < l.length ∧ outE l = (ByteArray.empty, j, e)) ∨
    (¬ l.all okL = true ∧ outN l = 0 ∧ ∃ j, 0 ≤ j ∧ j < (l.length : Int) ∧ outE l = (ByteArray.empty, j, 1)) := by
  by_cases ho : l.all okL = true
  rotate_left
  · refine .inr (.inr ⟨ho, by unfold outN; rw [if_neg ho], wrongAt l 0, ?_⟩)
    have := wrong_range l 0 ho
    exact ⟨this.1, by omega, by unfold outE; rw [if_neg ho]⟩
  rcases write_cases l Kx.zero [] 0 ho okc_zero okT_nil (by rw [encT_nil]; exact Nat.zero_le _) with ⟨b, c', h1, h2, h3, h4, h5, h6, h7⟩ | ⟨j, e, h1, h2, h3, h4⟩
  · refine .inl ⟨ho, b, c', h1, h2, by unfold outE; rw [if_pos ho]; exact h3, h4, ?_⟩
    have hf := h5 4 []
    rw [List.nil_append] at hf
    obtain ⟨p1, p2, p3⟩ := wrap_out h1 h2 hf
    refine ⟨p1, p2, p3, by unfold outN; rw [if_pos ho]; omega, fun k hk => ?_⟩
    obtain ⟨b1, b2, e1, e2⟩ := h7 k hk
    refine ⟨b1, b2, e1, ?_⟩
    unfold outE
    rw [if_pos (by rw [List.all_eq_true] at ho ⊢; exact fun x hx => ho x (List.mem_of_mem_take hx))]
    exact e2
  · exact .inr (.inl ⟨ho, j, e, h1, h2, by omega, by unfold outE; rw [if_pos ho]; exact h4⟩)
end Go.Proofs.YtjhfpobjbijcpaaGreatDoor.O1
