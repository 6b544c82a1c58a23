/-
  A list of messages that came in, opened: each stands in the world, its prefix isn't too long, the list has room; its first messages; two lists told apart. No conditions.
  What is read of a datagram can be written: it is read as the same, and written as it was. No conditions.
-/
import Derived.Test.YtjhfpobjbijcpaaGreatDoorB15
import Derived.Test.YtjhfpobjbijcpaaGreatDoorB18
import Derived.Test.YtjhfpobjbijcpaaGreatDoorB19
import Derived.Test.YtjhfpobjbijcpaaGreatDoorB33
namespace Go.Proofs.YtjhfpobjbijcpaaGreatDoor.Ol
open Go.ChangeShapes Go.WideShapes Go.ChangeAt Go.RowKit Go.Deep
open Go.Proofs.YtjhfpobjbijcpaaGreatDoor.Ms
open Go.Proofs.YtjhfpobjbijcpaaGreatDoor.Box
open Go.Proofs.YtjhfpobjbijcpaaGreatDoor.Few
open Go.Proofs.YtjhfpobjbijcpaaGreatDoor.All
open Go.Proofs.YtjhfpobjbijcpaaGreatDoor.Open
open Go.Proofs.YtjhfpobjbijcpaaGreatDoor.Kb (open_msgP)
open Go.Proofs.YtjhfpobjbijcpaaGreatDoor.O3 (Sp)
set_option linter.unusedVariables false
set_option maxRecDepth 100000
section
variable {H : Type} {enc : TypeId × Value → H} {W : World}
theorem by_listP {base : Nat} {v : Value} {d : DataW H} {p : List MemPlace} (hv : Value.okWide Tryz.prog W .any base 22 v) (h : DataW.Trod enc Tryz.prog W 0 (fun _ => true) true 22 v d p) :
    ∃ (a : Option Addr) (l : List M) (c : Nat), v = .slice a l.length c ∧ MRow W a l ∧ l.length ≤ 9223372036854775807 ∧ l.length ≤ c ∧ ∀ m ∈ l, m.pfx.size ≤ maxLen := by
  obtain ⟨fuel, hf⟩ := h
  have hvc := okWide_slice Tryz.underlying22 hv
  obtain ⟨va, vn, vc, rfl⟩ := hvc
  rcases open_slice Tryz.underlying22 hf with h0 | ⟨a, len, cap, m, n, D, Pl, hcs, hb, hl, hm, hmm, hx, hi⟩
  · have e := h0.1
    simp [Value.cells] at e
    obtain ⟨rfl, rfl, rfl⟩ := e
    exact ⟨none, [], 0, rfl, MRow.nil _ _, by simp, Nat.le_refl _, fun m hm => absurd hm (by simp)⟩
  · simp [Value.cells] at hcs
    obtain ⟨rfl, rfl, rfl⟩ := hcs
    obtain ⟨l, hll, hr⟩ := els (n := vn) (R := fun i (u : M) => (∀ j v, (u.cells.toList)[j]? = some v → W.cell? ((a.add (i * 25)).add j) = some v) ∧ DRow W u.la u.ll ∧ SRow W u.sa u.sl ∧ u.pfx.size ≤ maxLen) (fun i hin => by
      obtain ⟨cs', hc, ht'⟩ := hi i (by rw [hmm]; split <;> omega)
      rw [cellsM] at hc
      obtain ⟨u, rfl, hd, hs, hp⟩ := open_msgP ht'
      obtain ⟨_, hcl, hat⟩ := World.cells?_some hc
      refine ⟨u, fun j v hv => ?_, hd, hs, hp⟩
      have hj : j < 25 := by
        have := (List.getElem?_eq_some_iff.1 hv).1
        simpa [M.cells] using this
      rw [hat j hj]; exact hv)
    refine ⟨some a, l, vc, by rw [hll], fun i hin => ⟨a, rfl, ?_, (hr i hin).1, (hr i hin).2.1, (hr i hin).2.2.1⟩, by unfold maxLen at hm; omega, by omega, fun m hm => ?_⟩
    · have := block_lt_of_cell ((hr i hin).1 0 _ rfl)
      rwa [add_block, add_block] at this
    · obtain ⟨i, hi, rfl⟩ := List.getElem_of_mem hm
      exact (hr i hi).2.2.2
end
theorem few_all {l : List M} {n : Int} (h : fewL l n = true) (hp : ∀ m ∈ l, m.pfx.size ≤ maxLen) : (l.length : Int) ≤ n ∧ ∀ m ∈ l, Sp m := by
  unfold fewL at h
  simp only [Bool.and_eq_true, decide_eq_true_eq] at h
  exact ⟨h.1, fun m hm => Sp.few (List.all_eq_true.1 h.2 m hm) (hp m hm)⟩
end Go.Proofs.YtjhfpobjbijcpaaGreatDoor.Ol
namespace Go.Proofs.YtjhfpobjbijcpaaGreatDoor.O2
open Go.ChangeShapes Go.WideShapes Go.ChangeAt Go.RowKit
open Go.Proofs.YtjhfpobjbijcpaaGreatDoor.Ms
open Go.Proofs.YtjhfpobjbijcpaaGreatDoor.S1 (okS outS putS)
open Go.Proofs.YtjhfpobjbijcpaaGreatDoor.G1 (outF okF typF datF)
open Go.Proofs.YtjhfpobjbijcpaaGreatDoor.J1
open Go.Proofs.YtjhfpobjbijcpaaGreatDoor.K1
open Go.Proofs.YtjhfpobjbijcpaaGreatDoor.I1
open Go.Proofs.YtjhfpobjbijcpaaGreatDoor.I2
open Go.Proofs.YtjhfpobjbijcpaaGreatDoor.L1
open Go.Proofs.YtjhfpobjbijcpaaGreatDoor.Lk
open Go.Proofs.YtjhfpobjbijcpaaGreatDoor.L2
open Go.Proofs.YtjhfpobjbijcpaaGreatDoor.O1
open Go.Proofs.YtjhfpobjbijcpaaGreatDoor.F1 (T okT okT_nil encT enc1 outT outB trail wrap placed placed_append okT_append encT_append encT_nil encT_cons enc1_len bt bt_nn bt_lt)
open Go.Proofs.YtjhfpobjbijcpaaGreatDoor.Nu
set_option linter.unusedVariables false
set_option maxRecDepth 100000
set_option maxRecDepth 100000
/-- What the one knows of a next hop, the other knows too. -/
def Known (e p : Kx) : Prop := ∀ f, ¬ (e.nx f).size = 0 → ¬ (p.nx f).size = 0
theorem known_trans {a b c : Kx} (h : Known a b) (k : Known b c) : Known a c := fun f hf => k f (h f hf)
theorem nx_setN (c : Kx) (g f : Int) (a : ByteArray) : (c.setN g a).nx f = a ∨ (c.setN g a).nx f = c.nx f := by
  unfold Kx.setN Kx.nx
  by_cases h : g = 1 <;> by_cases k : f = 1 <;> simp [h, k]
theorem nx_other (c : Kx) (g f : Int) (a : ByteArray) : ((g = 1 ↔ f = 1) ∧ (c.setN g a).nx f = a) ∨ (¬ (g = 1 ↔ f = 1) ∧ (c.setN g a).nx f = c.nx f) := by
  unfold Kx.setN Kx.nx
  by_cases h : g = 1 <;> by_cases k : f = 1 <;> simp [h, k]
theorem nx_setP (c : Kx) (ae f : Int) (a : ByteArray) : (c.setP ae a).nx f = c.nx f := by unfold Kx.setP Kx.nx; (repeat' split) <;> rfl
theorem nx_flag (c : Kx) (u : Up) (a : ByteArray) (f : Int) : (flagC c u a).nx f = c.nx f := by
  have hp := nx_setP c u.ae f a
  have hi : ∀ (x : Kx) (y : ByteArray), ({ x with id := y } : Kx).nx f = x.nx f := fun x y => rfl
  unfold flagC
  split
  · rfl
  split
  · rw [hi]; split
    · exact hp
    · rfl
  split
  · exact hp
  · rfl
/-- What a TLV that changes what is known leaves known; what it tells. -/
theorem told8 {c c' : Kx} {t : Int} {d : ByteArray} {r : List M} (hc : okC c = true) (h : outC c t d = (c', r, 0)) :
    Known c c' ∧ (r = [] ∨ ∃ m, r = [m] ∧ okU m = true ∧ 10 ≤ d.size ∧ (¬ m.metric = 65535 → m.next = c'.nx (fam m.ae))) := by
  have hg := (out_good t d hc).told
  rw [h] at hg
  unfold outC at h
  by_cases h6 : t = 6
  · rw [if_pos h6] at h
    unfold out6 at h
    split at h <;> (injection h with h1 h2; injection h2 with h2 h3; subst h1; subst h2)
    · exact ⟨fun f hf => hf, .inl rfl⟩
    · exact ⟨fun f hf => hf, .inl rfl⟩
  rw [if_neg h6] at h
  by_cases h7 : t = 7
  · rw [if_pos h7] at h
    unfold out7 at h
    by_cases k1 : d.size < 2
    · rw [if_pos k1] at h; injection h with h1 h2; injection h2 with h2 h3; cases h3
    rw [if_neg k1] at h
    by_cases k2 : bt d 0 = 0 ∨ 3 < bt d 0
    · rw [if_pos k2] at h; injection h with h1 h2; injection h2 with h2 h3; subst h1; subst h2
      exact ⟨fun f hf => hf, .inl rfl⟩
    rw [if_neg k2] at h
    by_cases k : (fixO d (2 + sizeA (bt d 0))).2 = 0 ∧ (fixO d (2 + sizeA (bt d 0))).1 = true
    · rw [if_pos k] at h; injection h with h1 h2; injection h2 with h2 h3; subst h1; subst h2
      have hz : ¬ d.size < 2 + sizeA (bt d 0) := fun h => by rw [fix_short h] at k; cases k.2
      have := bt_nn d 0
      have hs := hop_size (ae := bt d 0) (d := d) (by omega) (by omega) hz
      refine ⟨fun f hf => ?_, .inl rfl⟩
      rcases nx_setN c (fam (bt d 0)) f (hopA (bt d 0) d) with e | e
      · rw [e, hs]; split <;> omega
      · rw [e]; exact hf
    · rw [if_neg k] at h; injection h with h1 h2; injection h2 with h2 h3; subst h1; subst h2
      exact ⟨fun f hf => hf, .inl rfl⟩
  rw [if_neg h7] at h
  rcases outK_cases d with ⟨e, hk⟩ | ⟨x, g, hk⟩
  · rw [out8_no hk] at h; injection h with h1 h2; injection h2 with h2 h3; subst h1; subst h2
    exact ⟨fun f hf => hf, .inl rfl⟩
  have h10 : 10 ≤ d.size := by have := g.size; unfold restN at this; omega
  rw [out8_yes hk] at h
  generalize hu : ({ hdK d with hav := if x.known then 1 else 0, bytes := x.bytes, sl := x.sl } : Up) = u at h
  by_cases hx : 0 < u.om ∧ (c.pf u.ae).size = 0
  · rw [stU_err hx] at h; injection h with h1 h2; injection h2 with h2 h3; cases h3
  rw [stU_yes hx] at h
  injection h with h1 h2; injection h2 with h2 h3
  subst h1
  refine ⟨fun f hf => by rw [nx_flag]; exact hf, ?_⟩
  by_cases ht : tellB (flagC c u (adrC c u)) u = true
  · rw [if_pos ht] at h2
    subst h2
    rcases hg with hg | ⟨m, hm, ho, _⟩
    · cases hg
    · refine .inr ⟨m, hm, ho, h10, fun hm2 => ?_⟩
      have hm : updM (flagC c u (adrC c u)) u (adrC c u) = m := by have : [_] = [_] := hm; injection this
      subst hm
      have hmu : ¬ u.metric = 65535 := hm2
      show (if u.metric = 65535 then ByteArray.empty else _) = _
      rw [if_neg hmu]; rfl
  · rw [if_neg ht] at h2
    exact .inl h2.symm
/-- What one TLV leaves known; what it tells may be said, in few bytes. -/
theorem one_told {c c' : Kx} {t : Int} {d : ByteArray} {r : List M} (hc : okC c = true) (ht : 0 ≤ t) (ht2 : t ≤ 255) (hd : d.size ≤ 255) (h : one c t d = (c', r, 0)) :
    Known c c' ∧ (r = [] ∨ ∃ m, r = [m] ∧ okL m = true ∧ ¬ t = 0 ∧ (∀ e : Kx, (encT (elsL e m)).length ≤ 30 * (2 + d.size)) ∧ (m.kind = 11 → ¬ m.metric = 65535 → m.next = c'.nx (fam m.ae))) := by
  by_cases h0 : t = 0 ∨ t = 1
  · rw [one_pad h0] at h; injection h with h1 h2; injection h2 with h2 h3; subst h1; subst h2
    exact ⟨fun f hf => hf, .inl rfl⟩
  by_cases h1 : 2 ≤ t ∧ t ≤ 5
  · rw [one_f h1.1 h1.2] at h
    unfold tell at h
    injection h with e1 e2; injection e2 with e2 e3; subst e1
    refine ⟨fun f hf => hf, ?_⟩
    rcases G1.out_cases (d := d) h1.1 h1.2 with ⟨e, k⟩ | ⟨m, k, ho, hz, _⟩
    · rw [k, if_neg (by simp)] at e2; exact .inl e2.symm
    · rw [k, if_pos ⟨rfl, rfl⟩] at e2
      have hl : okL m = true := by unfold okL; rw [ho]; rfl
      have hk := kind_F ho
      refine .inr ⟨m, e2.symm, hl, by omega, fun e => ?_, fun q => by omega⟩
      unfold elsL
      rw [if_neg (by omega)]
      have : (encT [othE m]).length = (G1.putF m).size := by
        unfold othE
        rw [if_pos ho, len_one, ← (G1.putF_ok ho).1]; exact J1.size_list _
      omega
  by_cases h2 : 6 ≤ t ∧ t ≤ 8
  · rw [one_c h2.1 h2.2] at h
    obtain ⟨g1, g2⟩ := told8 hc h
    refine ⟨g1, ?_⟩
    rcases g2 with g2 | ⟨m, hm, ho, hz, hn⟩
    · exact .inl g2
    have hl : okL m = true := by unfold okL; rw [ho]; simp
    refine .inr ⟨m, hm, hl, by omega, fun e => ?_, fun _ => hn⟩
    have ok := (oku_iff m).1 ho
    unfold elsL
    rw [if_pos ok.kind, encT_append, List.length_append, len_one, enc1_len, if_neg (by show ¬ (8 : Int) = 0; decide)]
    have s1 := (upd_size ho (om_le (c := e) ho).1).2
    have hw : (encT (wayE e m)).length ≤ 32 := by
      unfold wayE
      by_cases hm : m.metric = 65535
      · rw [if_pos hm]; exact Nat.zero_le _
      · rw [if_neg hm, encT_append, List.length_append]
        obtain ⟨w1, w2, w3⟩ := way_near ok.way hm
        have a1 : (encT (if m.id = e.id then [] else [(idD m.id, 6)])).length ≤ 12 := by
          split
          · exact Nat.zero_le _
          · rw [len_one, enc1_len, if_neg (by show ¬ (6 : Int) = 0; decide)]
            have := (id_ok w2).2
            show 2 + (idD m.id).size ≤ 12
            omega
        have a2 : (encT (if m.next = e.nx (fam m.ae) then [] else [(hopD m.next, 7)])).length ≤ 20 := by
          split
          · exact Nat.zero_le _
          · rename_i hne
            rw [len_one, enc1_len, if_neg (by show ¬ (7 : Int) = 0; decide)]
            show 2 + (hopD m.next).size ≤ 20
            rcases w3 with q | q
            · have : (hopD m.next).size ≤ 18 := by
                show (layN (hopE m.next) 1 ++ (0 :: (hopS m.next).data.toList)).toArray.size ≤ 18
                have hl : link m.next = false := by
                  rcases hlk : link m.next with _ | _
                  · rfl
                  · have := link_size hlk; omega
                have e1 : hopE m.next = 2 := by unfold hopE; rw [if_neg (by omega), if_neg (by rw [hl]; decide)]
                have e2 : hopS m.next = m.next := by unfold hopS; rw [if_neg (by omega), if_neg (by rw [hl]; decide)]
                obtain ⟨ca, ha, _⟩ := lay_one (v := 2) (by omega) (by omega)
                rw [e1, e2, ha]; simp; omega
              omega
            · have : m.next.size = 4 ∨ m.next.size = 16 := by
                have hf : ¬ fam m.ae = -1 := by
                  obtain ⟨a0, a1, _, _⟩ := len_range (in_cases ok.pfx).1
                  unfold fam
                  rcases (show m.ae = 1 ∨ m.ae = 2 ∨ m.ae = 3 by omega) with k | k | k <;> rw [k] <;> decide
                unfold famA at q
                by_cases h4 : m.next.size = 4
                · exact .inl h4
                · by_cases h16 : m.next.size = 16
                  · exact .inr h16
                  · rw [if_neg h4, if_neg h16] at q; exact absurd q.symm hf
              have := (L1.hop_size this).2
              omega
        omega
    show (encT (wayE e m)).length + (2 + (updD m (omN e m)).size) ≤ _
    omega
  by_cases h3 : t = 9 ∨ t = 10
  · rw [one_j h3] at h
    unfold tell at h
    injection h with e1 e2; injection e2 with e2 e3; subst e1
    refine ⟨fun f hf => hf, ?_⟩
    rcases J1.out_cases (d := d) h3 with ⟨e, k⟩ | ⟨x, g, _, _, k, ho, hz⟩
    · rw [k, if_neg (by simp)] at e2; exact .inl e2.symm
    · rw [k, if_pos ⟨rfl, rfl⟩] at e2
      generalize ({ hdJ t d with pfx := wholeP (bt d 0) x.bytes (bt d 1), sl := x.sl } : M) = m at *
      have hl : okL m = true := by unfold okL; rw [ho]; simp
      have hk := kind_J ho
      refine .inr ⟨m, e2.symm, hl, by omega, fun e => ?_, fun q => by omega⟩
      unfold elsL
      rw [if_neg (by omega)]
      have nF : okF m = false := by
        rcases hF : okF m with _ | _
        · rfl
        · have := kind_F hF; omega
      have : (encT [othE m]).length = (J1.putJ m).size := by
        unfold othE
        rw [if_neg (by rw [nF]; decide), if_pos ho, len_one, ← (J1.putJ_ok ho).1]; exact J1.size_list _
      omega
  · rw [one_o (by omega)] at h
    injection h with e1 e2; injection e2 with e2 e3; subst e1; subst e2
    refine ⟨fun f hf => hf, .inr ⟨_, rfl, ?_, by omega, fun e => ?_, fun q => absurd q (by show ¬ (14 : Int) = 11; decide)⟩⟩
    · have hb : bare (opM t d) = true := by
        unfold bare
        rw [(is_14 (m := opM t d) rfl).1, (is_14 (m := opM t d) rfl).2]
        unfold M.same M.flatE Own.k14 opM M.zero
        simp
      have ho : okO (opM t d) = true := by
        unfold okO
        rw [hb]
        show (decide ((14 : Int) = 14) && (true && (decide (11 ≤ t) && (decide (t ≤ 255) && decide (d.size ≤ 255))))) = true
        rw [decide_eq_true (show 11 ≤ t by omega), decide_eq_true ht2, decide_eq_true hd]; rfl
      unfold okL; rw [ho]; simp
    · unfold elsL
      rw [if_neg (by show ¬ (14 : Int) = 11; decide)]
      have nF : okF (opM t d) = false := by
        rcases hF : okF (opM t d) with _ | _
        · rfl
        · have := kind_F hF; have h14 : (opM t d).kind = 14 := rfl; omega
      have nJ : okJ (opM t d) = false := by
        rcases hJ : okJ (opM t d) with _ | _
        · rfl
        · have := kind_J hJ; have h14 : (opM t d).kind = 14 := rfl; omega
      unfold othE
      rw [if_neg (by rw [nF]; decide), if_neg (by rw [nJ]; decide), len_one, enc1_len]
      show (if t = 0 then 1 else 2 + d.size) ≤ _
      split <;> omega
/-- All that is told can be said. -/
theorem said : ∀ (ts : List T) (cP cE : Kx) (o : List M) (a : List F1.El) (i : Int), okC cP = true → Known cE cP → (foldI ts cP o).2.2.2 = 0 → (∀ x ∈ ts, 0 ≤ x.2.2 ∧ x.2.2 ≤ 255 ∧ x.2.1.size ≤ 255) →
    (encT a).length + 30 * (encT (ts.map (·.2))).length ≤ 65531 → ∃ r, (foldI ts cP o).1 = o ++ r ∧ r.all okL = true ∧ (outW r cE a i).2.2 = 0
  | [], cP, cE, o, a, i, _, _, _, _, _ => ⟨[], by rw [List.append_nil]; rfl, rfl, rfl⟩
  | x :: ts, cP, cE, o, a, i, hc, hk, h0, hx, hz => by
      have hx1 := hx x (by simp)
      have hxs : ∀ y ∈ ts, 0 ≤ y.2.2 ∧ y.2.2 ≤ 255 ∧ y.2.1.size ≤ 255 := fun y hy => hx y (by simp [hy])
      have hlen : (encT ((x :: ts).map (·.2))).length = (if x.2.2 = 0 then 1 else 2 + x.2.1.size) + (encT (ts.map (·.2))).length := by
        rw [List.map_cons, encT_cons, List.length_append, enc1_len]
      rw [hlen] at hz
      by_cases h1 : (one cP x.2.2 x.2.1).2.2 = 0
      rotate_left
      · rw [fold_err h1] at h0; exact absurd h0 h1
      rcases hp : one cP x.2.2 x.2.1 with ⟨c', r, e⟩
      rw [hp] at h1
      obtain rfl : e = 0 := h1
      have g := one_fine hc x.2.2 x.2.1
      rw [hp] at g
      rw [fold_ok hp] at h0 ⊢
      obtain ⟨k1, k2⟩ := one_told hc hx1.1 hx1.2.1 hx1.2.2 hp
      rcases k2 with k2 | ⟨m, hm, hl, ht, hs, hn⟩
      · subst k2
        rw [List.append_nil] at h0 ⊢
        exact said ts c' cE o a i g.ok (known_trans hk k1) h0 hxs (by omega)
      subst hm
      have hs := hs cE
      rw [if_neg ht] at hz
      have hb : badC cE m = false := by
        rcases hb : badC cE m with _ | _
        · rfl
        exfalso
        unfold badC at hb
        simp only [Bool.and_eq_true, decide_eq_true_eq, Bool.not_eq_true', decide_eq_false_iff_not] at hb
        obtain ⟨b1, b2, b3, b4⟩ := hb
        have := known_trans hk k1 _ b4
        rw [← hn b1 b2] at this
        exact this b3
      have hkn : Known (ctxL cE m) c' := by
        unfold ctxL
        by_cases k : m.kind = 11
        · rw [if_pos k]
          intro f hf
          have e : (knowP (wayC cE m) m).nx f = (wayC cE m).nx f := by
            unfold knowP
            split
            · rfl
            · exact nx_setP _ _ _ _
          rw [e] at hf
          unfold wayC at hf
          by_cases hm : m.metric = 65535
          · rw [if_pos hm] at hf
            exact known_trans hk k1 f hf
          · rw [if_neg hm] at hf
            rcases nx_other ({ cE with id := m.id } : Kx) (fam m.ae) f m.next with ⟨q1, q2⟩ | ⟨_, q2⟩
            · rw [q2, hn k hm] at hf
              have : c'.nx (fam m.ae) = c'.nx f := by
                unfold Kx.nx
                by_cases w : f = 1
                · rw [if_pos (q1.2 w), if_pos w]
                · rw [if_neg (fun z => w (q1.1 z)), if_neg w]
              rw [this] at hf
              exact hf
            · rw [q2] at hf
              exact known_trans hk k1 f hf
        · rw [if_neg k]
          exact known_trans hk k1
      obtain ⟨r, e1, e2, e3⟩ := said ts c' (ctxL cE m) (o ++ [m]) (a ++ elsL cE m) (i + 1) g.ok hkn h0 hxs (by rw [encT_append, List.length_append]; omega)
      refine ⟨m :: r, by rw [e1, List.append_assoc]; rfl, by rw [List.all_cons, hl, e2]; rfl, ?_⟩
      show (if _ then _ else if _ then _ else _ : ByteArray × Int × Int).2.2 = 0
      rw [if_neg (by rw [hb]; decide), if_neg (by rw [encT_append, List.length_append]; omega)]
      exact e3
/-- As it comes back: the same, but for where its lists lie. -/
theorem can_eq {m : M} (h : okL m = true) : canM m = { m with la := none, ll := [], lc := 0, sa := none, sc := 0 } := by
  obtain ⟨h1, h2, h3, h4, h5⟩ := can_same h
  unfold M.same M.flatE at h1
  simp only [bytes_beq, Bool.and_eq_true, decide_eq_true_eq] at h1
  have hs : (canM m).sa = none := rfl
  have hc : (canM m).sc = 0 := rfl
  rcases hq : canM m with ⟨⟩
  rw [hq] at h1 h2 h3 h4 h5 hs hc
  simp only at h1 h2 h3 h4 h5 hs hc
  simp_all
/-- All that is told may be said. -/
theorem told_ok : ∀ (ts : List T) (c : Kx) (o : List M), okC c = true → o.all okL = true → (∀ x ∈ ts, 0 ≤ x.2.2 ∧ x.2.2 ≤ 255 ∧ x.2.1.size ≤ 255) → (foldI ts c o).1.all okL = true
  | [], c, o, _, ho, _ => ho
  | x :: ts, c, o, hc, ho, hx => by
      have hx1 := hx x (by simp)
      by_cases h1 : (one c x.2.2 x.2.1).2.2 = 0
      rotate_left
      · rw [fold_err h1]; rfl
      rcases hp : one c x.2.2 x.2.1 with ⟨c', r, e⟩
      rw [hp] at h1
      obtain rfl : e = 0 := h1
      have g := one_fine hc x.2.2 x.2.1
      rw [hp] at g
      rw [fold_ok hp]
      refine told_ok ts c' (o ++ r) g.ok ?_ (fun y hy => hx y (by simp [hy]))
      rw [List.all_append, ho, Bool.true_and]
      rcases (one_told hc hx1.1 hx1.2.1 hx1.2.2 hp).2 with k | ⟨m, hm, hl, _⟩
      · rw [k]; rfl
      · rw [hm, List.all_cons, hl]; rfl
theorem placed_ok {l : List F1.El} (h : okT l) (p : Int) : ∀ x ∈ placed p l, 0 ≤ x.2.2 ∧ x.2.2 ≤ 255 ∧ x.2.1.size ≤ 255 := fun x hx => by
  have h := h x.2 (by rw [← placed_map l p]; exact List.mem_map_of_mem hx)
  exact ⟨h.1, h.2.1, h.2.2.1⟩
theorem els_can {m : M} (h : okL m = true) (h' : okL (canM m) = true) (c : Kx) : badC c (canM m) = badC c m ∧ elsL c (canM m) = elsL c m ∧ ctxL c (canM m) = ctxL c m := by
  have ho : ¬ m.kind = 11 → othE (canM m) = othE m := fun k => by
    have hk : (canM m).kind = m.kind := by rw [can_eq h]
    have e1 : datF (canM m) = datF m ∧ typF (canM m) = typF m := by rw [can_eq h]; exact ⟨rfl, rfl⟩
    have e2 : datJ (canM m) = datJ m ∧ typJ (canM m) = typJ m := by rw [can_eq h]; exact ⟨rfl, rfl⟩
    have e3 : (canM m).data = m.data ∧ (canM m).typ = m.typ := by rw [can_eq h]; exact ⟨rfl, rfl⟩
    unfold othE
    rw [e1.1, e1.2, e2.1, e2.2, e3.1, e3.2]
    rcases ok_not h k with a | ⟨a, b⟩ | ⟨a, b, d⟩ <;> rcases ok_not h' (by rw [hk]; exact k) with a' | ⟨a', b'⟩ | ⟨a', b', d'⟩
    · rw [a, a', if_pos rfl, if_pos rfl]
    · have := kind_F a; have := kind_J b'; omega
    · have := kind_F a; have := (o_parts d').1; omega
    · have := kind_F a'; have := kind_J b; omega
    · rw [a, a', b, b']
    · have := kind_J b; have := (o_parts d').1; omega
    · have := kind_F a'; have := (o_parts d).1; omega
    · have := kind_J b'; have := (o_parts d).1; omega
    · rw [a, a', b, b']
  refine ⟨by rw [can_eq h]; rfl, ?_, by rw [can_eq h]; rfl⟩
  by_cases k : m.kind = 11
  · have k' : (canM m).kind = 11 := by rw [can_eq h]; exact k
    unfold elsL
    rw [if_pos k, if_pos k', can_eq h]
    rfl
  · have k' : ¬ (canM m).kind = 11 := by rw [can_eq h]; exact k
    unfold elsL
    rw [if_neg k, if_neg k', ho k]
theorem out_can : ∀ (l : List M) (c : Kx) (a : List F1.El) (i : Int), l.all okL = true → (l.map canM).all okL = true → outW (l.map canM) c a i = outW l c a i
  | [], c, a, i, _, _ => rfl
  | m :: l, c, a, i, h, h' => by
      rw [List.all_cons, Bool.and_eq_true] at h
      rw [List.map_cons, List.all_cons, Bool.and_eq_true] at h'
      obtain ⟨e1, e2, e3⟩ := els_can h.1 h'.1 c
      show (if badC c (canM m) = true then _ else if 65531 < (encT (a ++ elsL c (canM m))).length then _ else outW (l.map canM) (ctxL c (canM m)) (a ++ elsL c (canM m)) (i + 1)) = (if badC c m = true then _ else if 65531 < (encT (a ++ elsL c m)).length then _ else outW l (ctxL c m) (a ++ elsL c m) (i + 1))
      rw [e1, e2, e3, out_can l _ _ _ h.2 h'.2]
/-- What is read of any bytes is written, read as the same, and written again as it was. -/
theorem again {b : ByteArray} (hb : b.size ≤ 2000) (h : (outP b).2.2 = 0) : ∃ s, outE (outP b).1 = (s, 0, 0) ∧ (outP b).1.all okL = true ∧ outP s = ((outP b).1.map canM, 0, 0) ∧ outE ((outP b).1.map canM) = (s, 0, 0) ∧ ((s.size : Int) ≤ 65535) ∧ ((s.size : Int) ≤ outN (outP b).1) := by
  obtain ⟨s, l, hh, h1, ho, hs, h2, h3, h4, h5⟩ := outP_ok h
  have hz : s.size ≤ b.size := by
    rcases outB_two b with ⟨i, e, he, q⟩ | ⟨s', _, q, hz⟩
    · rw [h1] at q; injection q with _ q; injection q with _ q; exact absurd q.symm he
    · rw [h1] at q; injection q with q; rw [q]; exact hz
  have hl : (encT l).length = s.size := by rw [← hs]; exact J1.size_list _
  obtain ⟨r, r1, r2, r3⟩ := said (placed 4 l) Kx.zero Kx.zero [] [] 0 okc_zero (fun f hf => hf) h4 (placed_ok ho 4) (by rw [placed_map, encT_nil]; simp only [List.length_nil]; omega)
  rw [List.nil_append] at r1
  have hr : (outP b).1 = r := by rw [h5]; exact r1
  rw [hr]
  have he : (outE r).2.2 = 0 := by unfold outE; rw [if_pos r2]; exact r3
  rcases enc_cases r with ⟨_, a, c, a1, a2, a3, a4, a5, a6, a7, a8, _⟩ | ⟨_, j, e, he1, _, _, a3⟩ | ⟨n, _⟩
  · refine ⟨_, a3, r2, a5, ?_, by omega, by omega⟩
    have hall : (r.map canM).all okL = true := by
      obtain ⟨s2, l2, _, q1, qo, qs, q2, q3, q4, q5⟩ := outP_ok (b := wrap ⟨(encT a).toArray⟩) (by rw [a5])
      have := told_ok (placed 4 l2) Kx.zero [] okc_zero rfl (placed_ok qo 4)
      rw [show (foldI (placed 4 l2) Kx.zero []).1 = (outP (wrap ⟨(encT a).toArray⟩)).1 by rw [q5]; rfl, a5] at this
      exact this
    unfold outE at a3 ⊢
    rw [if_pos hall, out_can r _ _ _ r2 hall]
    rw [if_pos r2] at a3
    exact a3
  · rw [a3] at he
    exfalso
    have : e = 0 := he
    omega
  · exact absurd r2 n
/-- They are the same. -/
theorem can_all {l : List M} (h : l.all okL = true) : ∀ m ∈ l, M.same m (canM m) = true := fun m hm => (can_same (List.all_eq_true.1 h m hm)).1
end Go.Proofs.YtjhfpobjbijcpaaGreatDoor.O2
