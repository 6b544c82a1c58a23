/-
  Messages that stand elsewhere have the same datagram; what may be is not long. No conditions.
-/
import Derived.Test.YtjhfpobjbijcpaaGreatDoorB19
import Derived.Test.YtjhfpobjbijcpaaGreatDoorB20
import Derived.Test.YtjhfpobjbijcpaaGreatDoorB33
import Derived.Test.YtjhfpobjbijcpaaGreatDoorB46
namespace Go.Proofs.YtjhfpobjbijcpaaGreatDoor.O7
open Go.ChangeShapes Go.WideShapes Go.ChangeAt Go.RowKit
open Go.Proofs.YtjhfpobjbijcpaaGreatDoor.Ms
open Go.Proofs.YtjhfpobjbijcpaaGreatDoor.Own
open Go.Proofs.YtjhfpobjbijcpaaGreatDoor.All
open Go.Proofs.YtjhfpobjbijcpaaGreatDoor.An
open Go.Proofs.YtjhfpobjbijcpaaGreatDoor.G1 (bare okF)
open Go.Proofs.YtjhfpobjbijcpaaGreatDoor.J1 (okJ)
open Go.Proofs.YtjhfpobjbijcpaaGreatDoor.K1
open Go.Proofs.YtjhfpobjbijcpaaGreatDoor.Kb
open Go.Proofs.YtjhfpobjbijcpaaGreatDoor.L1 (canM oku_iff)
open Go.Proofs.YtjhfpobjbijcpaaGreatDoor.I1 (Sml)
open Go.Proofs.YtjhfpobjbijcpaaGreatDoor.L2
open Go.Proofs.YtjhfpobjbijcpaaGreatDoor.O1
open Go.Proofs.YtjhfpobjbijcpaaGreatDoor.O2
open Go.Proofs.YtjhfpobjbijcpaaGreatDoor.O3
open Go.Proofs.YtjhfpobjbijcpaaGreatDoor.F1 (encT)
set_option linter.unusedVariables false
set_option maxRecDepth 100000
/-- A message wherever its Subs stand. -/
def zz (m : M) : M := { m with sa := none, sc := 0 }
theorem fields_zz (m : M) : fieldsOf (zz m) = zz (fieldsOf m) := by
  unfold fieldsOf
  simp only [apply_ite zz]
  rfl
theorem own_zz (m : M) : ownM (zz m) = zz (ownM m) := by
  unfold ownM
  rw [fields_zz]
  show (if isKind m = true then _ else _) = _
  split <;> rfl
theorem bare_zz (m : M) : bare (zz m) = bare m := by
  unfold bare
  rw [own_zz]
  rfl
theorem bareJ_zz (m : M) : J1.bare (zz m) = J1.bare m := bare_zz m
theorem okF_zz (m : M) : okF (zz m) = okF m := by unfold okF; rw [bare_zz]; rfl
theorem okJ_zz (m : M) : okJ (zz m) = okJ m := by unfold okJ; rw [bareJ_zz]; rfl
theorem okL_zz (m : M) : okL (zz m) = okL m := by
  unfold okL
  rw [okF_zz, okJ_zz]
  unfold okU okO
  first | rw [bareJ_zz] | rw [bare_zz]
  rfl
theorem els_zz (m : M) (c : Kx) : badC c (zz m) = badC c m ∧ elsL c (zz m) = elsL c m ∧ ctxL c (zz m) = ctxL c m := by
  refine ⟨rfl, ?_, rfl⟩
  unfold elsL othE
  rw [okF_zz, okJ_zz]
  rfl
theorem outW_zz : ∀ (l : List M) (c : Kx) (a : List F1.El) (i : Int), outW (l.map zz) c a i = outW l c a i
  | [], _, _, _ => rfl
  | m :: l, c, a, i => by
      obtain ⟨h1, h2, h3⟩ := els_zz m c
      show (if badC c (zz m) = true then _ else if 65531 < (encT (a ++ elsL c (zz m))).length then _ else outW (l.map zz) (ctxL c (zz m)) (a ++ elsL c (zz m)) (i + 1)) = (if badC c m = true then _ else if 65531 < (encT (a ++ elsL c m)).length then _ else outW l (ctxL c m) (a ++ elsL c m) (i + 1))
      rw [h1, h2, h3, outW_zz l]
theorem wrong_zz : ∀ (l : List M) (i : Int), wrongAt (l.map zz) i = wrongAt l i
  | [], _ => rfl
  | m :: l, i => by
      show (if okL (zz m) = true then wrongAt (l.map zz) (i + 1) else i) = (if okL m = true then wrongAt l (i + 1) else i)
      rw [okL_zz, wrong_zz l]
theorem all_zz (l : List M) : (l.map zz).all okL = l.all okL := by
  induction l with
  | nil => rfl
  | cons m l ih => rw [List.map_cons, List.all_cons, List.all_cons, okL_zz, ih]
theorem outE_zz (l : List M) : outE (l.map zz) = outE l := by
  unfold outE
  rw [all_zz, outW_zz, wrong_zz]
theorem pl_zz {x y : List M} (h : PlL x y) : x.map zz = y.map zz := by
  refine List.ext_getElem (by rw [List.length_map, List.length_map]; exact h.1) fun i h1 h2 => ?_
  rw [List.getElem_map, List.getElem_map]
  have e : Pl _ _ := h.2 i (by simpa using h1) (by simpa using h2)
  exact (congrArg zz e).trans rfl
/-- What stands elsewhere is written the same. -/
theorem outE_pl {x y : List M} (h : PlL x y) : outE x = outE y := by rw [← outE_zz x, pl_zz h, outE_zz]
theorem pfx_le {m : M} (h : okL m = true) : m.pfx.size ≤ 16 := by
  have hp : m.pfx = (ownM m).pfx := (congrArg M.pfx (can_eq h)).symm
  by_cases k : m.kind = 11
  · exact J2.adr_size ((oku_iff m).1 (ok_u h k)).pfx
  rcases ok_not h k with hF | ⟨_, hJ⟩ | ⟨_, _, hO⟩
  · have : (ownM m).pfx = ByteArray.empty := by
      rcases G1.kind_cases ((G1.ok_iff m).1 hF).kind with k | k | ⟨k, _⟩ | ⟨k, _⟩
      · rw [(G1.is_7 k).2]; rfl
      · rw [(G1.is_8 k).2]; rfl
      · rw [(G1.is_9 k).2]; rfl
      · rw [(G1.is_10 k).2]; rfl
    rw [hp, this]
    exact Nat.zero_le _
  · exact J2.adr_size ((J1.ok_iff m).1 hJ).pfx
  · have k14 : m.kind = 14 := by
      unfold okO at hO
      simp only [Bool.and_eq_true, decide_eq_true_eq] at hO
      exact hO.1
    rw [hp, (L1.is_14 k14).2]
    exact Nat.zero_le _
theorem sp_of {m : M} (h : okL m = true) (hs : Sml m) : Sp m := by
  obtain ⟨_, h2, _, h4, h5⟩ := hs
  exact ⟨by rw [h2]; exact Nat.zero_le _, by omega, h5, by have := pfx_le h; unfold maxLen; omega⟩
theorem sp_pl {x y : List M} (h : PlL x y) (hs : ∀ m ∈ y, Sp m) : ∀ m ∈ x, Sp m := fun m hm => by
  obtain ⟨i, hi, rfl⟩ := List.getElem_of_mem hm
  have hiy : i < y.length := by rw [← h.1]; exact hi
  have e : Pl x[i] y[i] := h.2 i hi hiy
  have hy := hs _ (List.getElem_mem hiy)
  have e1 : x[i].ll = y[i].ll := by rw [show x[i] = _ from e]
  have e2 : x[i].sl = y[i].sl := by rw [show x[i] = _ from e]
  have e3 : x[i].pfx = y[i].pfx := by rw [show x[i] = _ from e]
  unfold Sp
  rw [e1, e2, e3]
  exact hy
theorem can_sml {m : M} (h : okL m = true) (hl : m.sl.length ≤ 100) (hs : ∀ x ∈ m.sl, x.1.size ≤ 1099511627776) : Sml (canM m) := by
  rw [can_eq h]
  exact ⟨rfl, rfl, rfl, hl, hs⟩
theorem can_list {l : List M} (h : l.all okL = true) : sameL l (l.map canM) = true := by
  refine sameL_yes (by rw [List.length_map]) fun i h1 h2 => ?_
  rw [List.getElem_map]
  exact can_all h _ (List.getElem_mem h1)
theorem all_can {l : List M} {s : ByteArray} (h : outE (l.map canM) = (s, 0, 0)) : (l.map canM).all okL = true := by
  cases e : (l.map canM).all okL
  · unfold outE at h
    rw [e, if_neg (by decide)] at h
    injection h with _ h
    injection h with _ h
    cases h
  · rfl
end Go.Proofs.YtjhfpobjbijcpaaGreatDoor.O7
