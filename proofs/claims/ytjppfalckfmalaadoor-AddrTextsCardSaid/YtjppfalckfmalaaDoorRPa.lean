/-
  The document's parts: the pieces of a text, as a sign parts them, in memory of the call's own. Condition: a text of at most 1,000 bytes.
-/
import Derived.Test.YtjppfalckfmalaaDoorRVal
import Derived.Laws.OwnMore
namespace Go.Proofs.YtjppfalckfmalaaDoor.RPa
open Go.ChangeShapes Go.WideShapes Go.ChangeAt Go.RowKit
open Go.Proofs.YtjppfalckfmalaaDoor.Sb
open Go.Proofs.YtjppfalckfmalaaDoor.Ad
open Go.Proofs.YtjppfalckfmalaaDoor.Tab
open Go.Proofs.YtjppfalckfmalaaDoor.Wr
open Go.Proofs.YtjppfalckfmalaaDoor.RVal
set_option linter.unusedVariables false

def strs (ps : List (List UInt8)) : List Value := ps.map fun p => Value.string ⟨p.toArray⟩
theorem infoS : (Tryd.prog.info? 9).map (fun i => (i.zero, i.size, i.bytes)) = some (some (.string ByteArray.empty), 1, 16) := by kernel_rfl
theorem strs_length (ps : List (List UInt8)) : (strs ps).length = ps.length := by simp [strs]
theorem strs_at (ps : List (List UInt8)) (j : Nat) (h : j < ps.length) : (strs ps)[j]? = some (.string ⟨ps[j].toArray⟩) := by simp [strs, List.getElem?_eq_getElem h]
theorem parts_len (c : UInt8) (l : List UInt8) : (parts c l).length ≤ l.length + 1 := by
  have := join_len c (parts c l)
  rwa [parts_join] at this

/-- The pieces stand in a row of the call's own. -/
def Row (B g n cap : Nat) (ps : List (List UInt8)) (w : World) : Prop := ps.length = n ∧ w.ownsRow B 9 1 (.slice (some ⟨g, 0, none⟩) n cap) n (strs ps)
theorem row_cell {B g n cap : Nat} {ps : List (List UInt8)} {w : World} (h : Row B g n cap ps w) (j : Nat) (hj : j < ps.length) : w.cell? ⟨g, j, none⟩ = some (.string ⟨ps[j].toArray⟩) := by
  rw [h.2.cellAt j (by rw [Nat.mul_one, ← h.1]; exact hj), strs_at ps j hj]
theorem row_kept {B g n cap : Nat} {ps : List (List UInt8)} {w w' : World} (h : Row B g n cap ps w) (hb : Below w.heap.size w w') : Row B g n cap ps w' := ⟨h.1, own_kept h.2 hb⟩

theorem step_cut (c : UInt8) (l : List UInt8) (k : Nat) (h : k < l.length) (e : l[k] = c) : parts c (l.take (k + 1)) = parts c (l.take k) ++ [[]] := by
  rw [List.take_succ_eq_append_getElem h, parts_snoc, Ad.step, if_pos e]
theorem step_on (c : UInt8) (l : List UInt8) (k : Nat) (h : k < l.length) (e : l[k] ≠ c) (n : Nat) (hn : (parts c (l.take k)).length = n + 1) :
    strs (parts c (l.take (k + 1))) = (strs (parts c (l.take k))).set n (.string ⟨((parts c (l.take k))[n]'(by omega) ++ [l[k]]).toArray⟩) ∧ (parts c (l.take (k + 1))).length = n + 1 := by
  rw [List.take_succ_eq_append_getElem h, parts_snoc, Ad.step, if_neg e]
  obtain ⟨qs, q, hp, _, _⟩ := parts_all c (l.take k)
  have hq : qs.length = n := by rw [hp] at hn; simpa using hn
  constructor
  · simp only [hp, List.dropLast_concat]
    subst hq
    simp [strs]
  · rw [hp, List.dropLast_concat]; simp; exact hq

theorem elem_at (g n len cap : Nat) (h : n < len) (W : World) : (Instr.indexAt 34 (.slice (some ⟨g, 0, none⟩) len cap) (.int .i64 (n : Int))).run Tryd.prog W = .ok (.pointer (some ⟨g, n, none⟩)) W := by
  have he : Tryd.prog.elem 34 = 9 := by simp [Program.elem, Tryd.underlying34]
  rw [run_indexAt_slice W 34 ⟨g, 0, none⟩ len cap .i64 (n : Int) (by rw [he]; exact Tryd.underlying34)]
  go_simp
theorem one_cut (s : ByteArray) (k : Nat) (h : k < s.size) : s.extract k (k + 1) = ⟨[s[k]].toArray⟩ := by
  have hl : k < s.data.toList.length := by simpa using h
  refine bytes_ext _ _ ?_
  have e : (s.extract k (k + 1)).data.toList = (s.data.toList.drop k).take 1 := by simp
  rw [e, List.drop_eq_getElem_cons hl, list_at s k h hl]
  simp
theorem join_le (c : UInt8) : ∀ (ps : List (List UInt8)) (p : List UInt8), p ∈ ps → p.length ≤ (join c ps).length
  | [], p, h => by simp at h
  | [q], p, h => by
    obtain rfl := List.mem_singleton.1 h
    exact Nat.le_refl _
  | q :: r :: t, p, h => by
    rw [join_cons c q _ (by simp)]
    rcases List.mem_cons.1 h with rfl | h
    · simp
    · have := join_le c (r :: t) p h
      simp; omega
theorem piece_len (c : UInt8) (l : List UInt8) (j : Nat) (h : j < (parts c l).length) (hl : l.length ≤ 1000) : ((parts c l)[j]).length ≤ 1000 := by
  have := join_le c (parts c l) _ (List.getElem_mem h)
  rw [parts_join] at this
  omega

set_option maxHeartbeats 8000000 in
set_option maxRecDepth 100000 in
theorem parts_any (s : ByteArray) (c : UInt8) (hs : s.size ≤ 1000) (w : World) :
    Calls Tryd.prog 29 #[.string s, .int .u8 (c.toNat : Int)] w fun e w' => ∃ g n cap, e = .returned (.slice (some ⟨g, 0, none⟩) n cap) ∧ Row w.heap.size g n cap (parts c s.data.toList) w' ∧ Below w.heap.size w w' := by
  have HSZ := Lib.hid (show s.data.toList.length = s.size by simp)
  obtain ⟨i0, hi, hz0, hz1, hz2⟩ := info_parts infoS
  go_enter Tryd.func29, Tryd.ntmps29
  go_wp2
  have hR0 : Hid (Row w.heap.size w.heap.size 1 1 (parts c (s.data.toList.take 0)) (w.alloc (.cells #[.string ⟨#[]⟩] 9))) := Lib.hid ⟨rfl, World.ownsRow_lit (size := 1) w #[.string ⟨#[]⟩] 1 (Nat.le_refl _) (by decide) rfl⟩
  have hB0 : Hid (Below w.heap.size w (w.alloc (.cells #[.string ⟨#[]⟩] 9))) := Lib.hid ((Below.refl _ _).alloc (Nat.le_refl _) _)
  go_loopw [5, 6] (fun v i wr => ∃ k g n cap : Nat, k ≤ s.size ∧ n ≤ k ∧ i = .int .i64 k ∧ v = .slice (some ⟨g, 0, none⟩) (n + 1) cap ∧ Hid (Row w.heap.size g (n + 1) cap (parts c (s.data.toList.take k)) wr) ∧ Hid (Below w.heap.size w wr)) (fun _ i _ => s.size - (intOf i).toNat)
  case atStart => exact ⟨0, _, 0, _, by omega, by omega, rfl, rfl, hR0, hB0⟩
  case round =>
    obtain ⟨k, g, n, cap, hk, hn, rfl, rfl, HR, HB⟩ := hrel
    clear hR0 hB0
    by_cases hkn : k < s.size
    · have hkl : k < s.data.toList.length := by have := HSZ.out; omega
      by_cases heq : s[k] = c
      · have HN := Lib.hid (step_cut c s.data.toList k hkl (by rw [list_at s k hkn hkl]; exact heq))
        have hq : ((s[k].toNat : Int) == (c.toNat : Int)) = true := by rw [heq]; simp
        clear heq
        go_wp2_with (at_builtin; refine wpList_append_own _ rfl _ _ 34 rfl w.heap.size 9 i0 (.string ByteArray.empty) 1 16 Tryd.underlying34 hi hz0 hz1 hz2 rfl (by decide) _ _ _ rfl (HR.out.2.alloc _) ⟨wr.heap.size, 0, none⟩ 1 1 [.string ⟨#[]⟩] rfl rfl ?c1 ?c2 ?c3 ?c4 ?c5 ?_)
        case c1 =>
          intro j u hj
          match j, hj with
          | 0, hj => simp at hj; subst hj; simp [Addr.add]
        case c2 => intro u hu; simp at hu; subst hu; rfl
        case c3 => unfold maxLen; omega
        case c4 => omega
        case c5 => have := HB.out.size; simp; omega
        intro v' w2 hown' hgrow _
        have hb2 : Below w.heap.size w w2 := (HB.out.alloc HB.out.size _).grown hgrow (by have := HB.out.size; simp; omega) (fun j hj => (HR.out.2.lt j hj).1)
        obtain ⟨g', cap', rfl⟩ : ∃ g' cap', v' = .slice (some ⟨g', 0, none⟩) (n + 1 + 1) cap' := by
          rcases hown'.2 with ⟨_, h0⟩ | ⟨g', cap', cur, hv, _⟩
          · omega
          · exact ⟨g', cap', hv⟩
        have HR2 : Hid (Row w.heap.size g' (n + 1 + 1) cap' (parts c (s.data.toList.take (k + 1))) w2) := Lib.hid (by
          rw [HN.out]
          refine ⟨by simp [HR.out.1], ?_⟩
          have e : strs (parts c (s.data.toList.take k) ++ [[]]) = strs (parts c (s.data.toList.take k)) ++ [.string ⟨#[]⟩] := by simp [strs]
          rw [e]; exact hown')
        have HB2 := Lib.hid hb2
        clear hown' hgrow hb2 HR HB
        go_wp2
        go_roundw
        case rel => exact ⟨k + 1, g', n + 1, cap', by omega, by omega, by go_num, rfl, HR2, HB2⟩
        case measure => simp [intOf]; omega
      · have HN := Lib.hid (step_on c s.data.toList k hkl (by rw [list_at s k hkn hkl]; exact heq) n HR.out.1)
        have hq : ((s[k].toNat : Int) == (c.toNat : Int)) = false := by
          rw [beq_eq_false_iff_ne]
          intro e
          exact heq (UInt8.toNat_inj.1 (by omega))
        clear heq
        have hnl : n < (parts c (s.data.toList.take k)).length := by rw [HR.out.1]; omega
        have cq := row_cell HR.out n hnl
        have HQL : Hid (((parts c (s.data.toList.take k))[n]).length ≤ 1000) := Lib.hid (piece_len c _ n hnl (by simp; have := HSZ.out; omega))
        have HN1 := Lib.hid HN.out.1
        have HN2 := Lib.hid HN.out.2
        rw [list_at s k hkn hkl] at HN1
        clear HN
        generalize (parts c (s.data.toList.take k))[n] = q at *
        have hia := elem_at g n (n + 1) cap (by omega)
        have e1 : IntKind.i64.wrap (n : Int) = n := IntWalk.i64_in _ (by omega)
        have e1' : IntKind.i64.wrap ((n : Int) + 1 - 1) = n := by rw [IntWalk.i64_in _ (by omega)]; omega
        have e2 : IntKind.i64.wrap ((k : Int) + 1) = (k : Int) + 1 := IntWalk.i64_in _ (by omega)
        have hsl := slice_run s k (k + 1) (by omega) (by omega) ((k : Int) + 1) (by omega)
        have hcat : ∀ W : World, (Op.stringOp .add ⟨q.toArray⟩ (s.extract k (k + 1))).run Tryd.prog W = .ok (.string ⟨(q ++ [s[k]]).toArray⟩) W := fun W => by
          rw [one_cut s k hkn]
          exact run_string_add_lists (P := Tryd.prog) W q [s[k]] (by have := HQL.out; omega) (by simp)
        go_wp2
        refine wp_region_still_tail 17 (by kernel_rfl) (by kernel_rfl) ?_
        simp only [List.take_succ_cons, List.take_zero, List.drop_succ_cons, List.drop_zero]
        repeat still_step
        refine wpStill_nil ?_
        change wpList _ _ _ _ _ wr.drew
        have cq2 : wr.drew.cell? ⟨g, n, none⟩ = some (.string ⟨q.toArray⟩) := cq
        have hf2 : wr.drew.frozen? ⟨g, n, none⟩ = false := HR.out.2.frozenAt n
        have HR2 : Hid (Row w.heap.size g (n + 1) cap (parts c (s.data.toList.take k)) wr.drew) := HR
        have HB2 : Hid (Below w.heap.size w wr.drew) := Lib.hid HB.out.drew
        clear HR HB cq e1 e1' e2 hsl hcat hia
        generalize wr.drew = w2 at *
        have HG : Hid (w.heap.size ≤ g) := Lib.hid (HR2.out.2.lt g rfl).1
        have HR3 : Hid (Row w.heap.size g (n + 1) cap (parts c (s.data.toList.take (k + 1))) (w2.setCell ⟨g, n, none⟩ (.string ⟨(q ++ [s[k]]).toArray⟩))) := Lib.hid (by
          refine ⟨HN2.out, ?_⟩
          rw [HN1.out]
          exact (HR2.out.2.stored n _).1)
        go_wp2
        go_roundw
        case rel => exact ⟨k + 1, g, n, cap, by omega, by omega, by go_num, rfl, HR3, Lib.hid (HB2.out.setCell HG.out _)⟩
        case measure => simp [intOf]; omega
    · have hke : k = s.size := by omega
      have HE : Hid (s.data.toList.take k = s.data.toList) := Lib.hid (List.take_of_length_le (by have := HSZ.out; omega))
      go_wp2
      go_ret
      have h := HR.out
      rw [HE.out] at h
      exact ⟨g, n + 1, cap, rfl, h, HB.out⟩
end Go.Proofs.YtjppfalckfmalaaDoor.RPa
