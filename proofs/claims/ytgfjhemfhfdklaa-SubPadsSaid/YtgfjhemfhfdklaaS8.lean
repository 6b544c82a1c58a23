/-
  What came in, opened: a list of Subs with its room, a list of bytes; a slice of a list of Subs; padding between Subs. No conditions.
-/
import Derived.Test.YtgfjhemfhfdklaaS7
import Derived.ChangeSlices
namespace Go.Proofs.Ytgfjhemfhfdklaa.S8
open Go.ChangeShapes Go.WideShapes Go.ChangeAt Go.RowKit Go.Deep
open Go.Proofs.Ytgfjhemfhfdklaa.Ms
open Go.Proofs.Ytgfjhemfhfdklaa.Cnt (bytesN mayB)
open Go.Proofs.Ytgfjhemfhfdklaa.S1
open Go.Proofs.Ytgfjhemfhfdklaa.F1 (enc1 encT okT encT_nil encT_append okT_nil okT_append)
open Go.Proofs.Ytgfjhemfhfdklaa.Open
set_option linter.unusedVariables false
set_option maxRecDepth 100000
section
variable {H : Type} {enc : TypeId × Value → H} {W : World}
theorem by_subs2 {base : Nat} {v : Value} {d : DataW H} {p : List MemPlace} (hv : Value.okWide Try.prog W .any base 22 v) (h : DataW.Trod enc Try.prog W 0 (fun _ => true) true 22 v d p) :
    ∃ (a : Option Addr) (l : List El) (c : Nat), v = .slice a l.length c ∧ SRow W a l ∧ l.length ≤ c := by
  obtain ⟨fuel, hf⟩ := h
  have hvc := okWide_slice Try.underlying22 hv
  obtain ⟨va, vn, vc, rfl⟩ := hvc
  obtain ⟨a, l, c, hcs, hr, hn⟩ := open_subs hf
  have hle : vn ≤ vc := by
    rcases open_slice Try.underlying22 hf with h0 | ⟨a, len, cap, m, n, D, Pl, hcs, _, hl, _⟩
    · have e := h0.1
      simp [Value.cells] at e
      obtain ⟨rfl, rfl, rfl⟩ := e
      exact Nat.le_refl _
    · simp [Value.cells] at hcs
      obtain ⟨rfl, rfl, rfl⟩ := hcs
      exact hl
  simp [Value.cells] at hcs
  obtain ⟨rfl, rfl, rfl⟩ := hcs
  exact ⟨va, l, vc, rfl, hr, hle⟩
/-- Bytes of a list stand in w. -/
def BRow (w : World) (a : Option Addr) (l : List Int) : Prop :=
  ∀ i (h : i < l.length), ∃ p, a = some p ∧ p.block < w.heap.size ∧ w.cell? (p.add i) = some (.int .u8 l[i]) ∧ 0 ≤ l[i] ∧ l[i] ≤ 255
theorem BRow.below {w w' : World} {a : Option Addr} {l : List Int} (h : BRow w a l) (hb : Below w.heap.size w w') : BRow w' a l := by
  intro i hi
  obtain ⟨p, h1, h2, h3, h4⟩ := h i hi
  exact ⟨p, h1, Nat.lt_of_lt_of_le h2 hb.size, by rw [hb.cell (by rw [add_block]; exact h2)]; exact h3, h4⟩
theorem by_bytes {base : Nat} {v : Value} {d : DataW H} {p : List MemPlace} (hv : Value.okWide Try.prog W .any base 32 v) (h : DataW.Trod enc Try.prog W 0 (fun _ => true) true 32 v d p) :
    ∃ (a : Option Addr) (l : List Int) (c : Nat), v = .slice a l.length c ∧ BRow W a l := by
  obtain ⟨fuel, hf⟩ := h
  have hvc := okWide_slice Try.underlying32 hv
  obtain ⟨va, vn, vc, rfl⟩ := hvc
  rcases open_ints Try.underlying32 Try.underlying5 (by kernel_rfl) hf with ⟨hcs, _⟩ | ⟨x, n, c, zs, hcs, _, hl, hm, hz, _, hcell, hwz⟩
  · simp [Value.cells] at hcs
    obtain ⟨rfl, rfl, rfl⟩ := hcs
    exact ⟨none, [], 0, rfl, fun i hi => absurd hi (by simp)⟩
  · simp [Value.cells] at hcs
    obtain ⟨rfl, rfl, rfl⟩ := hcs
    have hz2 : vn ≤ zs.length := by rw [hz]; split <;> omega
    refine ⟨some x, zs.take vn, vc, by rw [List.length_take, Nat.min_eq_left hz2], fun i hi => ?_⟩
    have hi2 : i < zs.length := by rw [List.length_take] at hi; omega
    have hc := hcell i hi2
    have e : zs.getD i 0 = (zs.take vn)[i] := by rw [List.getElem_take, List.getD_eq_getElem?_getD, List.getElem?_eq_getElem hi2]; rfl
    rw [e] at hc
    have hw := hwz _ (List.mem_of_mem_take (List.getElem_mem hi))
    have hw2 : IntKind.u8.min ≤ (zs.take vn)[i] ∧ (zs.take vn)[i] ≤ IntKind.u8.max := by simpa [Lit.wf] using hw
    rw [show IntKind.u8.min = 0 by decide, show IntKind.u8.max = 255 by decide] at hw2
    have hb := block_lt_of_cell hc
    rw [add_block] at hb
    exact ⟨x, rfl, hb, hc, hw2.1, hw2.2⟩
end
/-- l[i:i+1] -/
theorem slice_one (p : Addr) (n c i : Nat) (j : Int) (hj : j = (i : Int) + 1) (h : i + 1 ≤ c) (W : World) : (Instr.slice 22 (.slice (some p) n c) (some (.int .i64 (i : Int))) (some (.int .i64 j)) none).run Try.prog W = .ok (.slice (some (p.add (i * 2))) 1 (c - i)) W := by
  subst hj
  refine (run_slice_lh W 22 (some p) n c (by kernel_rfl) .i64 .i64 (i : Int) ((i : Int) + 1) (by omega) (by omega) (by omega)).trans ?_
  rw [show (Go.sizeOf (Try.prog.elem 22)).run Try.prog W = .ok 2 W from by kernel_rfl]
  have e : ((i : Int) + 1).toNat = i + 1 := by omega
  have e2 : ¬ c = i := by omega
  simp [Result.andThen, sliced, e, e2]
theorem row_one {w : World} {p : Addr} {l : List El} (h : SRow w (some p) l) (i : Nat) (hi : i < l.length) : SRow w (some (p.add (i * 2))) [l[i]] := by
  intro j hj
  obtain rfl : j = 0 := by simpa using hj
  obtain ⟨q, hq, h1, h2, h3⟩ := h i hi
  cases hq
  refine ⟨p.add (i * 2), rfl, by rw [add_block]; exact h1, ?_, ?_⟩
  · rw [S7.add_nul]; exact h2
  · rw [S7.add_nul]; exact h3

/-- Bytes that hold the first k of Subs, with padding. -/
def Pd (l : List El) (k : Nat) (u : ByteArray) : Prop := ∃ L, okT L ∧ u.data.toList = encT L ∧ keep L = l.take k ∧ knownB L = true
theorem Pd.zero (l : List El) : Pd l 0 ⟨#[]⟩ := ⟨[], okT_nil, rfl, rfl, rfl⟩
theorem Pd.pad {l : List El} {k n : Nat} {u : ByteArray} (h : Pd l k u) (hn : n < 5) : Pd l k (u ++ padB n) := by
  obtain ⟨L, h1, h2, h3, h4⟩ := h
  obtain ⟨p1, p2, p3, p4, _⟩ := pad_facts hn
  refine ⟨L ++ padE n, okT_append h1 p1, ?_, ?_, ?_⟩
  · rw [encT_append, ← h2, ← p2]; simp [ByteArray.data_append]
  · rw [keep_append, h3, p3, List.append_nil]
  · rw [known_append, h4, p4]; rfl
theorem Pd.one {l : List El} {k : Nat} {u : ByteArray} (h : Pd l k u) (hk : k < l.length) (hok : okS l = true) : Pd l (k + 1) (u ++ putS [l[k]]) := by
  obtain ⟨L, h1, h2, h3, h4⟩ := h
  have ho := okS_one hok (List.getElem_mem hk)
  have hm := okS_may ho
  refine ⟨L ++ [l[k]], okT_append h1 (may_okT hm), ?_, ?_, ?_⟩
  · rw [encT_append, ← h2, putS_yes ho]; simp [ByteArray.data_append]
  · rw [keep_append, h3, keep_self hm, List.take_succ_eq_append_getElem hk]
  · rw [known_append, h4, known_self hm]; rfl
theorem Pd.fin {l : List El} {k : Nat} {u : ByteArray} (h : Pd l k u) (hk : l.length ≤ k) : Pd l (k + 1) u := by
  obtain ⟨L, h1, h2, h3, h4⟩ := h
  exact ⟨L, h1, h2, by rw [h3, List.take_of_length_le hk, List.take_of_length_le (Nat.le_succ_of_le hk)], h4⟩
theorem Pd.out {l : List El} {k : Nat} {u : ByteArray} (h : Pd l k u) (hk : l.length ≤ k) (hok : okS l = true) : outS u = (l, true, 0) := by
  obtain ⟨L, h1, h2, h3, h4⟩ := h
  rw [List.take_of_length_le hk] at h3
  rw [outS_yes h1 h2 (by rw [h3]; exact okS_size hok), h3, h4]
/-- The five paddings, as they are written out. -/
def padC : Array Value := #[.string ⟨#[]⟩, .string ⟨#[0]⟩, .string ⟨#[1, 0]⟩, .string ⟨#[1, 2, 0, 0]⟩, .string ⟨#[0, 0]⟩]
theorem build_five (w : World) : (Instr.buildSlice 33 5 #[(0, .string ⟨#[]⟩), (1, .string ⟨#[0]⟩), (2, .string ⟨#[1, 0]⟩), (3, .string ⟨#[1, 2, 0, 0]⟩), (4, .string ⟨#[0, 0]⟩)]).run Try.prog w = .ok (.slice (some ⟨w.heap.size, 0, none⟩) 5 5) (w.alloc (.cells padC 9)) := by
  kernel_rfl
theorem bs_five {ops : Array Oper} {rest : List Oper} {o : Oper} {a : Act} {w : World} {Q : Exit → Act → World → Prop} (hgd : o.guard = none)
    (ho : o.op = .buildSlice 33 5 #[(0, .const (.string ⟨#[]⟩)), (1, .const (.string ⟨#[0]⟩)), (2, .const (.string ⟨#[1, 0]⟩)), (3, .const (.string ⟨#[1, 2, 0, 0]⟩)), (4, .const (.string ⟨#[0, 0]⟩))])
    (h : wpList Try.prog ops Q rest (a.put o.dst (.slice (some ⟨w.heap.size, 0, none⟩) 5 5)) (w.alloc (.cells padC 9))) : wpList Try.prog ops Q (o :: rest) a w :=
  wpList_plain hgd fun K hK => by
    have e : (execOp a.eval o).run Try.prog w = .ok (.value (.slice (some ⟨w.heap.size, 0, none⟩) 5 5)) (w.alloc (.cells padC 9)) := by
      have e0 : ((#[(0, .const (.string ⟨#[]⟩)), (1, .const (.string ⟨#[0]⟩)), (2, .const (.string ⟨#[1, 0]⟩)), (3, .const (.string ⟨#[1, 2, 0, 0]⟩)), (4, .const (.string ⟨#[0, 0]⟩))] : Array (Nat × Operand)).map fun (i, x) => (i, a.eval x)) = #[(0, .string ⟨#[]⟩), (1, .string ⟨#[0]⟩), (2, .string ⟨#[1, 0]⟩), (3, .string ⟨#[1, 2, 0, 0]⟩), (4, .string ⟨#[0, 0]⟩)] := by
        simp only [List.map_toArray, List.map_cons, List.map_nil]
        rfl
      unfold execOp
      simp only [ho, Sem.run_bind, e0, build_five, Result.andThen_ok, Sem.run_pure]
    unfold Oper.wp
    rw [e]
    exact hK _ _ h
theorem index_five (g n : Nat) (h : n < 5) (W : World) : (Instr.indexAt 33 (.slice (some ⟨g, 0, none⟩) 5 5) (.int .i64 (n : Int))).run Try.prog W = .ok (.pointer (some ⟨g, n, none⟩)) W := by
  have he : Try.prog.elem 33 = 9 := by simp [Program.elem, Try.underlying33]
  have hz : (sizeOf 9).run Try.prog W = .ok 1 W := by go_simp
  rw [run_indexAt_slice W 33 ⟨g, 0, none⟩ 5 5 .i64 (n : Int) (by rw [he]; exact Try.underlying33), if_pos (by omega), he, hz]
  have : (⟨g, 0, none⟩ : Addr).add n = ⟨g, n, none⟩ := by rw [Sx.add_at, Nat.zero_add]
  simp [Result.andThen, this]
theorem cell_five (w : World) (n : Nat) (h : n < 5) : (w.alloc (.cells padC 9)).cell? ⟨w.heap.size, n, none⟩ = some (.string (padB n)) := by
  have hb := Bk.Bk.new 9 w padC
  rcases pad_cases h with rfl | rfl | rfl | rfl | rfl
  · exact hb.cell 0 _ rfl
  · exact hb.cell 1 _ rfl
  · exact hb.cell 2 _ rfl
  · exact hb.cell 3 _ rfl
  · exact hb.cell 4 _ rfl
end Go.Proofs.Ytgfjhemfhfdklaa.S8
