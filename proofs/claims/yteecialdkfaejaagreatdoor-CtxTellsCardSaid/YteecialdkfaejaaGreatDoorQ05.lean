/-
  A list of TLVs of a call's own, one appended behind the other, or a list behind it: its cells, and that its TLVs stand in the world; whether two are the same. No conditions, but on the lengths.
  What came in, opened: a message by value, a list of messages: each is a message whose lists stand in the world.
  What came in, opened: a TLV by value, two bytes by value. No conditions.
  What is known as the program holds it: its block, loaded and stored whole; whether two are the same; lists of messages that are alike but for where their Subs stand; what a step answers; what came in, opened. No conditions.
  What the rows' condition gives the walks: from which length to which prefixes are, and how many bytes of an address stand, by its encoding, as the two listed variables have it when the call begins; that they have the same as long as nothing that was there is changed. Generic: the variables' numbers are marks.
  A cursor at work, whatever it is; the head of a datagram: the program's readHead, Body, Trailer, Wrap, and the document's. Condition: at most 2^20 bytes.
  Whether a prefix is one in an encoding, whether a message may be, a prefix's bytes and the prefix of bytes: the program's answers and the document's. Conditions: the message's lists stand in the world, and aren't long; the variable has what it is laid with.
-/
import Derived.Test.YteecialdkfaejaaGreatDoorQ01
import Derived.Test.YteecialdkfaejaaGreatDoorQ04
import Derived.Laws.AppendOwn
import Derived.Laws.OwnMore
import Derived.Deep.AppendLies
import Derived.Deep.Slices
import Derived.Deep.Fields
import Derived.ChangeSame
import Derived.Carry
import Derived.Lib.SmallJoins
import Derived.Test.YteecialdkfaejaaGreatDoorRows
import Derived.Below
import Derived.OpenShut
import Derived.LaidLaws
import Derived.LaidMore
import Derived.Lib.LaidTab
import Derived.Stop.LaidErr
namespace Go.Proofs.YteecialdkfaejaaGreatDoor.Tl
open Go.ChangeShapes Go.WideShapes Go.ChangeAt Go.RowKit
open Go.Proofs.YteecialdkfaejaaGreatDoor.F1
open Go.Proofs.YteecialdkfaejaaGreatDoor.Bk (Bk Sh)
open Go.Proofs.YteecialdkfaejaaGreatDoor.Hy (H.one)
set_option linter.unusedVariables false
set_option maxRecDepth 100000
set_option maxRecDepth 100000

/-- The TLVs of a list stand in w. -/
def TRow (w : World) (a : Option Addr) (l : List T) : Prop :=
  ∀ i (h : i < l.length), ∃ p, a = some p ∧ p.block < w.heap.size ∧ w.cell? (p.add (i * 3)) = some (.int .i64 l[i].2.2) ∧ w.cell? ((p.add (i * 3)).add 1) = some (.int .i64 l[i].1) ∧ w.cell? ((p.add (i * 3)).add 2) = some (.string l[i].2.1)
theorem add_block (p : Addr) (n : Nat) : (p.add n).block = p.block := by unfold Addr.add; split <;> rfl
theorem TRow.below {w w' : World} {a : Option Addr} {l : List T} (h : TRow w a l) (hb : Below w.heap.size w w') : TRow w' a l := by
  intro i hi
  obtain ⟨p, h1, h2, h3, h4, h5⟩ := h i hi
  refine ⟨p, h1, Nat.lt_of_lt_of_le h2 hb.size, ?_, ?_, ?_⟩
  · rw [hb.cell (by rw [add_block]; exact h2)]; exact h3
  · rw [hb.cell (by rw [add_block, add_block]; exact h2)]; exact h4
  · rw [hb.cell (by rw [add_block, add_block]; exact h2)]; exact h5
/-- A TLV's cells. -/
def cellsT (x : T) : Array Value := #[.int .i64 x.2.2, .int .i64 x.1, .string x.2.1]
theorem oneT (x : T) : ((cellsT x).all fun x => x.oneCell') = true := by simp [cellsT, Value.oneCell']
theorem shT : Sh Tryz.prog 27 3 := ⟨_, Tryz.underlying27, by kernel_rfl⟩
theorem build_one (x : T) (w : World) : (Instr.buildSlice 94 1 #[(0, .agg (cellsT x))]).run Tryz.prog w = .ok (.slice (some ⟨w.heap.size, 0, none⟩) 1 1) (w.alloc (.cells (cellsT x) 27)) := by
  kernel_rfl
theorem ex_bs {o : Oper} {ρ : Operand → Value} {x : Operand} {m : T} {w : World} (ho : o.op = .buildSlice 94 1 #[(0, x)]) (hx : ρ x = .agg (cellsT m)) :
    (execOp ρ o).run Tryz.prog w = .ok (.value (.slice (some ⟨w.heap.size, 0, none⟩) 1 1)) (w.alloc (.cells (cellsT m) 27)) := by
  have e : ((#[(0, x)] : Array (Nat × Operand)).map fun (i, x) => (i, ρ x)) = #[(0, .agg (cellsT m))] := by simp [hx]
  unfold execOp
  simp only [ho, Sem.run_bind, e, build_one, Result.andThen_ok, Sem.run_pure]
theorem bs_one {ops : Array Oper} {rest : List Oper} {o : Oper} {a : Act} {w : World} {Q : Exit → Act → World → Prop} (hgd : o.guard = none) (x : Operand) (ho : o.op = .buildSlice 94 1 #[(0, x)])
    {m : T} (hx : a.eval x = .agg (cellsT m)) (h : wpList Tryz.prog ops Q rest (a.put o.dst (.slice (some ⟨w.heap.size, 0, none⟩) 1 1)) (w.alloc (.cells (cellsT m) 27))) : wpList Tryz.prog ops Q (o :: rest) a w :=
  wpList_plain hgd fun K hK => by
    unfold Oper.wp
    rw [ex_bs ho hx]
    exact hK _ _ h
theorem add_at (g o j : Nat) : (⟨g, o, none⟩ : Addr).add j = ⟨g, o + j, none⟩ := by
  unfold Addr.add
  split
  · rename_i h; rw [h]; rfl
  · rfl
/-- The cells of a list of TLVs. -/
def rowT (l : List T) : List Value := l.flatMap fun x => (cellsT x).toList
theorem rowT_snoc (l : List T) (m : T) : rowT (l ++ [m]) = rowT l ++ (cellsT m).toList := by simp [rowT]
theorem rowT_at : ∀ (l : List T) (i j : Nat) (h : i < l.length), j < 3 → (rowT l)[i * 3 + j]? = ((cellsT l[i]).toList)[j]?
  | [], i, j, h, _ => absurd h (by simp)
  | m :: l, 0, j, h, hj => by
    have : rowT (m :: l) = (cellsT m).toList ++ rowT l := by simp [rowT]
    rw [this, Nat.zero_mul, Nat.zero_add, List.getElem?_append_left (by show j < (cellsT m).toList.length; exact hj)]
    rfl
  | m :: l, i + 1, j, h, hj => by
    have e : rowT (m :: l) = (cellsT m).toList ++ rowT l := by simp [rowT]
    have hl : (cellsT m).toList.length = 3 := rfl
    rw [e, List.getElem?_append_right (by rw [hl]; omega), hl, show (i + 1) * 3 + j - 3 = i * 3 + j by omega, rowT_at l i j (by simpa using h) hj]
    rfl
theorem infoT : ∃ i, Tryz.prog.info? 27 = some i ∧ i.zero = some (.agg #[.int .i64 0, .int .i64 0, .string ByteArray.empty]) ∧ i.size = 3 ∧ i.bytes ≤ 4096 := by
  have h : (Tryz.prog.info? 27).map (fun i => (i.zero, i.size, decide (i.bytes ≤ 4096))) = some (some (.agg #[.int .i64 0, .int .i64 0, .string ByteArray.empty]), 3, true) := by kernel_rfl
  obtain ⟨i, hi, hz⟩ := Option.map_eq_some_iff.1 h
  simp only [Prod.mk.injEq, decide_eq_true_eq] at hz
  exact ⟨i, hi, hz⟩

/-- The call's own list of the TLVs l (what is new begins at block B). -/
def Lst (B : Nat) (w : World) (v : Value) (l : List T) : Prop := w.ownsRow B 27 3 v l.length (rowT l)
theorem Lst.nil (B : Nat) (w : World) : Lst B w (.slice none 0 0) [] := World.ownsRow_nil w B _ 3
theorem Lst.below {B : Nat} {w w' : World} {v : Value} {l : List T} (h : Lst B w v l) (hb : Below w.heap.size w w') : Lst B w' v l := by
  refine ⟨h.1, ?_⟩
  rcases h.2 with h | ⟨g, cap, cur, a, b, c, d⟩
  · exact .inl h
  · exact .inr ⟨g, cap, cur, a, b, (hb.block g (Array.getElem?_eq_some_iff.1 c).1).trans c, d⟩
theorem Lst.slice {B : Nat} {w : World} {v : Value} {l : List T} (h : Lst B w v l) : ∃ a c, v = .slice a l.length c := by
  rcases h.2 with ⟨hv, h0⟩ | ⟨g, cap, cur, hv, _⟩
  · exact ⟨none, 0, by rw [hv, h0]⟩
  · exact ⟨_, _, hv⟩
theorem Lst.row {B : Nat} {w : World} {a : Option Addr} {c : Nat} {l : List T} (h : Lst B w (.slice a l.length c) l) : TRow w a l := by
  intro i hi
  rcases h.2 with ⟨_, h0⟩ | ⟨g, cap, cur, hv, hb, hg, _⟩
  · omega
  · simp at hv
    obtain ⟨rfl, rfl⟩ := hv
    have hat : ∀ j v, j < 3 → ((cellsT l[i]).toList)[j]? = some v → w.cell? (((⟨g, 0, none⟩ : Addr).add (i * 3)).add j) = some v := fun j v hj hv => by
      have := World.ownsRow.cells h (g := g) rfl (i * 3 + j) v (by rw [rowT_at l i j hi hj]; exact hv)
      rw [add_at] at this
      rw [add_at, add_at, Nat.add_assoc]
      exact this
    exact ⟨⟨g, 0, none⟩, rfl, (Array.getElem?_eq_some_iff.1 hg).1, hat 0 _ (by decide) rfl, hat 1 _ (by decide) rfl, hat 2 _ (by decide) rfl⟩

theorem cells_new (m : T) (w : World) : ∀ j u, ((cellsT m).toList)[j]? = some u → (w.alloc (.cells (cellsT m) 27)).cell? ((⟨w.heap.size, 0, none⟩ : Addr).add j) = some u := by
  intro j u hu
  have := (Bk.Bk.new 27 w (cellsT m)).cell j u (by simpa using hu)
  rw [add_at, Nat.zero_add]
  exact this

theorem wp_app {o : Oper} {a : Act} {w : World} {Q : Exit → Act → World → Prop} {K : Act → World → Prop} (s x : Operand)
    (ho : o.op = .call { callee := .builtin .append, args := #[s, x], argTypes := #[94, 94] }) (B : Nat) (v : Value) (l : List T) (m : T) (g c : Nat)
    (hs : a.eval s = v) (hown : Lst B w v l) (hx : a.eval x = .slice (some ⟨g, 0, none⟩) 1 c) (hm : ∀ j u, ((cellsT m).toList)[j]? = some u → w.cell? ((⟨g, 0, none⟩ : Addr).add j) = some u)
    (hl : l.length ≤ 100000) (hB : B ≤ w.heap.size)
    (h : ∀ v' w', Lst B w' v' (l ++ [m]) → w.grownBy w' v.ownBlock → Below B w w' → K (a.put o.dst v') w') : Oper.wp Tryz.prog o a w K Q := by
  obtain ⟨i0, hi, hz, hsz, hby⟩ := infoT
  refine wp_append_own w s x 94 ho B 27 i0 (.agg #[.int .i64 0, .int .i64 0, .string ByteArray.empty]) 3 i0.bytes Tryz.underlying94 hi hz hsz rfl rfl (by decide) v l.length (rowT l) hs hown ⟨g, 0, none⟩ 1 c (cellsT m).toList hx rfl hm ?_ (by unfold maxLen; omega) ?_ hB ?_
  · intro u hu
    have := oneT m
    rw [Array.all_eq_true_iff_forall_mem] at this
    exact this u (by simpa using hu)
  · have : (l.length + 1) * i0.bytes ≤ 100001 * 4096 := Nat.mul_le_mul (by omega) hby
    omega
  · intro v' w' h2 h3 _
    refine h v' w' ?_ h3 ((Below.refl B w).grown h3 hB (fun k hk => (World.ownsRow.lt hown k hk).1))
    unfold Lst
    rw [rowT_snoc, List.length_append]
    exact h2
theorem ob_ne {w : World} {B : Nat} {e T : TypeId} {size : Nat} {v : Value} {n : Nat} {xs : List Value} {b : Nat} {cs : Array Value} (hown : w.ownsRow B e size v n xs) (hb : Bk T w b cs) (hTe : T ≠ e) : v.ownBlock ≠ some b := by
  rcases hown.2 with ⟨rfl, _⟩ | ⟨g, cap, cur, rfl, _, hg, _⟩
  · simp [Value.ownBlock]
  · intro h
    simp only [Value.ownBlock, Option.some.injEq] at h
    subst h
    have := hb.symm.trans hg
    simp only [Option.some.injEq, Obj.cells.injEq] at this
    exact hTe this.2.1
/-- What is no TLV stands behind an append. -/
theorem Lst.keeps {B : Nat} {w w' : World} {v : Value} {l : List T} {t : TypeId} {b : Nat} {cs : Array Value} (hl : Lst B w v l) (hg : w.grownBy w' v.ownBlock) (hb : Bk t w b cs) (ht : t ≠ 27) : Bk t w' b cs :=
  (hg.block _ hb.lt (fun e => ob_ne hl hb ht e.symm)).trans hb
/-- A list stands when a block that holds no TLV is laid anew. -/
theorem Lst.off_row {B : Nat} {w : World} {v : Value} {l : List T} {t : TypeId} {b : Nat} {cs : Array Value} (hl : Lst B w v l) (hb : Bk t w b cs) (ht : t ≠ 27) (cs' : Array Value) : Lst B (w.setRow b cs') v l :=
  World.ownsRow.kept (row := some b) hl ⟨rfl, rfl, rfl, by simp, fun k _ hk => setRow_other w b k cs' (fun e => hk (by simp [e]))⟩ (Or.inr (ob_ne hl hb ht))
/-- append(v, m), behind the making of the list of m alone. -/
theorem app_one {ops : Array Oper} {rest : List Oper} {o : Oper} {a : Act} {w : World} {Q : Exit → Act → World → Prop} (hgd : o.guard = none) (s x : Operand)
    (ho : o.op = .call { callee := .builtin .append, args := #[s, x], argTypes := #[94, 94] }) (B : Nat) (v : Value) (l : List T) (m : T) (g c : Nat)
    (hs : a.eval s = v) (hown : Lst B w v l) (hx : a.eval x = .slice (some ⟨g, 0, none⟩) 1 c) (hm : ∀ j u, ((cellsT m).toList)[j]? = some u → w.cell? ((⟨g, 0, none⟩ : Addr).add j) = some u)
    (hl : l.length ≤ 100000) (hB : B ≤ w.heap.size)
    (h : ∀ v' w', Lst B w' v' (l ++ [m]) → w.grownBy w' v.ownBlock → Below B w w' → wpList Tryz.prog ops Q rest (a.put o.dst v') w') : wpList Tryz.prog ops Q (o :: rest) a w :=
  wpList_plain hgd fun K hK => wp_app s x ho B v l m g c hs hown hx hm hl hB fun v' w' h1 h2 h3 => hK _ _ (h v' w' h1 h2 h3)

section
variable {ops : Array Oper} {Q : Exit → Act → World → Prop} {md : Region.Mode} {S : World → Prop}
/-- []api.Tlv{m} -/
theorem H.bsT {i d : Nat} {o : Oper} {fuel : Nat} {listed : Array Bool} {a : Act} {w : World}
    (ho : ops[i]? = some o) (hw : Region.wanted o (yielded ops a.tmps) = true) (hr : Region.ready md ops listed = [i]) (hd : o.dst = some d)
    (x : Operand) (hop : o.op = .buildSlice 94 1 #[(0, x)]) {m : T} (hx : a.eval x = .agg (cellsT m)) (hS : S (w.alloc (.cells (cellsT m) 27)))
    (h : wpAnyH Tryz.prog md ops Q S fuel (listed.setIfInBounds i true) (a.put (some d) (.slice (some ⟨w.heap.size, 0, none⟩) 1 1)) (w.alloc (.cells (cellsT m) 27))) : wpAnyH Tryz.prog md ops Q S (fuel + 1) listed a w := by
  refine H.one ho hw hr (fun K hK => ?_)
  unfold Oper.wp
  rw [ex_bs hop hx]
  simp only [Oper.upon, hd]
  exact hK.out _ _ hS h
/-- append(v, m), behind the making of the list of m alone. -/
theorem H.appT {i d : Nat} {o : Oper} {fuel : Nat} {listed : Array Bool} {a : Act} {w : World}
    (ho : ops[i]? = some o) (hw : Region.wanted o (yielded ops a.tmps) = true) (hr : Region.ready md ops listed = [i]) (hd : o.dst = some d)
    (s x : Operand) (hop : o.op = .call { callee := .builtin .append, args := #[s, x], argTypes := #[94, 94] }) (B : Nat) (v : Value) (l : List T) (m : T) (g c : Nat)
    (hs : a.eval s = v) (hown : Lst B w v l) (hx : a.eval x = .slice (some ⟨g, 0, none⟩) 1 c) (hm : ∀ j u, ((cellsT m).toList)[j]? = some u → w.cell? ((⟨g, 0, none⟩ : Addr).add j) = some u)
    (hl : l.length ≤ 100000) (hB : B ≤ w.heap.size) (hS : ∀ w', w.grownBy w' v.ownBlock → S w')
    (h : ∀ v' w', Lst B w' v' (l ++ [m]) → w.grownBy w' v.ownBlock → Below B w w' → wpAnyH Tryz.prog md ops Q S fuel (listed.setIfInBounds i true) (a.put (some d) v') w') : wpAnyH Tryz.prog md ops Q S (fuel + 1) listed a w := by
  refine H.one ho hw hr (fun K hK => ?_)
  refine wp_app s x hop B v l m g c hs hown hx hm hl hB fun v' w' h1 h2 h3 => ?_
  rw [hd]
  exact hK.out _ _ (hS w' h2) (h v' w' h1 h2 h3)
end
theorem add_one (p : Addr) : p.add 1 = ⟨p.block, p.off + 1, none⟩ := rfl
theorem add_two (p : Addr) : p.add 2 = ⟨p.block, p.off + 2, none⟩ := rfl
theorem below_drewN {w W : World} (h : Below w.heap.size w W) : ∀ n, Below w.heap.size w (W.drewN n)
  | 0 => h
  | n + 1 => (below_drewN h n).drew
theorem indexT (p : Addr) (n c i : Nat) (h : i < n) (W : World) : (Instr.indexAt 94 (.slice (some p) n c) (.int .i64 (i : Int))).run Tryz.prog W = .ok (.pointer (some (p.add (i * 3)))) W := by
  have he : Tryz.prog.elem 94 = 27 := by simp [Program.elem, Tryz.underlying94]
  have hz : (sizeOf 27).run Tryz.prog W = .ok 3 W := by go_simp
  rw [run_indexAt_slice W 94 p n c .i64 (i : Int) (by rw [he]; exact Tryz.underlying94), if_pos (by omega), he, hz]
  rfl
end Go.Proofs.YteecialdkfaejaaGreatDoor.Tl
namespace Go.Proofs.YteecialdkfaejaaGreatDoor.Open
open Go.ChangeShapes Go.WideShapes Go.ChangeAt Go.RowKit Go.Deep
open Go.Proofs.YteecialdkfaejaaGreatDoor.Ms
open Go.Proofs.YteecialdkfaejaaGreatDoor.Box
open Go.Proofs.YteecialdkfaejaaGreatDoor.Few
open Go.Proofs.YteecialdkfaejaaGreatDoor.All
set_option linter.unusedVariables false
set_option maxRecDepth 100000

section
variable {H : Type} {enc : TypeId × Value → H} {W : World}

/-- A struct whose fields take one cell each reads field by field: field j's reading is that of cell j. -/
theorem each_field {t : TypeId} {fds : Array Field} (ht : Tryz.prog.underlying t = some (.struct fds)) (hone : oneCellFields Tryz.prog fds = true) {fuel : Nat} {cs : List Value} {x : DataW H × List MemPlace}
    (h : DataW.trod enc Tryz.prog W 0 (fun _ => true) true fuel t cs = some x) :
    cs.length = Tryz.prog.cellsOf t ∧ ∃ n, ∀ (j : Nat) (f : Field), fds[j]? = some f → ∃ y, DataW.trod enc Tryz.prog W 0 (fun _ => true) true n f.type ((cs.drop j).take 1) = some y := by
  obtain ⟨xs, n, _, _, hlen, hxl, hf⟩ := DataW.trod_struct ht h
  refine ⟨hlen, n, fun j f hj => ?_⟩
  have h1 := hf j f hj
  rw [(hone_of hone j f hj).1, (hone_of hone j f hj).2] at h1
  have hjl : j < xs.length := by rw [hxl]; exact (Array.getElem?_eq_some_iff.1 hj).1
  exact ⟨xs[j], h1.trans (List.getElem?_eq_getElem hjl)⟩

theorem els {α : Type} {n : Nat} {R : Nat → α → Prop} (h : ∀ i, i < n → ∃ x, R i x) : ∃ l : List α, l.length = n ∧ ∀ i (hi : i < l.length), R i l[i] := by
  induction n with
  | zero => exact ⟨[], rfl, fun i hi => absurd hi (by simp)⟩
  | succ n ih =>
    obtain ⟨l, hl, hr⟩ := ih fun i hi => h i (by omega)
    obtain ⟨x, hx⟩ := h n (by omega)
    refine ⟨l ++ [x], by simp [hl], fun i hi => ?_⟩
    by_cases hin : i < l.length
    · rw [List.getElem_append_left hin]; exact hr i hin
    · obtain rfl : i = l.length := by simp at hi; omega
      rw [List.getElem_append_right (Nat.le_refl _)]
      simp only [Nat.sub_self, List.getElem_cons_zero]
      rw [hl]; exact hx

theorem open_dests {fuel : Nat} {cs : List Value} {x : DataW H × List MemPlace} (h : DataW.trod enc Tryz.prog W 0 (fun _ => true) true fuel 28 cs = some x) :
    ∃ (a : Option Addr) (l : List El) (c : Nat), cs = [.slice a l.length c] ∧ DRow W a l ∧ l.length ≤ 9223372036854775807 := by
  have hz : Tryz.prog.cellsOf 43 = 2 := by kernel_rfl
  rcases open_slice Tryz.underlying28 h with h0 | ⟨a, len, cap, m, n, D, Pl, hcs, _, hl, hm, hmm, _, hi⟩
  · exact ⟨none, [], 0, h0.1, DRow.nil _ _, by simp⟩
  · obtain ⟨l, hll, hr⟩ := els (n := len) (R := fun i (x : El) => W.cell? (a.add (i * 2)) = some (.string x.1) ∧ W.cell? ((a.add (i * 2)).add 1) = some (.int .i64 x.2)) (fun i hin => by
      obtain ⟨ds, hc, ht⟩ := hi i (by rw [hmm]; split <;> omega)
      rw [hz] at hc
      obtain ⟨hlen, k, hf⟩ := each_field Tryz.underlying43 (by kernel_rfl) ht
      rw [hz] at hlen
      obtain ⟨_, _, hat⟩ := World.cells?_some hc
      have e0 := hat 0 (by decide)
      have e1 := hat 1 (by decide)
      match ds, hlen with
      | [d0, d1], _ =>
        obtain ⟨y0, g0⟩ := hf 0 _ rfl
        obtain ⟨y1, g1⟩ := hf 1 _ rfl
        obtain ⟨u0, q0, _, _⟩ := DataW.trod_string Tryz.underlying9 (show DataW.trod enc Tryz.prog W 0 (fun _ => true) true k 9 [d0] = some y0 from g0)
        obtain ⟨u1, q1, _, _⟩ := DataW.trod_int Tryz.underlying3 (show DataW.trod enc Tryz.prog W 0 (fun _ => true) true k 3 [d1] = some y1 from g1)
        obtain rfl := (List.cons.inj q0).1
        obtain rfl := (List.cons.inj q1).1
        exact ⟨(u0, u1), e0, e1⟩)
    refine ⟨some a, l, cap, by rw [hll]; exact hcs, fun i hin => ⟨a, rfl, ?_, hr i hin⟩, by unfold maxLen at hm; omega⟩
    have := block_lt_of_cell (hr i hin).1
    rwa [add_block] at this
theorem open_subs {fuel : Nat} {cs : List Value} {x : DataW H × List MemPlace} (h : DataW.trod enc Tryz.prog W 0 (fun _ => true) true fuel 29 cs = some x) :
    ∃ (a : Option Addr) (l : List El) (c : Nat), cs = [.slice a l.length c] ∧ SRow W a l ∧ l.length ≤ 9223372036854775807 := by
  have hz : Tryz.prog.cellsOf 45 = 2 := by kernel_rfl
  rcases open_slice Tryz.underlying29 h with h0 | ⟨a, len, cap, m, n, D, Pl, hcs, _, hl, hm, hmm, _, hi⟩
  · exact ⟨none, [], 0, h0.1, SRow.nil _ _, by simp⟩
  · obtain ⟨l, hll, hr⟩ := els (n := len) (R := fun i (x : El) => W.cell? (a.add (i * 2)) = some (.int .i64 x.2) ∧ W.cell? ((a.add (i * 2)).add 1) = some (.string x.1)) (fun i hin => by
      obtain ⟨ds, hc, ht⟩ := hi i (by rw [hmm]; split <;> omega)
      rw [hz] at hc
      obtain ⟨hlen, k, hf⟩ := each_field Tryz.underlying45 (by kernel_rfl) ht
      rw [hz] at hlen
      obtain ⟨_, _, hat⟩ := World.cells?_some hc
      have e0 := hat 0 (by decide)
      have e1 := hat 1 (by decide)
      match ds, hlen with
      | [d0, d1], _ =>
        obtain ⟨y0, g0⟩ := hf 0 _ rfl
        obtain ⟨y1, g1⟩ := hf 1 _ rfl
        obtain ⟨u0, q0, _, _⟩ := DataW.trod_int Tryz.underlying3 (show DataW.trod enc Tryz.prog W 0 (fun _ => true) true k 3 [d0] = some y0 from g0)
        obtain ⟨u1, q1, _, _⟩ := DataW.trod_string Tryz.underlying9 (show DataW.trod enc Tryz.prog W 0 (fun _ => true) true k 9 [d1] = some y1 from g1)
        obtain rfl := (List.cons.inj q0).1
        obtain rfl := (List.cons.inj q1).1
        exact ⟨(u1, u0), e0, e1⟩)
    refine ⟨some a, l, cap, by rw [hll]; exact hcs, fun i hin => ⟨a, rfl, ?_, hr i hin⟩, by unfold maxLen at hm; omega⟩
    have := block_lt_of_cell (hr i hin).1
    rwa [add_block] at this

theorem cellsM : Tryz.prog.cellsOf 31 = 25 := by kernel_rfl

set_option maxHeartbeats 1600000 in
theorem open_msg {fuel : Nat} {cs : List Value} {x : DataW H × List MemPlace} (h : DataW.trod enc Tryz.prog W 0 (fun _ => true) true fuel 31 cs = some x) :
    ∃ m : M, cs = m.cells.toList ∧ DRow W m.la m.ll ∧ SRow W m.sa m.sl := by
  obtain ⟨hlen, n, go⟩ := each_field Tryz.underlying31 (by kernel_rfl) h
  rw [cellsM] at hlen
  clear h
  match cs, hlen with
  | [c0, c1, c2, c3, c4, c5, c6, c7, c8, c9, c10, c11, c12, c13, c14, c15, c16, c17, c18, c19, c20, c21, c22, c23, c24], _ =>
    obtain ⟨y0, h0⟩ := go 0 _ rfl
    obtain ⟨k0, e0, _, _⟩ := DataW.trod_int Tryz.underlying3 (show DataW.trod enc Tryz.prog W 0 (fun _ => true) true n 3 [c0] = some y0 from h0)
    obtain rfl := (List.cons.inj e0).1
    clear e0
    obtain ⟨y1, h1⟩ := go 1 _ rfl
    obtain ⟨k1, e1, _, _⟩ := DataW.trod_int Tryz.underlying3 (show DataW.trod enc Tryz.prog W 0 (fun _ => true) true n 3 [c1] = some y1 from h1)
    obtain rfl := (List.cons.inj e1).1
    clear e1
    obtain ⟨y2, h2⟩ := go 2 _ rfl
    obtain ⟨k2, e2, _, _⟩ := DataW.trod_int Tryz.underlying3 (show DataW.trod enc Tryz.prog W 0 (fun _ => true) true n 3 [c2] = some y2 from h2)
    obtain rfl := (List.cons.inj e2).1
    clear e2
    obtain ⟨y3, h3⟩ := go 3 _ rfl
    obtain ⟨k3, e3, _, _⟩ := DataW.trod_string Tryz.underlying9 (show DataW.trod enc Tryz.prog W 0 (fun _ => true) true n 9 [c3] = some y3 from h3)
    obtain rfl := (List.cons.inj e3).1
    clear e3
    obtain ⟨y4, h4⟩ := go 4 _ rfl
    obtain ⟨k4, e4, _, _⟩ := DataW.trod_int Tryz.underlying3 (show DataW.trod enc Tryz.prog W 0 (fun _ => true) true n 3 [c4] = some y4 from h4)
    obtain rfl := (List.cons.inj e4).1
    clear e4
    obtain ⟨y5, h5⟩ := go 5 _ rfl
    obtain ⟨k5, e5, _, _⟩ := DataW.trod_int Tryz.underlying3 (show DataW.trod enc Tryz.prog W 0 (fun _ => true) true n 3 [c5] = some y5 from h5)
    obtain rfl := (List.cons.inj e5).1
    clear e5
    obtain ⟨y6, h6⟩ := go 6 _ rfl
    obtain ⟨k6, e6, _, _⟩ := DataW.trod_string Tryz.underlying9 (show DataW.trod enc Tryz.prog W 0 (fun _ => true) true n 9 [c6] = some y6 from h6)
    obtain rfl := (List.cons.inj e6).1
    clear e6
    obtain ⟨y7, h7⟩ := go 7 _ rfl
    obtain ⟨k7, e7, _, _⟩ := DataW.trod_int Tryz.underlying3 (show DataW.trod enc Tryz.prog W 0 (fun _ => true) true n 3 [c7] = some y7 from h7)
    obtain rfl := (List.cons.inj e7).1
    clear e7
    obtain ⟨y8, h8⟩ := go 8 _ rfl
    obtain ⟨k8, e8, _, _⟩ := DataW.trod_int Tryz.underlying3 (show DataW.trod enc Tryz.prog W 0 (fun _ => true) true n 3 [c8] = some y8 from h8)
    obtain rfl := (List.cons.inj e8).1
    clear e8
    obtain ⟨y9, h9⟩ := go 9 _ rfl
    obtain ⟨k9, e9, _, _⟩ := DataW.trod_string Tryz.underlying9 (show DataW.trod enc Tryz.prog W 0 (fun _ => true) true n 9 [c9] = some y9 from h9)
    obtain rfl := (List.cons.inj e9).1
    clear e9
    obtain ⟨y10, h10⟩ := go 10 _ rfl
    obtain ⟨k10, e10, _, _⟩ := DataW.trod_int Tryz.underlying3 (show DataW.trod enc Tryz.prog W 0 (fun _ => true) true n 3 [c10] = some y10 from h10)
    obtain rfl := (List.cons.inj e10).1
    clear e10
    obtain ⟨y11, h11⟩ := go 11 _ rfl
    obtain ⟨k11, e11, _, _⟩ := DataW.trod_string Tryz.underlying9 (show DataW.trod enc Tryz.prog W 0 (fun _ => true) true n 9 [c11] = some y11 from h11)
    obtain rfl := (List.cons.inj e11).1
    clear e11
    obtain ⟨y12, h12⟩ := go 12 _ rfl
    obtain ⟨k12, e12, _, _⟩ := DataW.trod_int Tryz.underlying3 (show DataW.trod enc Tryz.prog W 0 (fun _ => true) true n 3 [c12] = some y12 from h12)
    obtain rfl := (List.cons.inj e12).1
    clear e12
    obtain ⟨y13, h13⟩ := go 13 _ rfl
    obtain ⟨k13, e13, _, _⟩ := DataW.trod_int Tryz.underlying3 (show DataW.trod enc Tryz.prog W 0 (fun _ => true) true n 3 [c13] = some y13 from h13)
    obtain rfl := (List.cons.inj e13).1
    clear e13
    obtain ⟨y14, h14⟩ := go 14 _ rfl
    obtain ⟨k14, e14, _, _⟩ := DataW.trod_int Tryz.underlying3 (show DataW.trod enc Tryz.prog W 0 (fun _ => true) true n 3 [c14] = some y14 from h14)
    obtain rfl := (List.cons.inj e14).1
    clear e14
    obtain ⟨y15, h15⟩ := go 15 _ rfl
    obtain ⟨k15, e15, _, _⟩ := DataW.trod_int Tryz.underlying3 (show DataW.trod enc Tryz.prog W 0 (fun _ => true) true n 3 [c15] = some y15 from h15)
    obtain rfl := (List.cons.inj e15).1
    clear e15
    obtain ⟨y16, h16⟩ := go 16 _ rfl
    obtain ⟨k16, e16, _, _⟩ := DataW.trod_int Tryz.underlying3 (show DataW.trod enc Tryz.prog W 0 (fun _ => true) true n 3 [c16] = some y16 from h16)
    obtain rfl := (List.cons.inj e16).1
    clear e16
    obtain ⟨y17, h17⟩ := go 17 _ rfl
    obtain ⟨k17, e17, _, _⟩ := DataW.trod_int Tryz.underlying3 (show DataW.trod enc Tryz.prog W 0 (fun _ => true) true n 3 [c17] = some y17 from h17)
    obtain rfl := (List.cons.inj e17).1
    clear e17
    obtain ⟨y18, h18⟩ := go 18 _ rfl
    obtain ⟨k18, e18, _, _⟩ := DataW.trod_int Tryz.underlying3 (show DataW.trod enc Tryz.prog W 0 (fun _ => true) true n 3 [c18] = some y18 from h18)
    obtain rfl := (List.cons.inj e18).1
    clear e18
    obtain ⟨y19, h19⟩ := go 19 _ rfl
    obtain ⟨k19, e19, _, _⟩ := DataW.trod_string Tryz.underlying9 (show DataW.trod enc Tryz.prog W 0 (fun _ => true) true n 9 [c19] = some y19 from h19)
    obtain rfl := (List.cons.inj e19).1
    clear e19
    obtain ⟨y20, h20⟩ := go 20 _ rfl
    obtain ⟨k20, e20, _, _⟩ := DataW.trod_string Tryz.underlying9 (show DataW.trod enc Tryz.prog W 0 (fun _ => true) true n 9 [c20] = some y20 from h20)
    obtain rfl := (List.cons.inj e20).1
    clear e20
    obtain ⟨y21, h21⟩ := go 21 _ rfl
    obtain ⟨a21, l21, n21, e21, r21, _⟩ := open_dests (show DataW.trod enc Tryz.prog W 0 (fun _ => true) true n 28 [c21] = some y21 from h21)
    obtain rfl := (List.cons.inj e21).1
    clear e21
    obtain ⟨y22, h22⟩ := go 22 _ rfl
    obtain ⟨k22, e22, _, _⟩ := DataW.trod_int Tryz.underlying3 (show DataW.trod enc Tryz.prog W 0 (fun _ => true) true n 3 [c22] = some y22 from h22)
    obtain rfl := (List.cons.inj e22).1
    clear e22
    obtain ⟨y23, h23⟩ := go 23 _ rfl
    obtain ⟨k23, e23, _, _⟩ := DataW.trod_string Tryz.underlying9 (show DataW.trod enc Tryz.prog W 0 (fun _ => true) true n 9 [c23] = some y23 from h23)
    obtain rfl := (List.cons.inj e23).1
    clear e23
    obtain ⟨y24, h24⟩ := go 24 _ rfl
    obtain ⟨a24, l24, n24, e24, r24, _⟩ := open_subs (show DataW.trod enc Tryz.prog W 0 (fun _ => true) true n 29 [c24] = some y24 from h24)
    obtain rfl := (List.cons.inj e24).1
    clear e24
    exact ⟨⟨k0, k1, k2, k3, k4, k5, k6, k7, k8, k9, k10, k11, k12, k13, k14, k15, k16, k17, k18, k19, k20, a21, l21, n21, k22, k23, a24, l24, n24⟩, rfl, r21, r24⟩

theorem laidOut : laidOutB Tryz.prog = true := by kernel_rfl
theorem again {t : TypeId} (hr : Tryz.prog.readableRec t = true) (hrow : t < Tryz.prog.types.size) {W' : World} {v : Value} {d : DataW H} {ps : List MemPlace}
    (h : DataW.Trod enc Tryz.prog W 0 (fun _ => true) true t v d ps) (hb : Below W.heap.size W W') (hlt : ∀ x ∈ ps, x.block < W.heap.size) :
    DataW.Trod enc Tryz.prog W' 0 (fun b => decide (b < W.heap.size)) true t v d ps := Below.trod laidOut hr hrow h hb hlt
end
end Go.Proofs.YteecialdkfaejaaGreatDoor.Open
namespace Go.Proofs.YteecialdkfaejaaGreatDoor.Open
open Go.ChangeShapes Go.WideShapes Go.ChangeAt Go.RowKit
open Go.Proofs.YteecialdkfaejaaGreatDoor.Tl (cellsT)
set_option linter.unusedVariables false
set_option maxRecDepth 100000
set_option maxRecDepth 100000
section
variable {H : Type} {enc : TypeId × Value → H} {W : World}
theorem cellsTl : Tryz.prog.cellsOf 27 = 3 := by kernel_rfl
theorem open_tlv {fuel : Nat} {cs : List Value} {x : DataW H × List MemPlace} (h : DataW.trod enc Tryz.prog W 0 (fun _ => true) true fuel 27 cs = some x) :
    ∃ a d t, cs = (cellsT (a, (d, t))).toList ∧ d.size ≤ maxLen := by
  obtain ⟨hlen, n, go⟩ := each_field Tryz.underlying27 (by kernel_rfl) h
  rw [cellsTl] at hlen
  clear h
  match cs, hlen with
  | [c0, c1, c2], _ =>
    obtain ⟨y0, h0⟩ := go 0 _ rfl
    obtain ⟨k0, e0, _, _⟩ := DataW.trod_int Tryz.underlying3 (show DataW.trod enc Tryz.prog W 0 (fun _ => true) true n 3 [c0] = some y0 from h0)
    obtain rfl := (List.cons.inj e0).1
    obtain ⟨y1, h1⟩ := go 1 _ rfl
    obtain ⟨k1, e1, _, _⟩ := DataW.trod_int Tryz.underlying3 (show DataW.trod enc Tryz.prog W 0 (fun _ => true) true n 3 [c1] = some y1 from h1)
    obtain rfl := (List.cons.inj e1).1
    obtain ⟨y2, h2⟩ := go 2 _ rfl
    obtain ⟨k2, e2, _, z2⟩ := DataW.trod_string Tryz.underlying9 (show DataW.trod enc Tryz.prog W 0 (fun _ => true) true n 9 [c2] = some y2 from h2)
    obtain rfl := (List.cons.inj e2).1
    exact ⟨k1, k2, k0, rfl, z2⟩
theorem by_tlv {base : Nat} {v : Value} {d : DataW H} {p : List MemPlace} (hv : Value.okWide Tryz.prog W .any base 27 v) (h : DataW.Trod enc Tryz.prog W 0 (fun _ => true) true 27 v d p) :
    ∃ a d t, v = .agg (cellsT (a, (d, t))) ∧ d.size ≤ maxLen := by
  obtain ⟨cs, rfl, hsz⟩ := okWide_struct Tryz.underlying27 hv
  obtain ⟨fuel, hf⟩ := h
  obtain ⟨a, d, t, hm, hok⟩ := open_tlv hf
  have : cs = cellsT (a, (d, t)) := Array.ext' hm
  subst this
  exact ⟨a, d, t, rfl, hok⟩
end
end Go.Proofs.YteecialdkfaejaaGreatDoor.Open
namespace Go.Proofs.YteecialdkfaejaaGreatDoor.Kb
open Go.ChangeShapes Go.WideShapes Go.ChangeAt Go.RowKit Go.Joins
open Go.Proofs.YteecialdkfaejaaGreatDoor.Ms
open Go.Proofs.YteecialdkfaejaaGreatDoor.Box
open Go.Proofs.YteecialdkfaejaaGreatDoor.All
open Go.Proofs.YteecialdkfaejaaGreatDoor.An
open Go.Proofs.YteecialdkfaejaaGreatDoor.K1
open Go.Proofs.YteecialdkfaejaaGreatDoor.F1 (T)
open Go.Proofs.YteecialdkfaejaaGreatDoor.Ap (add_at cells_new)
open Go.Proofs.YteecialdkfaejaaGreatDoor.Tl (cellsT TRow)
open Go.Proofs.YteecialdkfaejaaGreatDoor.Open (each_field els open_msg)
open Go.Proofs.YteecialdkfaejaaGreatDoor.Bk (Bk Sh alloc_size wpList_loadK wpList_storeK run_loadK)
open Go.Deep
set_option linter.unusedVariables false
set_option maxRecDepth 100000
theorem shX : Sh Tryz.prog 25 7 := ⟨_, Tryz.underlying25, by kernel_rfl⟩
theorem oneX (x : Kx) : (x.cells.all fun x => x.oneCell') = true := by simp [Kx.cells, Value.oneCell']
theorem wpList_loadX {ops : Array Oper} {rest : List Oper} {o : Oper} {a : Act} {w : World} {Q : Exit → Act → World → Prop} (hgd : o.guard = none) (x : Operand) (ho : o.op = .load 25 x) {b : Nat} (hx : a.eval x = .pointer (some ⟨b, 0, none⟩)) {m : Kx} (hb : Bk 25 w b m.cells)
    (h : wpList Tryz.prog ops Q rest (a.put o.dst (.agg m.cells)) w) : wpList Tryz.prog ops Q (o :: rest) a w := wpList_loadK shX hgd x ho hx hb rfl h
theorem wpList_storeX {ops : Array Oper} {rest : List Oper} {o : Oper} {a : Act} {w : World} {Q : Exit → Act → World → Prop} (hgd : o.guard = none) (x y : Operand) (ho : o.op = .store 25 x y) {b : Nat} (hx : a.eval x = .pointer (some ⟨b, 0, none⟩)) {m m' : Kx} (hy : a.eval y = .agg m'.cells) (hb : Bk 25 w b m.cells)
    (h : wpList Tryz.prog ops Q rest (a.put o.dst undef) (w.setRow b m'.cells)) : wpList Tryz.prog ops Q (o :: rest) a w := wpList_storeK shX hgd x y ho hx hy hb rfl rfl (oneX m') h

/-- What is the same as itself. -/
theorem eq_arr {P : Program} {W : World} (d : Nat) (t e : TypeId) (n : Nat) (xs : Array Value) (ht : P.underlying t = some (.array n e))
    (hz : (sizeOf e).run P W = .ok 1 W) (hx : ∀ i, i < n → ∃ a, (part e xs i).run P W = .ok a W ∧ (Op.equalIn d e a a).run P W = .ok true W) : (Op.equalIn (d + 1) t (.agg xs) (.agg xs)).run P W = .ok true W := by
  simp only [Op.equalIn, Sem.run_bind, run_underlying ht, Result.andThen_ok, hz]
  rw [Std.Legacy.Range.forIn_eq_forIn_range']
  simp only [Std.Legacy.Range.size, Nat.sub_zero, Nat.add_one_sub_one, Nat.div_one]
  have hl : ∀ i ∈ List.range' 0 n 1, i < n := fun i hi => by simp at hi; exact hi
  generalize List.range' 0 n 1 = l at *
  induction l with
  | nil => simp
  | cons i l ih =>
    obtain ⟨a, ha, hq⟩ := hx i (hl i (by simp))
    simp only [List.forIn_cons, Sem.run_bind, Nat.mul_one, ha, Result.andThen_ok, hq, Bool.not_true, Bool.false_eq_true, if_false, Sem.run_pure]
    have := ih (fun j hj => hl j (by simp [hj]))
    simp only [Nat.mul_one] at this
    exact this
theorem eqF_same {P : Program} {W : World} {d : Nat} {f : Field} {fs : List Field} {xs : Array Value} {a : Value} {r : Bool} (hn : f.name ≠ "_")
    (hx : (part f.type xs f.offset).run P W = .ok a W) (hq : (Op.equalIn d f.type a a).run P W = .ok true W) (h : (Op.eqFields d xs xs fs).run P W = .ok r W) :
    (Op.eqFields d xs xs (f :: fs)).run P W = .ok r W := by
  simp only [Op.eqFields, ne_eq, hn, not_false_eq_true, if_true, Sem.run_bind, hx, Result.andThen_ok, hq, Bool.not_true, Bool.false_eq_true, if_false, h]
theorem size_str (W : World) : (sizeOf 9).run Tryz.prog W = .ok 1 W := by go_simp
theorem eq_four (d : Nat) (a b c e : ByteArray) (W : World) : (Op.equalIn (d + 2) 22 (.agg #[.string a, .string b, .string c, .string e]) (.agg #[.string a, .string b, .string c, .string e])).run Tryz.prog W = .ok true W := by
  refine eq_arr (d + 1) 22 9 4 _ Tryz.underlying22 (size_str W) fun i hi => ?_
  have hs : ∀ x, (Op.equalIn (d + 1) 9 (.string x) (.string x)).run Tryz.prog W = .ok true W := fun x => by rw [run_equalIn_string W d 9 x x Tryz.underlying9]; simp
  rcases (show i = 0 ∨ i = 1 ∨ i = 2 ∨ i = 3 by omega) with rfl | rfl | rfl | rfl
  · exact ⟨_, rfl, hs a⟩
  · exact ⟨_, rfl, hs b⟩
  · exact ⟨_, rfl, hs c⟩
  · exact ⟨_, rfl, hs e⟩
theorem eq_two (d : Nat) (a b : ByteArray) (W : World) : (Op.equalIn (d + 2) 23 (.agg #[.string a, .string b]) (.agg #[.string a, .string b])).run Tryz.prog W = .ok true W := by
  refine eq_arr (d + 1) 23 9 2 _ Tryz.underlying23 (size_str W) fun i hi => ?_
  have hs : ∀ x, (Op.equalIn (d + 1) 9 (.string x) (.string x)).run Tryz.prog W = .ok true W := fun x => by rw [run_equalIn_string W d 9 x x Tryz.underlying9]; simp
  rcases (show i = 0 ∨ i = 1 by omega) with rfl | rfl
  · exact ⟨_, rfl, hs a⟩
  · exact ⟨_, rfl, hs b⟩
theorem eqX (c : Kx) (W : World) : (Op.equalIn 10000 25 (.agg c.cells) (.agg c.cells)).run Tryz.prog W = .ok true W := by
  have hf : Tryz.prog.underlying 25 = some (.struct (Tryz.prog.fieldsOf 25)) := by kernel_rfl
  have hp : Tryz.prog.stoodInHeld 25 = false := by kernel_rfl
  rw [run_equalIn_struct W 9999 25 _ _ hf hp]
  simp only [Program.fieldsOf, Tryz.underlying25]
  refine eqF_same (a := .agg #[.string c.p0, .string c.p1, .string c.p2, .string c.p3]) (by decide) rfl (eq_four 9997 _ _ _ _ W) ?_
  refine eqF_same (a := .agg #[.string c.n0, .string c.n1]) (by decide) rfl (eq_two 9997 _ _ W) ?_
  refine eqF_same (a := .string c.id) (by decide) rfl (by rw [run_equalIn_string W 9998 9 _ _ Tryz.underlying9]; simp) ?_
  rfl
theorem eql_X (c : Kx) (W : World) : (binOp .eql 25 (.agg c.cells) (.agg c.cells)).run Tryz.prog W = .ok (.bool true) W := by rw [run_eql_struct, eqX]; rfl
theorem guard_X (op : BinOp) (x y : Operand) (a b : Array Value) (W : World) : (eqGuard op 25 x y (.agg a) (.agg b)).run Tryz.prog W = .ok () W := run_eqGuard_agg W op _ x y _ _ (by kernel_rfl)
theorem ex_eqX {o : Oper} {ρ : Operand → Value} {x y : Operand} {c : Kx} {w : World} (ho : o.op = .binOp .eql 25 x y 25) (hx : ρ x = .agg c.cells) (hy : ρ y = .agg c.cells) : (execOp ρ o).run Tryz.prog w = .ok (.value (.bool true)) w := by
  unfold execOp
  simp only [ho, hx, hy, Sem.run_bind, guard_X, Result.andThen_ok, eql_X, Sem.run_pure]
/-- l is l', but for where the messages' Subs stand. -/
def PlL (l l' : List M) : Prop := l.length = l'.length ∧ ∀ i (h : i < l.length) (h' : i < l'.length), Pl l[i] l'[i]
theorem PlL.nil : PlL [] [] := ⟨rfl, fun i h => absurd h (by simp)⟩
theorem PlL.one {n m : M} (h : Pl n m) : PlL [n] [m] := ⟨rfl, fun i h1 h2 => by
  obtain rfl : i = 0 := by (simp at h1; exact h1)
  exact h⟩
theorem PlL.at_one {l : List M} {m : M} (h : PlL l [m]) : ∃ n, l = [n] ∧ Pl n m := by
  obtain ⟨n, rfl⟩ := List.length_eq_one_iff.1 h.1
  exact ⟨n, rfl, h.2 0 (by simp) (by simp)⟩
theorem PlL.same {x x' y y' : List M} (h : PlL x y) (h' : PlL x' y') : sameL x x' = sameL y y' := by
  unfold sameL
  rw [decide_eq_decide]
  constructor
  · rintro ⟨h1, h2⟩
    refine ⟨by rw [← h.1, ← h'.1]; exact h1, fun i k1 k2 => ?_⟩
    rw [← (h.2 i (by rw [h.1]; exact k1) k1).same (h'.2 i (by rw [h'.1]; exact k2) k2)]
    exact h2 i _ _
  · rintro ⟨h1, h2⟩
    refine ⟨by rw [h.1, h'.1]; exact h1, fun i k1 k2 => ?_⟩
    rw [(h.2 i k1 (by rw [← h.1]; exact k1)).same (h'.2 i k2 (by rw [← h'.1]; exact k2))]
    exact h2 i _ _
theorem sameL_refl (l : List M) : sameL l l = true := sameL_yes rfl fun i h1 h2 => same_refl _
theorem PlL.short {x y : List M} (h : PlL x y) (hs : ∀ m ∈ y, m.la = none ∧ m.ll = [] ∧ m.lc = 0 ∧ m.sl.length ≤ 100 ∧ ∀ x ∈ m.sl, x.1.size ≤ 1099511627776) : ∀ m ∈ x, Short m := by
  intro m hm
  obtain ⟨i, hi, rfl⟩ := List.getElem_of_mem hm
  have hy : i < y.length := by rw [← h.1]; exact hi
  have hp := h.2 i hi hy
  obtain ⟨_, h1, _, h2, _⟩ := hs _ (List.getElem_mem hy)
  have e : x[i].ll = y[i].ll := by rw [show x[i] = _ from hp]
  exact ⟨by rw [e, h1]; exact Nat.zero_le _, by rw [hp.sl]; omega⟩
/-- A list of messages of a call's own (what is new begins at block B): each has Subs alone, which are the call's own. -/
def MOwn (B : Nat) (w : World) (a : Option Addr) (l : List M) : Prop :=
  ∀ i (h : i < l.length), ∃ p, a = some p ∧ B ≤ p.block ∧ p.block < w.heap.size ∧ (∀ j v, (l[i].cells.toList)[j]? = some v → w.cell? ((p.add (i * 25)).add j) = some v) ∧ l[i].ll = [] ∧ Sx.Lst B w (.slice l[i].sa l[i].sl.length l[i].sc) l[i].sl
theorem MOwn.nil (B : Nat) (w : World) (a : Option Addr) : MOwn B w a [] := fun i hi => absurd hi (by simp)
theorem MOwn.row {B : Nat} {w : World} {a : Option Addr} {l : List M} (h : MOwn B w a l) : MRow w a l := fun i hi => by
  obtain ⟨p, h1, _, h3, h4, h5, h6⟩ := h i hi
  exact ⟨p, h1, h3, h4, by rw [h5]; exact DRow.nil _ _, h6.row⟩
theorem MOwn.below {B : Nat} {w w' : World} {a : Option Addr} {l : List M} (h : MOwn B w a l) (hb : Below w.heap.size w w') : MOwn B w' a l := fun i hi => by
  obtain ⟨p, h1, h2, h3, h4, h5, h6⟩ := h i hi
  exact ⟨p, h1, h2, Nat.lt_of_lt_of_le h3 hb.size, fun j v hv => (hb.cell (by rw [add_block, add_block]; exact h3)).trans (h4 j v hv), h5, h6.below hb⟩
theorem MOwn.mono {B B' : Nat} {w : World} {a : Option Addr} {l : List M} (h : MOwn B w a l) (hB : B' ≤ B) : MOwn B' w a l := fun i hi => by
  obtain ⟨p, h1, h2, h3, h4, h5, h6⟩ := h i hi
  exact ⟨p, h1, Nat.le_trans hB h2, h3, h4, h5, lst_mono h6 hB⟩
theorem MOwn.under {B g : Nat} {w : World} {a : Option Addr} {l : List M} (h : MOwn B w a l) (hg : g < B) (cs : Array Value) : MOwn B (w.setRow g cs) a l := fun i hi => by
  obtain ⟨p, h1, h2, h3, h4, h5, h6⟩ := h i hi
  refine ⟨p, h1, h2, by simpa using h3, fun j v hv => ?_, h5, lst_under h6 hg cs⟩
  have hne : ((p.add (i * 25)).add j).block ≠ g := by rw [add_block, add_block]; omega
  have hb : Below (g + 1) (w.setRow g cs) (w.setRow g cs) := Below.refl _ _
  have := h4 j v hv
  unfold World.cell? at this ⊢
  rw [setRow_other w g _ cs hne]
  exact this
/-- What a step answers: what is known, messages (the list and their Subs are the call's own), an error. -/
def AnsC (p : Kx × List M × Int) (w : World) (e : Ending) (w' : World) : Prop :=
  ∃ a c l, e = .returned (.tuple #[.agg p.1.cells, .slice a l.length c, .int .i64 p.2.2]) ∧ PlL l p.2.1 ∧ MOwn w.heap.size w' a l ∧ Below w.heap.size w w'
theorem AnsC.no {p : Kx × List M × Int} {w w' : World} {c : Kx} {d : Int} (h : p = (c, [], d)) (hb : Below w.heap.size w w') : AnsC p w (.returned (.tuple #[.agg c.cells, .slice none 0 0, .int .i64 d])) w' := by
  subst h
  exact ⟨none, 0, [], rfl, PlL.nil, MOwn.nil _ _ _, hb⟩
theorem one_new {B : Nat} {w : World} {n : M} (h : n.ll = []) (hl : Sx.Lst B w (.slice n.sa n.sl.length n.sc) n.sl) (hB : B ≤ w.heap.size) : MOwn B (w.alloc (.cells n.cells 31)) (some ⟨w.heap.size, 0, none⟩) [n] := by
  intro i hi
  obtain rfl : i = 0 := by (simp at hi; exact hi)
  refine ⟨_, rfl, hB, by rw [alloc_size]; exact Nat.lt_succ_self _, fun j v hv => ?_, h, hl.below (balloc (Below.refl _ w) _)⟩
  have := cells_new n w j v hv
  rw [add_at] at this
  rw [add_at, add_at, Nat.zero_mul, Nat.add_zero]
  exact this
theorem AnsC.one {p : Kx × List M × Int} {w w' : World} {a : Option Addr} {c : Kx} {m n : M} {k : Nat} (h : p = (c, [m], 0)) (hp : Pl n m) (hn : MOwn w.heap.size w' a [n]) (hb : Below w.heap.size w w') : AnsC p w (.returned (.tuple #[.agg c.cells, .slice a 1 k, .int .i64 0])) w' := by
  subst h
  exact ⟨a, k, [n], rfl, PlL.one hp, hn, hb⟩

section
variable {H : Type} {enc : TypeId × Value → H} {W : World}
theorem open_msgP {fuel : Nat} {cs : List Value} {x : DataW H × List MemPlace} (h : DataW.trod enc Tryz.prog W 0 (fun _ => true) true fuel 31 cs = some x) :
    ∃ m : M, cs = m.cells.toList ∧ DRow W m.la m.ll ∧ SRow W m.sa m.sl ∧ m.pfx.size ≤ maxLen := by
  obtain ⟨m, rfl, hd, hs⟩ := open_msg h
  refine ⟨m, rfl, hd, hs, ?_⟩
  obtain ⟨_, n, go⟩ := each_field Tryz.underlying31 (by kernel_rfl) h
  obtain ⟨y6, h6⟩ := go 6 _ rfl
  obtain ⟨k6, e6, _, z6⟩ := DataW.trod_string Tryz.underlying9 (show DataW.trod enc Tryz.prog W 0 (fun _ => true) true n 9 [.string m.pfx] = some y6 from h6)
  have e : m.pfx = k6 := by
    have := (List.cons.inj e6).1
    injection this
  rw [e]
  exact z6
theorem by_valueP {base : Nat} {v : Value} {d : DataW H} {p : List MemPlace} (hv : Value.okWide Tryz.prog W .any base 31 v) (h : DataW.Trod enc Tryz.prog W 0 (fun _ => true) true 31 v d p) :
    ∃ m : M, v = .agg m.cells ∧ DRow W m.la m.ll ∧ SRow W m.sa m.sl ∧ m.pfx.size ≤ maxLen := by
  obtain ⟨cs, rfl, hsz⟩ := okWide_struct Tryz.underlying31 hv
  obtain ⟨fuel, hf⟩ := h
  obtain ⟨m, hm, hd, hs, hp⟩ := open_msgP hf
  have : cs = m.cells := Array.ext' hm
  subst this
  exact ⟨m, rfl, hd, hs, hp⟩
theorem cellsX : Tryz.prog.cellsOf 25 = 7 := by kernel_rfl
theorem trod_struct3 {t : TypeId} {f0 f1 f2 : Field} {fuel : Nat} {cs : List Value} {x : DataW H × List MemPlace} (ht : Tryz.prog.underlying t = some (.struct #[f0, f1, f2])) (h : DataW.trod enc Tryz.prog W 0 (fun _ => true) true fuel t cs = some x) :
    ∃ y0 y1 y2 n, cs.length = Tryz.prog.cellsOf t ∧ DataW.trod enc Tryz.prog W 0 (fun _ => true) true n f0.type ((cs.drop f0.offset).take (Tryz.prog.cellsOf f0.type)) = some y0 ∧
      DataW.trod enc Tryz.prog W 0 (fun _ => true) true n f1.type ((cs.drop f1.offset).take (Tryz.prog.cellsOf f1.type)) = some y1 ∧ DataW.trod enc Tryz.prog W 0 (fun _ => true) true n f2.type ((cs.drop f2.offset).take (Tryz.prog.cellsOf f2.type)) = some y2 := by
  obtain ⟨xs, n, _, rfl, hl, hlen, hf⟩ := DataW.trod_struct ht h
  match xs, hlen with
  | [y0, y1, y2], _ => exact ⟨y0, y1, y2, n, hl, by simpa using hf 0 f0 rfl, by simpa using hf 1 f1 rfl, by simpa using hf 2 f2 rfl⟩
theorem open_str {n : Nat} {c : Value} {y : DataW H × List MemPlace} (h : DataW.trod enc Tryz.prog W 0 (fun _ => true) true n 9 [c] = some y) : ∃ s : ByteArray, c = .string s ∧ s.size ≤ maxLen := by
  obtain ⟨k, e, _, z⟩ := DataW.trod_string Tryz.underlying9 h
  exact ⟨k, (List.cons.inj e).1, z⟩
theorem open_ctx {fuel : Nat} {cs : List Value} {x : DataW H × List MemPlace} (h : DataW.trod enc Tryz.prog W 0 (fun _ => true) true fuel 25 cs = some x) :
    ∃ c : Kx, cs = c.cells.toList ∧ c.p0.size ≤ maxLen ∧ c.p1.size ≤ maxLen ∧ c.p2.size ≤ maxLen ∧ c.p3.size ≤ maxLen ∧ c.n0.size ≤ maxLen ∧ c.n1.size ≤ maxLen ∧ c.id.size ≤ maxLen := by
  obtain ⟨y0, y1, y2, n, hlen, h0, h1, h2⟩ := trod_struct3 Tryz.underlying25 h
  rw [cellsX] at hlen
  have z4 : Tryz.prog.cellsOf 22 = 4 := by kernel_rfl
  have z2 : Tryz.prog.cellsOf 23 = 2 := by kernel_rfl
  have z1 : Tryz.prog.cellsOf 9 = 1 := by kernel_rfl
  match cs, hlen with
  | [c0, c1, c2, c3, c4, c5, c6], _ =>
    have h0 : DataW.trod enc Tryz.prog W 0 (fun _ => true) true n 22 [c0, c1, c2, c3] = some y0 := by
      have := h0
      rw [z4] at this
      exact this
    have h1 : DataW.trod enc Tryz.prog W 0 (fun _ => true) true n 23 [c4, c5] = some y1 := by
      have := h1
      rw [z2] at this
      exact this
    have h2 : DataW.trod enc Tryz.prog W 0 (fun _ => true) true n 9 [c6] = some y2 := by
      have := h2
      rw [z1] at this
      exact this
    obtain ⟨xs, m, _, _, _, hxl, hi⟩ := DataW.trod_array Tryz.underlying22 h0
    obtain ⟨ys, m', _, _, _, hyl, hj⟩ := DataW.trod_array Tryz.underlying23 h1
    have a0 := hi 0 (by decide)
    have a1 := hi 1 (by decide)
    have a2 := hi 2 (by decide)
    have a3 := hi 3 (by decide)
    have b0 := hj 0 (by decide)
    have b1 := hj 1 (by decide)
    rw [z1] at a0 a1 a2 a3 b0 b1
    rw [List.getElem?_eq_getElem (by omega)] at a0 a1 a2 a3 b0 b1
    obtain ⟨s0, rfl, q0⟩ := open_str (show DataW.trod enc Tryz.prog W 0 (fun _ => true) true m 9 [c0] = some _ from a0)
    obtain ⟨s1, rfl, q1⟩ := open_str (show DataW.trod enc Tryz.prog W 0 (fun _ => true) true m 9 [c1] = some _ from a1)
    obtain ⟨s2, rfl, q2⟩ := open_str (show DataW.trod enc Tryz.prog W 0 (fun _ => true) true m 9 [c2] = some _ from a2)
    obtain ⟨s3, rfl, q3⟩ := open_str (show DataW.trod enc Tryz.prog W 0 (fun _ => true) true m 9 [c3] = some _ from a3)
    obtain ⟨s4, rfl, q4⟩ := open_str (show DataW.trod enc Tryz.prog W 0 (fun _ => true) true m' 9 [c4] = some _ from b0)
    obtain ⟨s5, rfl, q5⟩ := open_str (show DataW.trod enc Tryz.prog W 0 (fun _ => true) true m' 9 [c5] = some _ from b1)
    obtain ⟨s6, rfl, q6⟩ := open_str h2
    exact ⟨⟨s0, s1, s2, s3, s4, s5, s6⟩, rfl, q0, q1, q2, q3, q4, q5, q6⟩
/-- No text is longer than any may be. -/
def Fit (c : Kx) : Prop := c.p0.size ≤ maxLen ∧ c.p1.size ≤ maxLen ∧ c.p2.size ≤ maxLen ∧ c.p3.size ≤ maxLen ∧ c.n0.size ≤ maxLen ∧ c.n1.size ≤ maxLen ∧ c.id.size ≤ maxLen
theorem by_ctx {base : Nat} {v : Value} {d : DataW H} {p : List MemPlace} (hv : Value.okWide Tryz.prog W .any base 25 v) (h : DataW.Trod enc Tryz.prog W 0 (fun _ => true) true 25 v d p) :
    ∃ c : Kx, v = .agg c.cells ∧ Fit c := by
  obtain ⟨cs, rfl, hsz⟩ := okWide_struct Tryz.underlying25 hv
  obtain ⟨fuel, hf⟩ := h
  obtain ⟨c, hm, hok⟩ := open_ctx hf
  have : cs = c.cells := Array.ext' hm
  subst this
  exact ⟨c, rfl, hok⟩
end
end Go.Proofs.YteecialdkfaejaaGreatDoor.Kb
namespace Go.Proofs.YteecialdkfaejaaGreatDoor.Tc
open Go.RowKit Go.ChangeShapes Go.WideShapes Go.Joins
set_option maxRecDepth 100000

/-- What the variable has. -/
structure Tab (w : World) : Prop where
  s0 : w.cell? ⟨0, 0, none⟩ = some (.int .i64 0)
  s1 : w.cell? ⟨0, 1, none⟩ = some (.int .i64 0)
  s2 : w.cell? ⟨0, 2, none⟩ = some (.int .i64 0)
  s3 : w.cell? ⟨0, 3, none⟩ = some (.int .i64 32)
  s4 : w.cell? ⟨0, 4, none⟩ = some (.int .i64 0)
  s5 : w.cell? ⟨0, 5, none⟩ = some (.int .i64 128)
  s6 : w.cell? ⟨0, 6, none⟩ = some (.int .i64 64)
  s7 : w.cell? ⟨0, 7, none⟩ = some (.int .i64 128)
  z0 : w.cell? ⟨1, 0, none⟩ = some (.int .i64 0)
  z1 : w.cell? ⟨1, 1, none⟩ = some (.int .i64 4)
  z2 : w.cell? ⟨1, 2, none⟩ = some (.int .i64 16)
  z3 : w.cell? ⟨1, 3, none⟩ = some (.int .i64 8)
theorem g0 : Tryz.prog.globalNamed "roadbook/route.spans" = some 0 := by kernel_rfl
theorem gz : Tryz.prog.globalNamed "roadbook/ctx.sizes" = some 1 := by kernel_rfl
theorem tz : (Tryz.prog.globals[1]?).map (·.type) = some 88 := by kernel_rfl
theorem t0 : (Tryz.prog.globals[0]?).map (·.type) = some 87 := by kernel_rfl
theorem eight {α : Type} (l : List α) (h : l.length = 8) : ∃ a b c d e f g i, l = [a, b, c, d, e, f, g, i] := by
  match l, h with
  | [a, b, c, d, e, f, g, i], _ => exact ⟨a, b, c, d, e, f, g, i, rfl⟩
theorem of_laid {w : World} (h : laidMetH Tryz.prog [("roadbook/route.spans", Rows.laid_roadbook_route_spans), ("roadbook/ctx.sizes", Rows.laid_roadbook_ctx_sizes)] w) : Tab w := by
  have h : laidMet Tryz.prog [("roadbook/route.spans", Rows.laid_roadbook_route_spans), ("roadbook/ctx.sizes", Rows.laid_roadbook_ctx_sizes)] w := by
    rw [MakeChecks.laidMetH_plain _ _ _ (by kernel_rfl)] at h; exact h
  have hz : Lib.TabIs Tryz.prog w "roadbook/ctx.sizes" .i64 [0, 4, 16, 8] := Lib.tabIs_of_head gz tz Tryz.underlying88 Tryz.underlying3 (by kernel_rfl) (by kernel_rfl) (rest := _) (by exact h.tail)
  obtain ⟨ps, ⟨g', t', cs, f, p, q, hg', ht', hv, hd, _, _⟩, _⟩ := h
  obtain rfl := Option.some.inj (g0.symm.trans hg')
  obtain rfl := Option.some.inj (t0.symm.trans ht')
  have cS : Tryz.prog.cellsOf 86 = 2 := by kernel_rfl
  have cA : Tryz.prog.cellsOf 87 = 8 := by kernel_rfl
  have c3 : Tryz.prog.cellsOf 3 = 1 := by kernel_rfl
  obtain ⟨xs, m, _, ex, hl, hn, hel⟩ := DataW.trod_array Tryz.underlying87 hd
  rw [cA] at hl
  obtain ⟨a0, a1, a2, a3, a4, a5, a6, a7, hcs⟩ := eight _ hl
  have e0 := hel 0 (by decide)
  have e1 := hel 1 (by decide)
  have e2 := hel 2 (by decide)
  have e3 := hel 3 (by decide)
  rw [cS, hcs] at e0 e1 e2 e3
  match xs, hn, ex, e0, e1, e2, e3 with
  | [x0, x1, x2, x3], _, ex, e0, e1, e2, e3 =>
    simp only [List.drop_zero, List.take_succ_cons, List.take_zero, Nat.zero_mul, Nat.one_mul, Nat.reduceMul, List.drop_succ_cons, List.getElem?_cons_zero, List.getElem?_cons_succ] at e0 e1 e2 e3
    obtain ⟨y0, y1, n0, hx0, _, f0, f1⟩ := trod_struct2 Tryz.underlying86 e0
    obtain ⟨y2, y3, n1, hx1, _, f2, f3⟩ := trod_struct2 Tryz.underlying86 e1
    obtain ⟨y4, y5, n2, hx2, _, f4, f5⟩ := trod_struct2 Tryz.underlying86 e2
    obtain ⟨y6, y7, n3, hx3, _, f6, f7⟩ := trod_struct2 Tryz.underlying86 e3
    simp only [c3, List.drop_zero, List.take_succ_cons, List.take_zero, List.drop_succ_cons] at f0 f1 f2 f3 f4 f5 f6 f7
    obtain ⟨b0, q0, k0, _⟩ := DataW.trod_int Tryz.underlying3 f0
    obtain ⟨b1, q1, k1, _⟩ := DataW.trod_int Tryz.underlying3 f1
    obtain ⟨b2, q2, k2, _⟩ := DataW.trod_int Tryz.underlying3 f2
    obtain ⟨b3, q3, k3, _⟩ := DataW.trod_int Tryz.underlying3 f3
    obtain ⟨b4, q4, k4, _⟩ := DataW.trod_int Tryz.underlying3 f4
    obtain ⟨b5, q5, k5, _⟩ := DataW.trod_int Tryz.underlying3 f5
    obtain ⟨b6, q6, k6, _⟩ := DataW.trod_int Tryz.underlying3 f6
    obtain ⟨b7, q7, k7, _⟩ := DataW.trod_int Tryz.underlying3 f7
    subst k0 k1 k2 k3 k4 k5 k6 k7
    subst hx0 hx1 hx2 hx3
    simp [Rows.laid_roadbook_route_spans] at ex
    obtain ⟨⟨⟨r0, r1⟩, ⟨r2, r3⟩, ⟨r4, r5⟩, r6, r7⟩, _⟩ := ex
    simp only [List.cons.injEq, and_true] at q0 q1 q2 q3 q4 q5 q6 q7
    have hc : ∀ i, w.cell? ⟨0, i, none⟩ = cs.toList[i]? := fun i => by have := World.var?_cell g0 hv i; simpa using this
    rw [hcs] at hc
    subst q0 q1 q2 q3 q4 q5 q6 q7
    subst r0 r1 r2 r3 r4 r5 r6 r7
    exact ⟨hc 0, hc 1, hc 2, hc 3, hc 4, hc 5, hc 6, hc 7, hz.cell gz 0 (by decide), hz.cell gz 1 (by decide), hz.cell gz 2 (by decide), hz.cell gz 3 (by decide)⟩
theorem Tab.pos {w : World} (h : Tab w) : 1 < w.heap.size := by
  have h1 := World.block_lt_of_cell? _ _ h.s0
  have h2 := World.block_lt_of_cell? _ _ h.z0
  have h1 : 0 < w.heap.size := h1
  have h2 : 1 < w.heap.size := h2
  omega
/-- .. and behind whatever leaves the first two blocks as they were. -/
theorem Tab.under {B : Nat} {w w' : World} (h : Tab w) (hb : Below B w w') (hB : 1 < B) : Tab w' := by
  have c : ∀ b i, b ≤ 1 → w'.cell? ⟨b, i, none⟩ = w.cell? ⟨b, i, none⟩ := fun b i hi => hb.cell (p := ⟨b, i, none⟩) (by show b < B; omega)
  exact ⟨(c _ _ (by decide)).trans h.s0, (c _ _ (by decide)).trans h.s1, (c _ _ (by decide)).trans h.s2, (c _ _ (by decide)).trans h.s3, (c _ _ (by decide)).trans h.s4, (c _ _ (by decide)).trans h.s5, (c _ _ (by decide)).trans h.s6, (c _ _ (by decide)).trans h.s7, (c _ _ (by decide)).trans h.z0, (c _ _ (by decide)).trans h.z1, (c _ _ (by decide)).trans h.z2, (c _ _ (by decide)).trans h.z3⟩
theorem Tab.below {w w' : World} (h : Tab w) (hb : Below w.heap.size w w') : Tab w' := h.under hb h.pos
theorem Tab.drew {w : World} (h : Tab w) : Tab w.drew := ⟨h.s0, h.s1, h.s2, h.s3, h.s4, h.s5, h.s6, h.s7, h.z0, h.z1, h.z2, h.z3⟩
end Go.Proofs.YteecialdkfaejaaGreatDoor.Tc
namespace Go.Proofs.YteecialdkfaejaaGreatDoor.F2
open Go.ChangeShapes Go.WideShapes Go.ChangeAt Go.RowKit
open Go.Proofs.YteecialdkfaejaaGreatDoor.F1
open Go.Proofs.YteecialdkfaejaaGreatDoor.Nu
open Go.Proofs.YteecialdkfaejaaGreatDoor.Cur (numL num_yes num_no text_yes text_no new_any left_ok hasB)
open Go.Proofs.YteecialdkfaejaaGreatDoor.Bk (Bk Sh shC cur cur_one loadVarK wpList_builtK wpList_loadK wpList_storeK run_loadK below_setRow alloc_size)
open Go.Proofs.YteecialdkfaejaaGreatDoor.Hs
open Go.Proofs.YteecialdkfaejaaGreatDoor.Hx (conv8 ex_built H.storeRow)
set_option linter.unusedVariables false
set_option maxRecDepth 100000
set_option maxRecDepth 100000

theorem bcall {w W w1 : World} (h : Below w.heap.size w W) (hb : Below W.heap.size W w1) : Below w.heap.size w w1 := h.trans (hb.mono h.size)
theorem balloc {w W : World} (h : Below w.heap.size w W) (o : Obj) : Below w.heap.size w (W.alloc o) := h.alloc h.size o
theorem idx (b : ByteArray) (k : Nat) (i : Int) (hi : i = k) (h : k < b.size) (W : World) : (Instr.index 9 (.string b) (.int .i64 i)).run Tryz.prog W = .ok (.int .u8 (bt b k)) W := by
  subst hi
  rw [run_index_string W 9 b .i64 (k : Int) Tryz.underlying9, dif_pos ⟨by omega, by omega⟩, ← bt_eq b k h]
  rfl
theorem sl_m (s : ByteArray) (i j : Int) (lo hi : Nat) (hi' : i = lo) (hj : j = hi) (h1 : lo ≤ hi) (h2 : hi ≤ s.size) (W : World) :
    (Instr.slice 9 (.string s) (some (.int .i64 i)) (some (.int .i64 j)) none).run Tryz.prog W = .ok (.string (s.extract lo hi)) W := by
  subst hi' hj
  have := run_slice_string (P := Tryz.prog) W 9 s .i64 .i64 (lo : Int) (hi : Int) Tryz.underlying9 (by omega) (by omega) (by omega)
  simpa using this
theorem sl_l (s : ByteArray) (i : Int) (lo hi : Nat) (hi' : i = lo) (h1 : lo ≤ s.size) (hs : s.size = hi) (W : World) :
    (Instr.slice 9 (.string s) (some (.int .i64 i)) none none).run Tryz.prog W = .ok (.string (s.extract lo hi)) W := by
  subst hi' hs
  have := run_slice_string_l (P := Tryz.prog) (t := 9) (s := s) W Tryz.underlying9 .i64 (lo : Int) (by omega) (by omega)
  simpa using this
/-- An empty cursor's cells. -/
def noC : Array Value := cur ⟨#[]⟩ 0 0 false
/-- One number off a cursor that may be, whether it is all there or not. -/
theorem num_any (s : ByteArray) (p : Nat) (x : Bool) (k : Nat) (hs : s.size ≤ 1048576) (hp : p ≤ s.size) (h1 : 1 ≤ k) (h7 : k ≤ 7) :
    ∃ (v : Int) (q : Nat) (y : Bool), q ≤ s.size ∧ (y = false → x = false ∧ q = p + k ∧ p + k ≤ s.size) ∧
      ∀ w, Calls Tryz.prog 104 #[.agg (cur s p s.size x), .int .i64 k] w fun e w' => e = .returned (.tuple #[.int .i64 v, .agg (cur s q s.size y)]) ∧ Below w.heap.size w w' := by
  have hm : s.size ≤ maxLen := by unfold maxLen; omega
  by_cases h : x = false ∧ p + k ≤ s.size
  · obtain ⟨rfl, h⟩ := h
    refine ⟨((numL ((s.data.toList.drop p).take k) : Nat) : Int), p + k, false, h, fun _ => ⟨rfl, rfl, h⟩, fun w => ?_⟩
    have := num_yes s p s.size k w hm hp (Nat.le_refl _) h h1 h7
    unfold cur
    push_cast
    exact this
  · have hb : hasB p s.size k x = false := by
      unfold hasB
      cases x with
      | true => rfl
      | false =>
        have h2 : ¬ p + k ≤ s.size := fun hh => h ⟨rfl, hh⟩
        simp only [Bool.not_false, Bool.true_and, Bool.and_eq_false_iff, decide_eq_false_iff_not]
        right
        omega
    exact ⟨0, p, true, hp, (fun h => nomatch h), fun w => num_no s p s.size k x w hm hp (Nat.le_refl _) hb (by omega) (by omega)⟩
theorem num_is (s : ByteArray) (p : Nat) (hs : s.size ≤ 1048576) (h : p + 1 ≤ s.size) (w : World) :
    Calls Tryz.prog 104 #[.agg (cur s p s.size false), .int .i64 1] w fun e w' => e = .returned (.tuple #[.int .i64 (bt s p), .agg (cur s (p + 1 : Nat) s.size false)]) ∧ Below w.heap.size w w' := by
  have := num_yes s p s.size 1 w (by unfold maxLen; omega) (by omega) (Nat.le_refl _) h (by omega) (by omega)
  rw [num_one s p (by omega)] at this
  unfold cur
  push_cast
  exact this

end Go.Proofs.YteecialdkfaejaaGreatDoor.F2
namespace Go.Proofs.YteecialdkfaejaaGreatDoor.J2
open Go.ChangeShapes Go.WideShapes Go.ChangeAt Go.RowKit
open Go.Proofs.YteecialdkfaejaaGreatDoor.Ms
open Go.Proofs.YteecialdkfaejaaGreatDoor.Box
open Go.Proofs.YteecialdkfaejaaGreatDoor.S1
open Go.Proofs.YteecialdkfaejaaGreatDoor.Lk
open Go.Proofs.YteecialdkfaejaaGreatDoor.Nu (text_eq)
open Go.Proofs.YteecialdkfaejaaGreatDoor.J1
open Go.Proofs.YteecialdkfaejaaGreatDoor.An
open Go.Proofs.YteecialdkfaejaaGreatDoor.Tc
open Go.Proofs.YteecialdkfaejaaGreatDoor.Oct (fitsB)
open Go.Proofs.YteecialdkfaejaaGreatDoor.Bits (keepL keepL_length)
open Go.Proofs.YteecialdkfaejaaGreatDoor.Pre (leastN cutL fillL fillL_length rightZ)
open Go.Proofs.YteecialdkfaejaaGreatDoor.Hs
open Go.Proofs.YteecialdkfaejaaGreatDoor.Or (st_yes)
set_option linter.unusedVariables false
set_option maxRecDepth 100000
set_option maxRecDepth 100000
theorem bool_eq {a b : Bool} (h : a = b) : Ending.returned (.bool a) = .returned (.bool b) := by rw [h]
theorem int_eq {a b : Int} (h : a = b) : Ending.returned (.int .i64 a) = .returned (.int .i64 b) := by rw [h]
theorem str_eq {a b : ByteArray} (h : a = b) : Ending.returned (.string a) = .returned (.string b) := by rw [h]
theorem len_is (ae p : Int) : lenB ae p = (decide (0 ≤ ae) && (decide (ae ≤ 3) && (decide (minA ae ≤ p) && decide (p ≤ maxA ae)))) := rfl
theorem size_eq (a : ByteArray) (k : Nat) : ((a.size : Int) == (k : Int)) = decide (a.size = k) := by rw [Bool.eq_iff_iff]; simp; omega
theorem nil_eq (a : ByteArray) : (a.toList == ([] : List UInt8)) = decide (a.size = 0) := by
  rw [Bool.eq_iff_iff, beq_iff_eq, decide_eq_true_eq, ByteArray.toList_eq, ← size_list, List.length_eq_zero_iff]
theorem nil_em (a : ByteArray) : a.toList.isEmpty = decide (a.size = 0) := by rw [← nil_eq]; cases a.toList <;> rfl
theorem ae_any (n : Int) (w : World) : Calls Tryz.prog 63 #[.int .i64 n] w fun e w' => e = .returned (.bool (decide (0 ≤ n ∧ n ≤ 3))) ∧ w = w' := by
  by_cases h0 : 0 ≤ n
  rotate_left
  · rw [decide_eq_false (fun h => h0 h.1)]
    go_enter Tryz.func63, Tryz.ntmps63
    go_wp2
    go_ret
    exact ⟨rfl, rfl⟩
  by_cases h1 : n ≤ 3
  rotate_left
  · rw [decide_eq_false (fun h => h1 h.2)]
    go_enter Tryz.func63, Tryz.ntmps63
    go_wp2
    go_ret
    exact ⟨bool_eq (decide_eq_false (by omega)), rfl⟩
  rw [decide_eq_true ⟨h0, h1⟩]
  go_enter Tryz.func63, Tryz.ntmps63
  go_wp2
  go_ret
  exact ⟨bool_eq (decide_eq_true (by omega)), rfl⟩
set_option maxHeartbeats 1600000 in
theorem length_any (ae p : Int) (w : World) (ht : Tab w) : Calls Tryz.prog 40 #[.int .i64 ae, .int .i64 p] w fun e w' => e = .returned (.bool (lenB ae p)) ∧ w = w' := by
  have PA := Lib.hid (fun V => ae_any ae V)
  by_cases hi : 0 ≤ ae ∧ ae ≤ 3
  rotate_left
  · have HK := Lib.hid (show lenB ae p = false from by
      cases h : lenB ae p
      · rfl
      · exact absurd ⟨(len_range h).1, (len_range h).2.1⟩ hi)
    rw [decide_eq_false hi] at PA
    clear ht hi
    go_enter Tryz.func40, Tryz.ntmps40
    go_wp2_with fail
    refine (PA.out _).mono ?_
    rintro e w' ⟨rfl, rfl⟩
    go_wp2
    go_ret
    exact ⟨bool_eq HK.out.symm, rfl⟩
  rw [decide_eq_true hi] at PA
  obtain ⟨s0, s1, s2, s3, s4, s5, s6, s7⟩ := ht
  rcases (show ae = 0 ∨ ae = 1 ∨ ae = 2 ∨ ae = 3 by omega) with rfl | rfl | rfl | rfl
  · by_cases h0 : 0 ≤ p
    rotate_left
    · have HK := Lib.hid (show lenB 0 p = false from by rw [len_is, decide_eq_false (show ¬ minA 0 ≤ p from h0)]; rfl)
      clear hi
      go_enter Tryz.func40, Tryz.ntmps40
      go_wp2_with fail
      refine (PA.out _).mono ?_
      rintro e w' ⟨rfl, rfl⟩
      go_wp2
      go_ret
      exact ⟨bool_eq HK.out.symm, rfl⟩
    by_cases h1 : p ≤ 0
    rotate_left
    · have HK := Lib.hid (show lenB 0 p = false from by rw [len_is, decide_eq_false (show ¬ p ≤ maxA 0 from h1), Bool.and_false, Bool.and_false, Bool.and_false])
      have hq : decide (p ≤ 0) = false := decide_eq_false h1
      clear hi
      go_enter Tryz.func40, Tryz.ntmps40
      go_wp2_with fail
      refine (PA.out _).mono ?_
      rintro e w' ⟨rfl, rfl⟩
      go_wp2
      go_ret
      exact ⟨bool_eq HK.out.symm, rfl⟩
    have HK := Lib.hid (show lenB 0 p = true from by rw [len_is, decide_eq_true (show minA 0 ≤ p from h0), decide_eq_true (show p ≤ maxA 0 from h1)]; rfl)
    have hq : decide (p ≤ 0) = true := decide_eq_true h1
    clear hi
    go_enter Tryz.func40, Tryz.ntmps40
    go_wp2_with fail
    refine (PA.out _).mono ?_
    rintro e w' ⟨rfl, rfl⟩
    go_wp2
    go_ret
    exact ⟨bool_eq HK.out.symm, rfl⟩
  · by_cases h0 : 0 ≤ p
    rotate_left
    · have HK := Lib.hid (show lenB 1 p = false from by rw [len_is, decide_eq_false (show ¬ minA 1 ≤ p from h0)]; rfl)
      clear hi
      go_enter Tryz.func40, Tryz.ntmps40
      go_wp2_with fail
      refine (PA.out _).mono ?_
      rintro e w' ⟨rfl, rfl⟩
      go_wp2
      go_ret
      exact ⟨bool_eq HK.out.symm, rfl⟩
    by_cases h1 : p ≤ 32
    rotate_left
    · have HK := Lib.hid (show lenB 1 p = false from by rw [len_is, decide_eq_false (show ¬ p ≤ maxA 1 from h1), Bool.and_false, Bool.and_false, Bool.and_false])
      have hq : decide (p ≤ 32) = false := decide_eq_false h1
      clear hi
      go_enter Tryz.func40, Tryz.ntmps40
      go_wp2_with fail
      refine (PA.out _).mono ?_
      rintro e w' ⟨rfl, rfl⟩
      go_wp2
      go_ret
      exact ⟨bool_eq HK.out.symm, rfl⟩
    have HK := Lib.hid (show lenB 1 p = true from by rw [len_is, decide_eq_true (show minA 1 ≤ p from h0), decide_eq_true (show p ≤ maxA 1 from h1)]; rfl)
    have hq : decide (p ≤ 32) = true := decide_eq_true h1
    clear hi
    go_enter Tryz.func40, Tryz.ntmps40
    go_wp2_with fail
    refine (PA.out _).mono ?_
    rintro e w' ⟨rfl, rfl⟩
    go_wp2
    go_ret
    exact ⟨bool_eq HK.out.symm, rfl⟩
  · by_cases h0 : 0 ≤ p
    rotate_left
    · have HK := Lib.hid (show lenB 2 p = false from by rw [len_is, decide_eq_false (show ¬ minA 2 ≤ p from h0)]; rfl)
      clear hi
      go_enter Tryz.func40, Tryz.ntmps40
      go_wp2_with fail
      refine (PA.out _).mono ?_
      rintro e w' ⟨rfl, rfl⟩
      go_wp2
      go_ret
      exact ⟨bool_eq HK.out.symm, rfl⟩
    by_cases h1 : p ≤ 128
    rotate_left
    · have HK := Lib.hid (show lenB 2 p = false from by rw [len_is, decide_eq_false (show ¬ p ≤ maxA 2 from h1), Bool.and_false, Bool.and_false, Bool.and_false])
      have hq : decide (p ≤ 128) = false := decide_eq_false h1
      clear hi
      go_enter Tryz.func40, Tryz.ntmps40
      go_wp2_with fail
      refine (PA.out _).mono ?_
      rintro e w' ⟨rfl, rfl⟩
      go_wp2
      go_ret
      exact ⟨bool_eq HK.out.symm, rfl⟩
    have HK := Lib.hid (show lenB 2 p = true from by rw [len_is, decide_eq_true (show minA 2 ≤ p from h0), decide_eq_true (show p ≤ maxA 2 from h1)]; rfl)
    have hq : decide (p ≤ 128) = true := decide_eq_true h1
    clear hi
    go_enter Tryz.func40, Tryz.ntmps40
    go_wp2_with fail
    refine (PA.out _).mono ?_
    rintro e w' ⟨rfl, rfl⟩
    go_wp2
    go_ret
    exact ⟨bool_eq HK.out.symm, rfl⟩
  · by_cases h0 : 64 ≤ p
    rotate_left
    · have HK := Lib.hid (show lenB 3 p = false from by rw [len_is, decide_eq_false (show ¬ minA 3 ≤ p from h0)]; rfl)
      clear hi
      go_enter Tryz.func40, Tryz.ntmps40
      go_wp2_with fail
      refine (PA.out _).mono ?_
      rintro e w' ⟨rfl, rfl⟩
      go_wp2
      go_ret
      exact ⟨bool_eq HK.out.symm, rfl⟩
    by_cases h1 : p ≤ 128
    rotate_left
    · have HK := Lib.hid (show lenB 3 p = false from by rw [len_is, decide_eq_false (show ¬ p ≤ maxA 3 from h1), Bool.and_false, Bool.and_false, Bool.and_false])
      have hq : decide (p ≤ 128) = false := decide_eq_false h1
      clear hi
      go_enter Tryz.func40, Tryz.ntmps40
      go_wp2_with fail
      refine (PA.out _).mono ?_
      rintro e w' ⟨rfl, rfl⟩
      go_wp2
      go_ret
      exact ⟨bool_eq HK.out.symm, rfl⟩
    have HK := Lib.hid (show lenB 3 p = true from by rw [len_is, decide_eq_true (show minA 3 ≤ p from h0), decide_eq_true (show p ≤ maxA 3 from h1)]; rfl)
    have hq : decide (p ≤ 128) = true := decide_eq_true h1
    clear hi
    go_enter Tryz.func40, Tryz.ntmps40
    go_wp2_with fail
    refine (PA.out _).mono ?_
    rintro e w' ⟨rfl, rfl⟩
    go_wp2
    go_ret
    exact ⟨bool_eq HK.out.symm, rfl⟩
def famN (a : ByteArray) : Int := if a.size = 4 then 0 else if a.size = 16 then 1 else -1
theorem family_any (s : ByteArray) (w : World) : Calls Tryz.prog 16 #[.string s] w fun e w' => e = .returned (.int .i64 (famN s)) ∧ w = w' := by
  by_cases h4 : s.size = 4
  · have HK := Lib.hid (show famN s = 0 by unfold famN; rw [if_pos h4])
    have e0 : ((s.size : Int) == 4) = true := by rw [beq_iff_eq]; omega
    clear h4
    go_enter Tryz.func16, Tryz.ntmps16
    go_wp2
    go_ret
    exact ⟨int_eq HK.out.symm, rfl⟩
  have e0 : ((s.size : Int) == 4) = false := by rw [beq_eq_false_iff_ne]; omega
  by_cases h6 : s.size = 16
  · have HK := Lib.hid (show famN s = 1 by unfold famN; rw [if_neg h4, if_pos h6])
    have e1 : ((s.size : Int) == 16) = true := by rw [beq_iff_eq]; omega
    clear h4 h6
    go_enter Tryz.func16, Tryz.ntmps16
    go_wp2
    go_ret
    exact ⟨int_eq HK.out.symm, rfl⟩
  have e1 : ((s.size : Int) == 16) = false := by rw [beq_eq_false_iff_ne]; omega
  have HK := Lib.hid (show famN s = -1 by unfold famN; rw [if_neg h4, if_neg h6])
  clear h4 h6
  go_enter Tryz.func16, Tryz.ntmps16
  go_wp2
  go_ret
  exact ⟨int_eq HK.out.symm, rfl⟩
theorem fam_0 (a : ByteArray) : (famN a == 0) = decide (a.size = 4) := by
  unfold famN
  by_cases h4 : a.size = 4
  · rw [if_pos h4, decide_eq_true h4]; rfl
  · rw [if_neg h4, decide_eq_false h4]
    split <;> rfl
theorem fam_1 (a : ByteArray) : (famN a == 1) = decide (a.size = 16) := by
  unfold famN
  by_cases h4 : a.size = 4
  · rw [if_pos h4, decide_eq_false (by omega)]; rfl
  · rw [if_neg h4]
    by_cases h6 : a.size = 16
    · rw [if_pos h6, decide_eq_true h6]; rfl
    · rw [if_neg h6, decide_eq_false h6]; rfl
theorem address_any (ae : Int) (a : ByteArray) (w : World) : Calls Tryz.prog 39 #[.int .i64 ae, .string a] w fun e w' => e = .returned (.bool (adrB ae a)) ∧ w = w' := by
  by_cases h0 : ae = 0
  · subst h0
    have HK := Lib.hid (show adrB 0 a = decide (a.size = 0) from rfl)
    have he := nil_eq a
    have he2 := nil_em a
    generalize decide (a.size = 0) = z at *
    generalize adrB 0 a = y at *
    go_enter Tryz.func39, Tryz.ntmps39
    go_wp2
    go_ret
    exact ⟨bool_eq HK.out.symm, rfl⟩
  by_cases h1 : ae = 1
  · subst h1
    have HK := Lib.hid (show adrB 1 a = decide (a.size = 4) from rfl)
    have PF := Lib.hid (fun V => family_any a V)
    have he := fam_0 a
    generalize decide (a.size = 4) = z at *
    generalize adrB 1 a = y at *
    generalize famN a = f at *
    go_enter Tryz.func39, Tryz.ntmps39
    go_wp2_with fail
    refine (PF.out _).mono ?_
    rintro e w' ⟨rfl, rfl⟩
    go_wp2
    go_ret
    exact ⟨bool_eq HK.out.symm, rfl⟩
  by_cases h2 : ae = 2
  · subst h2
    have HK := Lib.hid (show adrB 2 a = decide (a.size = 16) from rfl)
    have PF := Lib.hid (fun V => family_any a V)
    have he := fam_1 a
    generalize decide (a.size = 16) = z at *
    generalize adrB 2 a = y at *
    generalize famN a = f at *
    go_enter Tryz.func39, Tryz.ntmps39
    go_wp2_with fail
    refine (PF.out _).mono ?_
    rintro e w' ⟨rfl, rfl⟩
    go_wp2
    go_ret
    exact ⟨bool_eq HK.out.symm, rfl⟩
  by_cases h3 : ae = 3
  · subst h3
    have HK := Lib.hid (show adrB 3 a = link a from rfl)
    have PF := Lib.hid (fun V => link_any a V)
    generalize link a = z at *
    generalize adrB 3 a = y at *
    go_enter Tryz.func39, Tryz.ntmps39
    go_wp2_with fail
    refine (PF.out _).mono ?_
    rintro e w' ⟨rfl, rfl⟩
    go_wp2
    go_ret
    exact ⟨bool_eq HK.out.symm, rfl⟩
  have HK := Lib.hid (show adrB ae a = false by unfold adrB; rw [if_neg h0, if_neg h1, if_neg h2, if_neg h3])
  have e0 : (ae == 0) = false := by simpa using h0
  have e1 : (ae == 1) = false := by simpa using h1
  have e2 : (ae == 2) = false := by simpa using h2
  have e3 : (ae == 3) = false := by simpa using h3
  go_enter Tryz.func39, Tryz.ntmps39
  go_wp2
  go_ret
  exact ⟨bool_eq HK.out.symm, rfl⟩
set_option maxHeartbeats 1600000 in
theorem in_any (ae : Int) (a : ByteArray) (p : Int) (w : World) (ha : a.size ≤ maxLen) (ht : Tab w) : Calls Tryz.prog 20 #[.int .i64 ae, .string a, .int .i64 p] w fun e w' => e = .returned (.bool (inB ae a p)) ∧ Below w.heap.size w w' := by
  have P1 := Lib.hid (fun V => address_any ae a V)
  have P2 := Lib.hid (length_any ae p w ht)
  have P3 := Lib.hid (fun V => Pre.right_any a p V ha)
  have HK := Lib.hid (show inB ae a p = (adrB ae a && (lenB ae p && (decide (ae = 0) || rightZ a p))) from rfl)
  clear ht ha
  generalize inB ae a p = y at *
  generalize adrB ae a = x1 at *
  generalize lenB ae p = x2 at *
  generalize rightZ a p = x3 at *
  cases x1
  · go_enter Tryz.func20, Tryz.ntmps20
    go_wp2_with fail
    refine (P1.out _).mono ?_
    rintro r w' ⟨rfl, rfl⟩
    go_wp2
    go_ret
    exact ⟨bool_eq HK.out.symm, Below.refl _ _⟩
  cases x2
  · go_enter Tryz.func20, Tryz.ntmps20
    go_wp2_with fail
    refine (P1.out _).mono ?_
    rintro r w' ⟨rfl, rfl⟩
    go_wp2_with fail
    refine (P2.out).mono ?_
    rintro r w' ⟨rfl, rfl⟩
    go_wp2
    go_ret
    exact ⟨bool_eq HK.out.symm, Below.refl _ _⟩
  by_cases h0 : ae = 0
  · subst h0
    go_enter Tryz.func20, Tryz.ntmps20
    go_wp2_with fail
    refine (P1.out _).mono ?_
    rintro r w' ⟨rfl, rfl⟩
    go_wp2_with fail
    refine (P2.out).mono ?_
    rintro r w' ⟨rfl, rfl⟩
    go_wp2
    go_ret
    exact ⟨bool_eq HK.out.symm, Below.refl _ _⟩
  have e0 : (ae == 0) = false := by simpa using h0
  rw [decide_eq_false h0] at HK
  clear h0
  go_enter Tryz.func20, Tryz.ntmps20
  go_wp2_with fail
  refine (P1.out _).mono ?_
  rintro r w' ⟨rfl, rfl⟩
  go_wp2_with fail
  refine (P2.out).mono ?_
  rintro r w' ⟨rfl, rfl⟩
  go_wp2_with fail
  refine (P3.out _).mono ?_
  rintro r w' ⟨rfl, hb⟩
  go_wp2
  go_ret
  exact ⟨bool_eq HK.out.symm, hb⟩
theorem count_any (ae p : Int) (w : World) (h : lenB ae p = true) : Calls Tryz.prog 97 #[.int .i64 ae, .int .i64 p] w fun e w' => e = .returned (.int .i64 (countN ae p : Nat)) ∧ w = w' := by
  have hr := len_range h
  have hc := count_le h
  have P1 := Lib.hid (fun V => Pre.least_any p V (by omega))
  by_cases h3 : ae = 3
  · subst h3
    have HK0 : ((countN 3 p : Nat) : Int) = (leastN p : Int) - 8 := by have : baseN 3 = 8 := rfl; omega
    have hw : wrap64 ((leastN p : Int) - 8) = (leastN p : Int) - 8 := IntWalk.wrap64_in _ ⟨by omega, by have := hc.1; have : baseN 3 = 8 := rfl; omega⟩
    have HK := Lib.hid (hw.trans HK0.symm)
    clear hw HK0
    generalize countN 3 p = c at *
    generalize leastN p = n at *
    clear hr hc h
    go_enter Tryz.func97, Tryz.ntmps97
    go_wp2_with fail
    refine (P1.out _).mono ?_
    rintro r w' ⟨rfl, rfl⟩
    go_wp2
    go_ret
    exact ⟨int_eq HK.out, rfl⟩
  have HK := Lib.hid (show ((countN ae p : Nat) : Int) = (leastN p : Int) from by
    have : baseN ae = 0 := by unfold baseN; rw [if_neg h3]
    omega)
  have e3 : (ae == 3) = false := by simpa using h3
  generalize countN ae p = c at *
  generalize leastN p = n at *
  clear hr hc h
  go_enter Tryz.func97, Tryz.ntmps97
  go_wp2_with fail
  refine (P1.out _).mono ?_
  rintro r w' ⟨rfl, rfl⟩
  go_wp2
  go_ret
  exact ⟨int_eq HK.out.symm, rfl⟩
theorem adr_size {ae : Int} {a : ByteArray} {p : Int} (h : inB ae a p = true) : a.size ≤ 16 := by
  rcases (in_cases h).2 with ⟨_, h0⟩ | ⟨⟨_, h0⟩ | ⟨_, h0⟩ | ⟨_, h0⟩, _⟩
  · omega
  · omega
  · omega
  · have := link_size h0; omega
theorem lay_size {ae : Int} {s : ByteArray} {p : Int} (hl : lenB ae p = true) (hs : s.size = countN ae p) : s.size ≤ 16 := by have := (count_le hl).1; omega
theorem in_0 (a : ByteArray) (p : Int) : inB 0 a p = (decide (a.size = 0) && decide (p = 0)) := by
  unfold inB
  rw [show adrB 0 a = decide (a.size = 0) from rfl, show decide ((0 : Int) = 0) = true from rfl, Bool.true_or, Bool.and_true]
  congr 1
  rw [Bool.eq_iff_iff, decide_eq_true_eq]
  refine ⟨fun h => ?_, fun h => by subst h; rfl⟩
  rcases len_cases h with ⟨_, h⟩ | ⟨h, _⟩ | ⟨h, _⟩ | ⟨h, _⟩
  · exact h
  all_goals omega
theorem in_n {ae : Int} {a : ByteArray} {p : Int} {n : Nat} {z : Int} (h1 : 0 < ae) (h3 : ae ≤ 3) (hm : maxA ae = 8 * (n : Int)) (hz : minA ae = z) (h0 : 0 ≤ z) (hs : adrB ae a = true → a.size = n) : inB ae a p = (adrB ae a && (decide (z ≤ p) && rightZ a p)) := by
  unfold inB
  rw [decide_eq_false (show ¬ ae = 0 by omega), Bool.false_or]
  cases h : adrB ae a
  · rfl
  cases hr : rightZ a p
  · simp
  obtain ⟨r0, r8, _⟩ := right_cases hr
  rw [hs h] at r8
  rw [len_is, decide_eq_true (show 0 ≤ ae by omega), decide_eq_true h3, decide_eq_true (show p ≤ maxA ae by omega), hz]
  simp
set_option maxHeartbeats 3200000 in
theorem rin_any (ae : Int) (a : ByteArray) (p : Int) (w : World) (ha : a.size ≤ maxLen) : Calls Tryz.prog 25 #[.int .i64 ae, .string a, .int .i64 p] w fun e w' => e = .returned (.bool (inB ae a p)) ∧ Below w.heap.size w w' := by
  have P3 := Lib.hid (fun V => Pre.rright_any a p V ha)
  clear ha
  by_cases h0 : ae = 0
  · subst h0
    have HK := Lib.hid (in_0 a p)
    have he := nil_eq a
    have he2 := nil_em a
    generalize decide (a.size = 0) = z at *
    generalize inB 0 a p = y at *
    cases z
    · go_enter Tryz.func25, Tryz.ntmps25
      go_wp2
      go_ret
      exact ⟨bool_eq HK.out.symm, Below.refl _ _⟩
    by_cases hp : p = 0
    · subst hp
      go_enter Tryz.func25, Tryz.ntmps25
      go_wp2
      go_ret
      exact ⟨bool_eq HK.out.symm, Below.refl _ _⟩
    · have ep : (p == 0) = false := by simpa using hp
      rw [decide_eq_false hp] at HK
      go_enter Tryz.func25, Tryz.ntmps25
      go_wp2
      go_ret
      exact ⟨bool_eq HK.out.symm, Below.refl _ _⟩
  by_cases h1 : ae = 1
  · subst h1
    have HK := Lib.hid (in_n (ae := 1) (a := a) (p := p) (n := 4) (z := 0) (by decide) (by decide) rfl rfl (by decide) (fun h => by simpa [adrB] using h))
    have HA := Lib.hid (show adrB 1 a = decide (a.size = 4) from rfl)
    have HR := Lib.hid (fun h : rightZ a p = true => (right_cases h).1)
    have he : ((a.size : Int) == 4) = decide (a.size = 4) := size_eq a 4
    rw [HA.out] at HK
    generalize decide (a.size = 4) = z at *
    generalize inB 1 a p = y at *
    have HK := Lib.hid (show y = (z && rightZ a p) from by
      rw [HK.out]
      cases hr : rightZ a p
      · rw [Bool.and_false]
      · rw [decide_eq_true (HR.out hr)]; rfl)
    clear HR HA
    generalize rightZ a p = x at *
    cases z
    · go_enter Tryz.func25, Tryz.ntmps25
      go_wp2
      go_ret
      exact ⟨bool_eq HK.out.symm, Below.refl _ _⟩
    go_enter Tryz.func25, Tryz.ntmps25
    go_wp2_with fail
    refine (P3.out _).mono ?_
    rintro r w' ⟨rfl, hb⟩
    go_wp2
    go_ret
    exact ⟨bool_eq HK.out.symm, hb⟩
  by_cases h2 : ae = 2
  · subst h2
    have HK := Lib.hid (in_n (ae := 2) (a := a) (p := p) (n := 16) (z := 0) (by decide) (by decide) rfl rfl (by decide) (fun h => by simpa [adrB] using h))
    have HA := Lib.hid (show adrB 2 a = decide (a.size = 16) from rfl)
    have HR := Lib.hid (fun h : rightZ a p = true => (right_cases h).1)
    have he : ((a.size : Int) == 16) = decide (a.size = 16) := size_eq a 16
    rw [HA.out] at HK
    generalize decide (a.size = 16) = z at *
    generalize inB 2 a p = y at *
    have HK := Lib.hid (show y = (z && rightZ a p) from by
      rw [HK.out]
      cases hr : rightZ a p
      · rw [Bool.and_false]
      · rw [decide_eq_true (HR.out hr)]; rfl)
    clear HR HA
    generalize rightZ a p = x at *
    cases z
    · go_enter Tryz.func25, Tryz.ntmps25
      go_wp2
      go_ret
      exact ⟨bool_eq HK.out.symm, Below.refl _ _⟩
    go_enter Tryz.func25, Tryz.ntmps25
    go_wp2_with fail
    refine (P3.out _).mono ?_
    rintro r w' ⟨rfl, hb⟩
    go_wp2
    go_ret
    exact ⟨bool_eq HK.out.symm, hb⟩
  by_cases h3 : ae = 3
  · subst h3
    have HK := Lib.hid (in_n (ae := 3) (a := a) (p := p) (n := 16) (z := 64) (by decide) (by decide) rfl rfl (by decide) (fun h => link_size h))
    have PL := Lib.hid (fun V => rlink_bel a V)
    have HA := Lib.hid (show adrB 3 a = link a from rfl)
    rw [HA.out] at HK
    generalize link a = z at *
    generalize inB 3 a p = y at *
    generalize rightZ a p = x at *
    clear HA
    cases z
    · go_enter Tryz.func25, Tryz.ntmps25
      go_wp2_with fail
      refine (PL.out _).mono ?_
      rintro r w' ⟨rfl, hb⟩
      go_wp2
      go_ret
      exact ⟨bool_eq HK.out.symm, hb⟩
    by_cases hp : 64 ≤ p
    rotate_left
    · rw [decide_eq_false hp] at HK
      go_enter Tryz.func25, Tryz.ntmps25
      go_wp2_with fail
      refine (PL.out _).mono ?_
      rintro r w' ⟨rfl, hb⟩
      go_wp2
      go_ret
      exact ⟨bool_eq HK.out.symm, hb⟩
    rw [decide_eq_true hp] at HK
    go_enter Tryz.func25, Tryz.ntmps25
    go_wp2_with fail
    refine (PL.out _).mono ?_
    rintro r w' ⟨rfl, hb⟩
    have HB := Lib.hid hb
    clear hb
    go_wp2_with fail
    refine (P3.out _).mono ?_
    rintro r w2 ⟨rfl, hb⟩
    go_wp2
    go_ret
    exact ⟨bool_eq HK.out.symm, bcall HB.out hb⟩
  have HK := Lib.hid (show inB ae a p = false by unfold inB adrB; rw [if_neg h0, if_neg h1, if_neg h2, if_neg h3]; rfl)
  have e0 : (ae == 0) = false := by simpa using h0
  have e1 : (ae == 1) = false := by simpa using h1
  have e2 : (ae == 2) = false := by simpa using h2
  have e3 : (ae == 3) = false := by simpa using h3
  go_enter Tryz.func25, Tryz.ntmps25
  go_wp2
  go_ret
  exact ⟨bool_eq HK.out.symm, Below.refl _ _⟩
theorem base_any (ae : Int) (w : World) : Calls Tryz.prog 54 #[.int .i64 ae] w fun e w' => e = .returned (.int .i64 (baseN ae : Nat)) ∧ w = w' := by
  by_cases h3 : ae = 3
  · subst h3
    have HK := Lib.hid (show ((baseN 3 : Nat) : Int) = 8 from rfl)
    go_enter Tryz.func54, Tryz.ntmps54
    go_wp2
    go_ret
    exact ⟨rfl, rfl⟩
  have HK := Lib.hid (show ((baseN ae : Nat) : Int) = 0 by unfold baseN; rw [if_neg h3]; rfl)
  have e3 : (ae == 3) = false := by simpa using h3
  go_enter Tryz.func54, Tryz.ntmps54
  go_wp2
  go_ret
  exact ⟨int_eq HK.out.symm, rfl⟩
set_option maxHeartbeats 1600000 in
theorem great_any (ae p : Int) (w : World) (h0 : 0 ≤ ae) (h3 : ae ≤ 3) (hp : 0 ≤ p) : Calls Tryz.prog 75 #[.int .i64 ae, .int .i64 p] w fun e w' => e = .returned (.bool (!lenB ae p)) ∧ w = w' := by
  rcases (show ae = 0 ∨ ae = 1 ∨ ae = 2 ∨ ae = 3 by omega) with rfl | rfl | rfl | rfl
  · clear h0 h3
    have hl : minA 0 ≤ p := hp
    by_cases hh : p ≤ 0
    rotate_left
    · have HK := Lib.hid (show (!lenB 0 p) = true by rw [len_is, decide_eq_false (show ¬ p ≤ maxA 0 from hh), Bool.and_false, Bool.and_false, Bool.and_false]; rfl)
      generalize (!lenB 0 p) = y at *
      have hq : (p == 0) = false := by simpa using (show ¬ p = 0 by omega)
      have hq2 : (p != 0) = true := by rw [bne, hq]; rfl
      go_enter Tryz.func75, Tryz.ntmps75
      go_wp2
      go_ret
      exact ⟨bool_eq HK.out.symm, rfl⟩
    have HK := Lib.hid (show (!lenB 0 p) = false by rw [len_is, decide_eq_true (show minA 0 ≤ p from hl), decide_eq_true (show p ≤ maxA 0 from hh)]; rfl)
    generalize (!lenB 0 p) = y at *
    obtain rfl : p = 0 := by omega
    go_enter Tryz.func75, Tryz.ntmps75
    go_wp2
    go_ret
    exact ⟨bool_eq HK.out.symm, rfl⟩
  · clear h0 h3
    have hl : minA 1 ≤ p := hp
    by_cases hh : p ≤ 32
    rotate_left
    · have HK := Lib.hid (show (!lenB 1 p) = true by rw [len_is, decide_eq_false (show ¬ p ≤ maxA 1 from hh), Bool.and_false, Bool.and_false, Bool.and_false]; rfl)
      generalize (!lenB 1 p) = y at *
      have hh2 : 32 < p := by omega
      go_enter Tryz.func75, Tryz.ntmps75
      go_wp2
      go_ret
      exact ⟨bool_eq HK.out.symm, rfl⟩
    have HK := Lib.hid (show (!lenB 1 p) = false by rw [len_is, decide_eq_true (show minA 1 ≤ p from hl), decide_eq_true (show p ≤ maxA 1 from hh)]; rfl)
    generalize (!lenB 1 p) = y at *
    have hh2 : ¬ 32 < p := by omega
    go_enter Tryz.func75, Tryz.ntmps75
    go_wp2
    go_ret
    exact ⟨bool_eq HK.out.symm, rfl⟩
  · clear h0 h3
    have hl : minA 2 ≤ p := hp
    by_cases hh : p ≤ 128
    rotate_left
    · have HK := Lib.hid (show (!lenB 2 p) = true by rw [len_is, decide_eq_false (show ¬ p ≤ maxA 2 from hh), Bool.and_false, Bool.and_false, Bool.and_false]; rfl)
      generalize (!lenB 2 p) = y at *
      have hh2 : 128 < p := by omega
      go_enter Tryz.func75, Tryz.ntmps75
      go_wp2
      go_ret
      exact ⟨bool_eq HK.out.symm, rfl⟩
    have HK := Lib.hid (show (!lenB 2 p) = false by rw [len_is, decide_eq_true (show minA 2 ≤ p from hl), decide_eq_true (show p ≤ maxA 2 from hh)]; rfl)
    generalize (!lenB 2 p) = y at *
    have hh2 : ¬ 128 < p := by omega
    go_enter Tryz.func75, Tryz.ntmps75
    go_wp2
    go_ret
    exact ⟨bool_eq HK.out.symm, rfl⟩
  · clear h0 h3
    by_cases hl : 64 ≤ p
    rotate_left
    · have HK := Lib.hid (show (!lenB 3 p) = true by rw [len_is, decide_eq_false (show ¬ minA 3 ≤ p from hl)]; rfl)
      generalize (!lenB 3 p) = y at *
      have hh : ¬ 128 < p := by omega
      go_enter Tryz.func75, Tryz.ntmps75
      go_wp2
      go_ret
      exact ⟨bool_eq HK.out.symm, rfl⟩
    by_cases hh : p ≤ 128
    rotate_left
    · have HK := Lib.hid (show (!lenB 3 p) = true by rw [len_is, decide_eq_false (show ¬ p ≤ maxA 3 from hh), Bool.and_false, Bool.and_false, Bool.and_false]; rfl)
      generalize (!lenB 3 p) = y at *
      have hh2 : 128 < p := by omega
      go_enter Tryz.func75, Tryz.ntmps75
      go_wp2
      go_ret
      exact ⟨bool_eq HK.out.symm, rfl⟩
    have HK := Lib.hid (show (!lenB 3 p) = false by rw [len_is, decide_eq_true (show minA 3 ≤ p from hl), decide_eq_true (show p ≤ maxA 3 from hh)]; rfl)
    generalize (!lenB 3 p) = y at *
    have hh2 : ¬ 128 < p := by omega
    go_enter Tryz.func75, Tryz.ntmps75
    go_wp2
    go_ret
    exact ⟨bool_eq (by rw [HK.out]; exact decide_eq_false (by omega)), rfl⟩
set_option maxHeartbeats 1600000 in
theorem rwhole_any (ae : Int) (s : ByteArray) (p : Int) (w : World) (hl : lenB ae p = true) (hs : s.size = countN ae p) : Calls Tryz.prog 55 #[.int .i64 ae, .string s, .int .i64 p] w fun e w' => e = .returned (.string (wholeP ae s p)) ∧ Below w.heap.size w w' := by
  have hz := lay_size hl hs
  have hwl := whole_len hl hs
  have P2 := Lib.hid (fun V => Bits.rkeep_any ⟨(wholeL ae s).toArray⟩ p V (by rw [mk_size, hwl]; split <;> (try split) <;> omega))
  have P2 := Lib.hid (show ∀ V, Calls Tryz.prog 77 #[.string ⟨(wholeL ae s).toArray⟩, .int .i64 p] V fun e w' => e = .returned (.string (wholeP ae s p)) ∧ Below V.heap.size V w' from P2.out)
  rcases len_cases hl with ⟨rfl, rfl⟩ | ⟨rfl, a, b⟩ | ⟨rfl, a, b⟩ | ⟨rfl, a, b⟩
  · have HK := Lib.hid (show wholeP 0 s 0 = ⟨#[]⟩ from rfl)
    generalize wholeP 0 s 0 = y at *
    clear hz hwl hl hs P2
    go_enter Tryz.func55, Tryz.ntmps55
    go_wp2
    go_ret
    exact ⟨str_eq HK.out.symm, Below.refl _ _⟩
  · have P1 := Lib.hid (fun V => Pre.rfill_any s 4 V (by omega) (by decide))
    have P1 := Lib.hid (show ∀ V, Calls Tryz.prog 78 #[.string s, .int .i64 4] V fun e w' => e = .returned (.string ⟨(wholeL 1 s).toArray⟩) ∧ V = w' from P1.out)
    generalize wholeP 1 s p = y at *
    generalize ByteArray.mk (wholeL 1 s).toArray = x at *
    clear hz hwl hl hs a b
    go_enter Tryz.func55, Tryz.ntmps55
    go_wp2_with fail
    refine (P1.out _).mono ?_
    rintro r w' ⟨rfl, rfl⟩
    go_wp2_with fail
    refine (P2.out _).mono ?_
    rintro r w' ⟨rfl, hb⟩
    go_wp2
    go_ret
    exact ⟨rfl, hb⟩
  · have P1 := Lib.hid (fun V => Pre.rfill_any s 16 V (by omega) (by decide))
    have P1 := Lib.hid (show ∀ V, Calls Tryz.prog 78 #[.string s, .int .i64 16] V fun e w' => e = .returned (.string ⟨(wholeL 2 s).toArray⟩) ∧ V = w' from P1.out)
    generalize wholeP 2 s p = y at *
    generalize ByteArray.mk (wholeL 2 s).toArray = x at *
    clear hz hwl hl hs a b
    go_enter Tryz.func55, Tryz.ntmps55
    go_wp2_with fail
    refine (P1.out _).mono ?_
    rintro r w' ⟨rfl, rfl⟩
    go_wp2_with fail
    refine (P2.out _).mono ?_
    rintro r w' ⟨rfl, hb⟩
    go_wp2
    go_ret
    exact ⟨rfl, hb⟩
  · have P1 := Lib.hid (fun V => Pre.rfill_any s 8 V (by omega) (by decide))
    have hb8 : baseN 3 = 8 := rfl
    have hcn : leastN p ≤ 16 := by unfold leastN; omega
    have hfl : (fillL s.data.toList 8).length = 8 := fillL_length _ _ (by rw [size_list]; have := (count_le hl).2; omega)
    have HG := Lib.hid (show lgA ⟨(fillL s.data.toList (8 : Int).toNat).toArray⟩ = ⟨(wholeL 3 s).toArray⟩ from by
      have hz8 : (ByteArray.mk (fillL s.data.toList 8).toArray).size = 8 := by rw [mk_size, hfl]
      show lgA ⟨(fillL s.data.toList 8).toArray⟩ = _
      unfold lgA
      rw [if_pos hz8]
      exact text_eq (by show _ = lkH.data.toList ++ fillL s.data.toList 8; simp [ByteArray.data_append]))
    have P3 := Lib.hid (fun V => rlong_any ⟨(fillL s.data.toList (8 : Int).toNat).toArray⟩ V)
    rw [HG.out] at P3
    generalize wholeP 3 s p = y at *
    generalize ByteArray.mk (wholeL 3 s).toArray = x at *
    generalize (⟨(fillL s.data.toList (8 : Int).toNat).toArray⟩ : ByteArray) = u at *
    clear hz hwl hl hs a b HG hb8 hcn hfl
    go_enter Tryz.func55, Tryz.ntmps55
    go_wp2_with fail
    refine (P1.out _).mono ?_
    rintro r w' ⟨rfl, rfl⟩
    go_wp2_with fail
    refine (P3.out _).mono ?_
    rintro r w1 ⟨rfl, hb⟩
    have HB := Lib.hid hb
    clear hb
    go_wp2_with fail
    refine (P2.out _).mono ?_
    rintro r w2 ⟨rfl, hb⟩
    go_wp2
    go_ret
    exact ⟨rfl, bcall HB.out hb⟩
end Go.Proofs.YteecialdkfaejaaGreatDoor.J2
