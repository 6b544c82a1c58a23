/-
  strings.Builder's writers and String at a builder of the call's own, as lists of bytes; strings.HasPrefix. Condition: at most 2^47 bytes.
  Lists of texts of a call's own; strings.Join of them with nothing between. Conditions: at most 1000 texts, of at most a million bytes together.
  What is known, in a block of its own, read and changed at an index; the boxes of a call with what is known and a message; texts that are equal. No conditions.
  Whether Subs may be: the program's Right and the document's; whether they are few, and the same, as the statements ask. Condition: lists of at most 2^20 elements.
  A message with the fields of its kind alone: the program's answer, kinds 1 to 4.
  A message with the fields of its kind alone: the program's answer, kinds 5 to 9.
  A message with the fields of its kind alone: the program's answer, kinds 10 to 12.
  A message with the fields of its kind alone: the program's answer, kinds 13 to 14, and none.
  Whether a message is bare: the program's answer and the document's. Condition: lists of at most 2^20 elements.
-/
import Derived.Test.YtfegdblaohhdoaaGreatDoorB02
import Derived.Test.YtfegdblaohhdoaaGreatDoorB03
import Derived.Test.YtfegdblaohhdoaaGreatDoorB04
import Derived.Test.YtfegdblaohhdoaaGreatDoorB05
import Derived.Test.YtfegdblaohhdoaaGreatDoorRows
import Derived.WalkKit
import Derived.ProofKit
import Derived.OpenShut
import Derived.ShutString
import Derived.Below
import Derived.Lib.Hide
import Derived.WalkLawsBesides
import Derived.Outline
import Derived.RegionTactic
import Derived.Deep.RegionWith
import Derived.StillTailTactics
import Derived.Deep.RegionHeld3
import Derived.Deep.QuietTactic
import Derived.BigQuiet
import Derived.IntWalk
import Derived.OwnWalk
import Derived.Laws.CopyOwn
import Derived.Laws.AppendOwn
import Derived.Laws.OwnMore
import Derived.Deep.WholeRow
namespace Go.Proofs.YtfegdblaohhdoaaGreatDoor.Sb
open Go.ChangeShapes Go.WideShapes Go.ChangeAt Go.RowKit
set_option linter.unusedVariables false
set_option maxRecDepth 100000
set_option maxRecDepth 100000

/-- Blocks of other types, but block b, stand still. -/
def Oth (b : Nat) (w w' : World) : Prop := ∀ (k : Nat) (T : TypeId) (cs : Array Value), k ≠ b → T ≠ 5 → w.heap[k]? = some (.cells cs T (0, 0)) → w'.heap[k]? = some (.cells cs T (0, 0))
theorem Oth.refl (b : Nat) (w : World) : Oth b w w := fun _ _ _ _ _ h => h
theorem Oth.set {b : Nat} {w w' : World} (h : Oth b w w') (i : Nat) (v : Value) : Oth b w (w'.setCell ⟨b, i, none⟩ v) := fun g T cs h1 h2 h3 => (heap_setCell_other w' ⟨b, i, none⟩ g v h1).trans (h g T cs h1 h2 h3)
theorem Oth.grown {b B size n : Nat} {w w' w'' : World} {v : Value} {xs : List Value} (h : Oth b w w') (hown : w'.ownsRow B 5 1 v n xs) (hg : w'.grownBy w'' v.ownBlock) : Oth b w w'' := fun g T cs h1 h2 h3 => by
  have h4 := h g T cs h1 h2 h3
  rw [hg.block g (Array.getElem?_eq_some_iff.1 h4).1 (fun e => Lib.ownBlock_ne hown h4 h2 e.symm)]
  exact h4

/-- The call's own builder in block b holds the bytes l; what is new begins at block B. -/
def Bld (B b : Nat) (l : List UInt8) (w : World) : Prop := Lib.IsBuilder 73 5 B b (Lib.byteCells l) w

theorem infoB : (Tryz.prog.info? 5).map (fun i => (i.zero, i.size, i.bytes)) = some (some (.int .u8 0), 1, 1) := by kernel_rfl
theorem sizeB : (Tryz.prog.info? 73).map (·.size) = some 2 := by kernel_rfl
theorem liesB : liesAt Tryz.prog Tryz.prog.depth 73 (2 / Tryz.prog.cellsOf 73) 0 73 1 = true := by kernel_rfl

set_option maxHeartbeats 1000000 in
set_option maxRecDepth 100000 in
theorem check_used (b : Nat) (w : World) (h0 : w.cell? ⟨b, 0, none⟩ = some (.pointer (some ⟨b, 0, none⟩))) :
    Calls Tryz.prog 87 #[.pointer (some ⟨b, 0, none⟩)] w fun e w' => e = .returned (.tuple #[]) ∧ w' = w := by
  obtain ⟨j, hj, _⟩ := Option.map_eq_some_iff.1 sizeB
  go_enter Tryz.func87, Tryz.ntmps87
  go_wp2
  rw [Lib.run_neq_ptr_same w _ Tryz.underlying70 hj]
  go_wp2
  go_end0
  exact ⟨rfl, rfl⟩

set_option maxHeartbeats 1000000 in
set_option maxRecDepth 100000 in
theorem check_fresh (b : Nat) (w : World) (h0 : w.cell? ⟨b, 0, none⟩ = some (.pointer none)) (hsh : w.shape? b = some (73, 2)) (hfz : w.frozen? ⟨b, 0, none⟩ = false) :
    Calls Tryz.prog 87 #[.pointer (some ⟨b, 0, none⟩)] w fun e w' => e = .returned (.tuple #[]) ∧ w' = w.setCell ⟨b, 0, none⟩ (.pointer (some ⟨b, 0, none⟩)) := by
  obtain ⟨j, hj, hjs⟩ := Option.map_eq_some_iff.1 sizeB
  go_enter Tryz.func87, Tryz.ntmps87
  go_wp2
  rw [Lib.run_to_unsafe w ⟨b, 0, none⟩ Tryz.underlying70 Tryz.underlying122 hj (by rw [hjs]; decide) hsh (Nat.zero_lt_succ 1)]
  simp only [Result.andThen]
  rw [Oper.upon_value]
  go_wp2
  rw [run_callFunc_extern Tryz.func121 (by kernel_rfl) (by kernel_rfl) (by kernel_rfl) (e := Extern.AbiNoEscape.same) (by kernel_rfl)]
  rw [Lib.run_noEscape]
  simp only [Result.andThen]
  rw [Oper.upon_value]
  go_wp2
  rw [Lib.run_from_unsafe w ⟨b, 0, none⟩ Tryz.underlying122 Tryz.underlying70 hj hsh liesB]
  simp only [Result.andThen]
  rw [Oper.upon_value]
  go_wp2
  go_end0
  exact ⟨rfl, rfl⟩

set_option maxHeartbeats 1000000 in
theorem check_any (B b : Nat) (l : List UInt8) (w : World) (h : Bld B b l w) :
    Calls Tryz.prog 87 #[.pointer (some ⟨b, 0, none⟩)] w fun e w' => e = .returned (.tuple #[]) ∧ Lib.BuilderAt 73 5 B b (.pointer (some ⟨b, 0, none⟩)) (Lib.byteCells l) w' ∧ Below B w w' ∧ Oth b w w' := by
  rcases h with h | h
  · refine (check_fresh b w h.cell0 h.shape h.frozen0).mono ?_
    rintro e w' ⟨rfl, rfl⟩
    exact ⟨rfl, h.used _, (Below.refl B w).setCell (p := ⟨b, 0, none⟩) h.1 _, (Oth.refl b w).set 0 _⟩
  · refine (check_used b w h.cell0).mono ?_
    rintro e w' ⟨rfl, rfl⟩
    exact ⟨rfl, h, Below.refl B _, Oth.refl b _⟩

theorem lt_of_some {w : World} {b : Nat} {o : Obj} (h : w.heap[b]? = some o) : b < w.heap.size := by
  rcases Nat.lt_or_ge b w.heap.size with h' | h'
  · exact h'
  · simp [Array.getElem?_eq_none h'] at h
theorem neT : (73 : TypeId) ≠ 5 := by decide

set_option maxHeartbeats 2000000 in
set_option maxRecDepth 100000 in
theorem str_any (B b : Nat) (l : List UInt8) (s : ByteArray) (w : World) (h : Bld B b l w) (hlen : l.length + s.size ≤ 140737488355328) (hBw : B ≤ w.heap.size) :
    Calls Tryz.prog 47 #[.pointer (some ⟨b, 0, none⟩), .string s] w fun e w' => e = .returned (.tuple #[.int .i64 s.size, .nilIface]) ∧ Bld B b (l ++ s.data.toList) w' ∧ Below B w w' ∧ Oth b w w' := by
  obtain ⟨i0, hi, hz0, hz1, hz2⟩ := info_parts infoB
  have hbl := Lib.hid (Lib.byteCells_length l)
  have hcs : Lib.byteCells (l ++ s.data.toList) = Lib.byteCells l ++ Lib.strCells s := by rw [Lib.byteCells_append, Lib.strCells_eq]
  go_enter Tryz.func47, Tryz.ntmps47
  go_wp2_with (go_at_call 87; refine (check_any B b l _ h).mono ?_)
  rintro e w1 ⟨rfl, h1, hb1, ho1⟩
  have HO1 := Lib.hid ho1
  clear ho1
  obtain ⟨hB, v, hbk, hown, hne⟩ := h1
  have c0 : w1.cell? ⟨b, 0, none⟩ = some (.pointer (some ⟨b, 0, none⟩)) := by rw [Lib.cell_of_heap hbk]; rfl
  have c1 : w1.cell? ⟨b, 1, none⟩ = some v := by rw [Lib.cell_of_heap hbk]; rfl
  go_wp2_with (at_builtin; refine Lib.wpList_append_own_string _ rfl _ _ 71 9 rfl B 5 i0 Tryz.underlying71 Tryz.underlying9 hi hz0 hz1 hz2 _ _ _ rfl hown s rfl ?c3 ?c4 ?c5 ?_)
  case c3 => have := hbl.out; unfold maxLen; omega
  case c4 => have := hbl.out; omega
  case c5 => have := hb1.size; omega
  intro v' w2 hown' hgrow _
  have hlt : b < w1.heap.size := lt_of_some hbk
  have hb2 : w2.heap[b]? = some (.cells #[.pointer (some ⟨b, 0, none⟩), v] 73 (0, 0)) := by
    rw [hgrow.block b hlt (fun e => hne e.symm)]
    exact hbk
  have d0 : w2.cell? ⟨b, 0, none⟩ = some (.pointer (some ⟨b, 0, none⟩)) := by rw [Lib.cell_of_heap hb2]; rfl
  have d1 : w2.cell? ⟨b, 1, none⟩ = some v := by rw [Lib.cell_of_heap hb2]; rfl
  have f1 : w2.frozen? ⟨b, 1, none⟩ = false := Lib.frozen_of_heap hb2 1
  obtain ⟨ao, n', cap, rfl⟩ : ∃ ao n' cap, v' = .slice ao n' cap := by
    rcases hown'.2 with ⟨hv, _⟩ | ⟨g, cap, cur, hv, _⟩
    · exact ⟨_, _, _, hv⟩
    · exact ⟨_, _, _, hv⟩
  go_wp2
  go_ret2
  refine ⟨rfl, ?_, ?_⟩
  · rw [Bld, hcs]
    exact .inr (Lib.BuilderAt.put (T := 73) (e := 5) hB hb2 (bs' := Lib.byteCells l ++ Lib.strCells s) (by simpa [Lib.strCells_length] using hown') neT)
  · exact ⟨(hb1.grown hgrow (by have := hb1.size; omega) (fun k hk => (hown.lt k hk).1)).setCell (p := ⟨b, 1, none⟩) hB _, (Oth.grown (size := 0) HO1.out hown hgrow).set 1 _⟩

theorem text_any (B b : Nat) (l : List UInt8) (w : World) (h : Bld B b l w) (hBw : B ≤ w.heap.size) :
    Calls Tryz.prog 48 #[.pointer (some ⟨b, 0, none⟩)] w fun e w' => e = .returned (.string ⟨l.toArray⟩) ∧ Below B w w' :=
  Tryz.Builder_String_any B b l w h hBw

theorem own_kept {w w' : World} {B e size n : Nat} {v : Value} {xs : List Value} (h : w.ownsRow B e size v n xs) (hb : Below w.heap.size w w') : w'.ownsRow B e size v n xs := by
  refine ⟨h.1, ?_⟩
  rcases h.2 with h | ⟨g, cap, cur, a, b, c, d⟩
  · exact .inl h
  · exact .inr ⟨g, cap, cur, a, b, by rw [hb.block g (lt_of_some c)]; exact c, d⟩
theorem bld_kept {B b : Nat} {l : List UInt8} {w w' : World} (h : Bld B b l w) (hb : Below w.heap.size w w') : Bld B b l w' := by
  rcases h with ⟨h1, v, h2, h3, h4⟩ | ⟨h1, v, h2, h3, h4⟩
  · exact .inl ⟨h1, v, by rw [hb.block b (lt_of_some h2)]; exact h2, own_kept h3 hb, h4⟩
  · exact .inr ⟨h1, v, by rw [hb.block b (lt_of_some h2)]; exact h2, own_kept h3 hb, h4⟩
end Go.Proofs.YtfegdblaohhdoaaGreatDoor.Sb
namespace Go.Proofs.YtfegdblaohhdoaaGreatDoor.Js
open Go.ChangeShapes Go.WideShapes Go.ChangeAt Go.RowKit
open Go.Proofs.YtfegdblaohhdoaaGreatDoor.Bk (Bk)
open Go.Proofs.YtfegdblaohhdoaaGreatDoor.Sb (Bld)
set_option linter.unusedVariables false
set_option maxRecDepth 100000

/-- The bytes of texts, one behind the other. -/
def flat (l : List ByteArray) : List UInt8 := l.flatMap fun x => x.data.toList
def catJ (l : List ByteArray) : ByteArray := ⟨(flat l).toArray⟩
theorem flat_nil : flat [] = [] := rfl
theorem flat_app (a b : List ByteArray) : flat (a ++ b) = flat a ++ flat b := by simp [flat]
theorem flat_one (x : ByteArray) : flat [x] = x.data.toList := by simp [flat]
theorem flat_succ (l : List ByteArray) (k : Nat) (h : k < l.length) : flat (l.take (k + 1)) = flat (l.take k) ++ l[k].data.toList := by
  rw [List.take_succ_eq_append_getElem h, flat_app, flat_one]
theorem flat_le (l : List ByteArray) (k : Nat) : (flat (l.take k)).length ≤ (flat l).length := by
  have := congrArg List.length (flat_app (l.take k) (l.drop k))
  rw [List.take_append_drop, List.length_append] at this
  omega

theorem add_at (g o j : Nat) : (⟨g, o, none⟩ : Addr).add j = ⟨g, o + j, none⟩ := by
  unfold Addr.add
  split
  · rename_i h; rw [h]; rfl
  · rfl
theorem build_one (x : ByteArray) (w : World) : (Instr.buildSlice 48 1 #[(0, .string x)]).run Tryz.prog w = .ok (.slice (some ⟨w.heap.size, 0, none⟩) 1 1) (w.alloc (.cells #[.string x] 9)) := by
  kernel_rfl
theorem ex_bs {o : Oper} {ρ : Operand → Value} {x : Operand} {s : ByteArray} {w : World} (ho : o.op = .buildSlice 48 1 #[(0, x)]) (hx : ρ x = .string s) :
    (execOp ρ o).run Tryz.prog w = .ok (.value (.slice (some ⟨w.heap.size, 0, none⟩) 1 1)) (w.alloc (.cells #[.string s] 9)) := by
  have e : ((#[(0, x)] : Array (Nat × Operand)).map fun (i, x) => (i, ρ x)) = #[(0, .string s)] := by simp [hx]
  unfold execOp
  simp only [ho, Sem.run_bind, e, build_one, Result.andThen_ok, Sem.run_pure]
theorem bs_one {ops : Array Oper} {rest : List Oper} {o : Oper} {a : Act} {w : World} {Q : Exit → Act → World → Prop} (hgd : o.guard = none) (x : Operand) (ho : o.op = .buildSlice 48 1 #[(0, x)])
    {s : ByteArray} (hx : a.eval x = .string s) (h : wpList Tryz.prog ops Q rest (a.put o.dst (.slice (some ⟨w.heap.size, 0, none⟩) 1 1)) (w.alloc (.cells #[.string s] 9))) : wpList Tryz.prog ops Q (o :: rest) a w :=
  wpList_plain hgd fun K hK => by
    unfold Oper.wp
    rw [ex_bs ho hx]
    exact hK _ _ h
theorem infoT : ∃ i, Tryz.prog.info? 9 = some i ∧ i.zero = some (.string ByteArray.empty) ∧ i.size = 1 ∧ i.bytes ≤ 4096 := by
  have h : (Tryz.prog.info? 9).map (fun i => (i.zero, i.size, decide (i.bytes ≤ 4096))) = some (some (.string ByteArray.empty), 1, true) := by kernel_rfl
  obtain ⟨i, hi, hz⟩ := Option.map_eq_some_iff.1 h
  simp only [Prod.mk.injEq, decide_eq_true_eq] at hz
  exact ⟨i, hi, hz⟩
/-- The cells of a list of texts. -/
def rowT (l : List ByteArray) : List Value := l.map .string
/-- The call's own list of the texts l (what is new begins at block B). -/
def Lst (B : Nat) (w : World) (v : Value) (l : List ByteArray) : Prop := w.ownsRow B 9 1 v l.length (rowT l)
theorem Lst.nil (B : Nat) (w : World) : Lst B w (.slice none 0 0) [] := World.ownsRow_nil w B _ 1
theorem Lst.below {B : Nat} {w w' : World} {v : Value} {l : List ByteArray} (h : Lst B w v l) (hb : Below w.heap.size w w') : Lst B w' v l := by
  refine ⟨h.1, ?_⟩
  rcases h.2 with h | ⟨g, cap, cur, a, b, c, d⟩
  · exact .inl h
  · exact .inr ⟨g, cap, cur, a, b, (hb.block g (Array.getElem?_eq_some_iff.1 c).1).trans c, d⟩
theorem Lst.mono {B B' : Nat} {w : World} {v : Value} {l : List ByteArray} (h : Lst B w v l) (hB : B' ≤ B) : Lst B' w v l := by
  refine ⟨h.1, ?_⟩
  rcases h.2 with h | ⟨g, cap, cur, a, b, c, d⟩
  · exact .inl h
  · exact .inr ⟨g, cap, cur, a, Nat.le_trans hB b, c, d⟩
theorem Lst.under {B g : Nat} {w : World} {v : Value} {l : List ByteArray} (h : Lst B w v l) (hg : g < B) (cs : Array Value) : Lst B (w.setRow g cs) v l := by
  refine ⟨h.1, ?_⟩
  rcases h.2 with h | ⟨k, cap, cur, a, b, c, d⟩
  · exact .inl h
  · exact .inr ⟨k, cap, cur, a, b, (setRow_other w g k cs (by omega)).trans c, d⟩
theorem Lst.cellset {B : Nat} {w : World} {v : Value} {l : List ByteArray} (h : Lst B w v l) {p : Addr} (hg : p.block < B) (u : Value) : Lst B (w.setCell p u) v l := by
  refine ⟨h.1, ?_⟩
  rcases h.2 with h | ⟨k, cap, cur, a, b, c, d⟩
  · exact .inl h
  · exact .inr ⟨k, cap, cur, a, b, (heap_setCell_other w p k u (by omega)).trans c, d⟩
theorem Lst.slice {B : Nat} {w : World} {v : Value} {l : List ByteArray} (h : Lst B w v l) : ∃ a c, v = .slice a l.length c := by
  rcases h.2 with ⟨hv, h0⟩ | ⟨g, cap, cur, hv, _⟩
  · exact ⟨none, 0, by rw [hv, h0]⟩
  · exact ⟨_, _, hv⟩
theorem cells_new (x : ByteArray) (w : World) : ∀ j u, ([Value.string x])[j]? = some u → (w.alloc (.cells #[.string x] 9)).cell? ((⟨w.heap.size, 0, none⟩ : Addr).add j) = some u := by
  intro j u hu
  have := (Bk.Bk.new 9 w #[.string x]).cell j u (by simpa using hu)
  rw [add_at, Nat.zero_add]
  exact this
theorem wp_app {o : Oper} {a : Act} {w : World} {Q : Exit → Act → World → Prop} {K : Act → World → Prop} (s x : Operand)
    (ho : o.op = .call { callee := .builtin .append, args := #[s, x], argTypes := #[48, 48] }) (B : Nat) (v : Value) (l : List ByteArray) (m : ByteArray) (g c : Nat)
    (hs : a.eval s = v) (hown : Lst B w v l) (hx : a.eval x = .slice (some ⟨g, 0, none⟩) 1 c) (hm : ∀ j u, ([Value.string m])[j]? = some u → w.cell? ((⟨g, 0, none⟩ : Addr).add j) = some u)
    (hl : l.length ≤ 100000) (hB : B ≤ w.heap.size)
    (h : ∀ v' w', Lst B w' v' (l ++ [m]) → Below B w w' → w.heap.size ≤ w'.heap.size → K (a.put o.dst v') w') : Oper.wp Tryz.prog o a w K Q := by
  obtain ⟨i0, hi, hz, hsz, hby⟩ := infoT
  refine wp_append_own w s x 48 ho B 9 i0 (.string ByteArray.empty) 1 i0.bytes Tryz.underlying48 hi hz hsz rfl rfl (by decide) v l.length (rowT l) hs hown ⟨g, 0, none⟩ 1 c [.string m] hx rfl hm ?_ (by unfold maxLen; omega) ?_ hB ?_
  · intro u hu
    rw [List.mem_singleton] at hu
    rw [hu]; rfl
  · have : (l.length + 1) * i0.bytes ≤ 100001 * 4096 := Nat.mul_le_mul (by omega) hby
    omega
  · intro v' w' h2 h3 _
    refine h v' w' ?_ ((Below.refl B w).grown h3 hB (fun k hk => (World.ownsRow.lt hown k hk).1)) h3.size
    unfold Lst
    have e : rowT (l ++ [m]) = rowT l ++ [.string m] := by simp [rowT]
    rw [e, List.length_append]
    exact h2
/-- append(v, x), behind the making of the list of x alone. -/
theorem app_one {ops : Array Oper} {rest : List Oper} {o : Oper} {a : Act} {w : World} {Q : Exit → Act → World → Prop} (hgd : o.guard = none) (s x : Operand)
    (ho : o.op = .call { callee := .builtin .append, args := #[s, x], argTypes := #[48, 48] }) (B : Nat) (v : Value) (l : List ByteArray) (m : ByteArray) (g c : Nat)
    (hs : a.eval s = v) (hown : Lst B w v l) (hx : a.eval x = .slice (some ⟨g, 0, none⟩) 1 c) (hm : ∀ j u, ([Value.string m])[j]? = some u → w.cell? ((⟨g, 0, none⟩ : Addr).add j) = some u)
    (hl : l.length ≤ 100000) (hB : B ≤ w.heap.size)
    (h : ∀ v' w', Lst B w' v' (l ++ [m]) → Below B w w' → w.heap.size ≤ w'.heap.size → wpList Tryz.prog ops Q rest (a.put o.dst v') w') : wpList Tryz.prog ops Q (o :: rest) a w :=
  wpList_plain hgd fun K hK => wp_app s x ho B v l m g c hs hown hx hm hl hB fun v' w' h1 h2 h3 => hK _ _ (h v' w' h1 h2 h3)
/-- A list of one text, just made. -/
theorem one_new (x : ByteArray) (w : World) : Lst w.heap.size (w.alloc (.cells #[.string x] 9)) (.slice (some ⟨w.heap.size, 0, none⟩) 1 1) [x] := by
  exact World.ownsRow_lit w #[.string x] 1 (Nat.le_refl _) (by decide) rfl

set_option maxHeartbeats 4000000 in
theorem join_none (a : Option Addr) (c : Nat) (w : World) : Calls Tryz.prog 19 #[.slice a 0 c, .string ⟨#[]⟩] w fun e w' => e = .returned (.string ⟨#[]⟩) ∧ w' = w := by
  go_enter Tryz.func19, Tryz.ntmps19
  go_wp2
  go_ret
  exact ⟨rfl, rfl⟩
set_option maxHeartbeats 4000000 in
theorem join_one (b o c : Nat) (x : ByteArray) (w : World) (hc : w.cell? ⟨b, o, none⟩ = some (.string x)) : Calls Tryz.prog 19 #[.slice (some ⟨b, o, none⟩) 1 c, .string ⟨#[]⟩] w fun e w' => e = .returned (.string x) ∧ w' = w := by
  go_enter Tryz.func19, Tryz.ntmps19
  go_wp2
  go_ret
  exact ⟨rfl, rfl⟩
set_option maxHeartbeats 8000000 in
theorem join_many (b o c : Nat) (xs : List ByteArray) (w : World) (hcells : ∀ j (h : j < xs.length), w.cell? ⟨b, o + j, none⟩ = some (.string xs[j])) (hb : b < w.heap.size) (h2 : 2 ≤ xs.length) (hN : xs.length ≤ 1000) (hcap : xs.length ≤ c) (hlen : (flat xs).length ≤ 1000000) :
    Calls Tryz.prog 19 #[.slice (some ⟨b, o, none⟩) xs.length c, .string ⟨#[]⟩] w fun e w' => e = .returned (.string (catJ xs)) ∧ Below w.heap.size w w' := by
  have HC := Lib.hid hcells
  have HLe := Lib.hid (fun k => Nat.le_trans (flat_le xs k) hlen)
  have hne0 : ((xs.length : Int) == 0) = false := beq_eq_false_iff_ne.2 (by omega)
  have hne1 : ((xs.length : Int) == 1) = false := beq_eq_false_iff_ne.2 (by omega)
  clear hcells hlen
  go_enter Tryz.func19, Tryz.ntmps19
  go_wp2_with fail
  go_loop [5, 41] (fun n i => ∃ k : Nat, k ≤ xs.length ∧ i = .int .i64 k ∧ n = .int .i64 ((flat (xs.take k)).length : Nat)) (fun _ i => xs.length - (intOf i).toNat)
  case atStart => exact ⟨0, Nat.zero_le _, rfl, rfl⟩
  case round =>
    obtain ⟨k, hk, rfl, rfl⟩ := hrel
    by_cases hkn : k < xs.length
    · have hc := HC.out k hkn
      have hstep : (flat (xs.take (k + 1))).length = (flat (xs.take k)).length + xs[k].size := by rw [flat_succ xs k hkn, List.length_append]; simp
      have hb1 := HLe.out (k + 1)
      generalize hA1 : (flat (xs.take (k + 1))).length = A1 at hstep hb1
      generalize (flat (xs.take k)).length = A0 at hstep
      generalize xs[k] = x at *
      have HA1 := Lib.hid hA1
      clear hA1
      go_wp2
      exact ⟨⟨k + 1, by omega, by go_num, by rw [HA1.out]; refine congrArg _ ?_; omega⟩, by simp [intOf]; omega⟩
    · have hke : k = xs.length := by omega
      subst hke
      have hT := HLe.out xs.length
      generalize (flat (xs.take xs.length)).length = T at hT
      go_wp2_with fail
      refine (Tryz.Builder_Grow_fresh w.heap.size w.heap.size T _ (Nat.le_refl _) (heap_alloc_new w _) (by simp) (by omega)).mono ?_
      rintro e w1 ⟨rfl, hg, hb1⟩
      have hb1 : Below w.heap.size w w1 := ((Below.refl w.heap.size w).alloc (Nat.le_refl _) _).trans hb1
      have HW : Hid (Bld w.heap.size w.heap.size (flat (xs.take 0)) w1) := Lib.hid (.inr hg)
      have HB := Lib.hid hb1
      have hz1 := hb1.size
      have h0 : 0 < xs.length := by omega
      have hc0 : w1.cell? ⟨b, o, none⟩ = some (.string xs[0]) := by
        rw [hb1.cell (p := ⟨b, o, none⟩) hb]
        exact HC.out 0 h0
      have hs0 : flat (xs.take 1) = flat (xs.take 0) ++ xs[0].data.toList := flat_succ xs 0 h0
      have hl1 := HLe.out 1
      have HS := Lib.hid hs0
      have hx0 : xs[0].size ≤ 1000000 := by rw [hs0, List.length_append] at hl1; simpa [flat_nil] using hl1
      clear hg hb1 hT hs0 hl1
      generalize xs[0] = x0 at *
      go_wp2_with fail
      refine (Sb.str_any w.heap.size w.heap.size (flat (xs.take 0)) x0 w1 HW.out (by show 0 + x0.size ≤ _; omega) hz1).mono ?_
      rintro e w2 ⟨rfl, hd, hb2, ho⟩
      rw [← HS.out] at hd
      have HD := Lib.hid hd
      have HB := Lib.hid (HB.out.trans hb2)
      clear hd hb2 ho HS HW hc0
      go_wp2_with fail
      go_loopw [65] (fun i wr => ∃ k : Nat, k + 1 ≤ xs.length ∧ i = .int .i64 k ∧ Hid (Bld w.heap.size w.heap.size (flat (xs.take (k + 1))) wr) ∧ Hid (Below w.heap.size w wr)) (fun i _ => xs.length - (intOf i).toNat)
      case atStart => exact ⟨0, h0, rfl, HD, HB⟩
      case round =>
        clear HD HB
        obtain ⟨k, hk', rfl, HD, HW⟩ := hrel
        by_cases hkr : k + 1 < xs.length
        · have hcy : wr.cell? ⟨b, o + 1 + k, none⟩ = some (.string xs[k + 1]) := by
            rw [HW.out.cell (p := ⟨b, o + 1 + k, none⟩) hb, show o + 1 + k = o + (k + 1) by omega]
            exact HC.out (k + 1) hkr
          have HS := Lib.hid (flat_succ xs (k + 1) hkr)
          have hl := HLe.out (k + 1 + 1)
          rw [HS.out, List.length_append] at hl
          have hBw : w.heap.size ≤ wr.heap.size := HW.out.size
          generalize xs[k + 1] = y at *
          generalize flat (xs.take (k + 1)) = bs at *
          have hl : bs.length + y.size ≤ 1000000 := by simpa using hl
          go_wp2_with fail
          refine (Sb.str_any w.heap.size w.heap.size bs ⟨#[]⟩ wr HD.out (by show bs.length + 0 ≤ _; omega) hBw).mono ?_
          rintro e w3 ⟨rfl, hd, hb3, ho⟩
          have hd : Bld w.heap.size w.heap.size bs w3 := by simpa using hd
          have HD := Lib.hid hd
          have HW := Lib.hid (HW.out.trans hb3)
          have hBw3 := HW.out.size
          clear hd hb3 ho
          go_wp2_with fail
          refine (Sb.str_any w.heap.size w.heap.size bs y w3 HD.out (by omega) hBw3).mono ?_
          rintro e w4 ⟨rfl, hd, hb4, ho⟩
          rw [← HS.out] at hd
          have HD := Lib.hid hd
          have HW := Lib.hid (HW.out.trans hb4)
          clear hd hb4 ho HS
          go_wp2
          exact ⟨⟨k + 1, by omega, by go_num, HD, HW⟩, by simp [intOf]; omega⟩
        · have hke : k + 1 = xs.length := by omega
          rw [hke, List.take_length] at HD
          have hBw : w.heap.size ≤ wr.heap.size := HW.out.size
          go_wp2_with fail
          refine (Sb.text_any w.heap.size w.heap.size _ wr HD.out hBw).mono ?_
          rintro e w5 ⟨rfl, hb5⟩
          have HB := Lib.hid (HW.out.trans hb5)
          clear hb5
          go_wp2
          go_ret
          exact ⟨rfl, HB.out⟩
/-- Of a list of a call's own. -/
theorem join_any {B : Nat} (a : Option Addr) (c : Nat) (xs : List ByteArray) (w : World) (h : Lst B w (.slice a xs.length c) xs) (hN : xs.length ≤ 1000) (hlen : (flat xs).length ≤ 1000000) :
    Calls Tryz.prog 19 #[.slice a xs.length c, .string ⟨#[]⟩] w fun e w' => e = .returned (.string (catJ xs)) ∧ Below w.heap.size w w' := by
  match xs, h, hN, hlen with
  | [], _, _, _ => exact (join_none a c w).mono fun e w' ⟨he, hw⟩ => ⟨he, hw ▸ Below.refl _ _⟩
  | x :: l, h, hN, hlen =>
    have hh := h
    rcases h.2 with ⟨_, h0⟩ | ⟨g, cap, cur, hv, hB, hg, hrest⟩
    · simp at h0
    · simp at hv
      obtain ⟨rfl, rfl⟩ := hv
      have hcs : ∀ j (hj : j < (x :: l).length), w.cell? ⟨g, 0 + j, none⟩ = some (.string (x :: l)[j]) := fun j hj => by
        have := World.ownsRow.cells hh (g := g) rfl j (.string (x :: l)[j]) (by
          show ((x :: l).map Value.string)[j]? = _
          rw [List.getElem?_map, List.getElem?_eq_getElem hj]; rfl)
        rw [add_at] at this
        exact this
      have hlt := (Array.getElem?_eq_some_iff.1 hg).1
      match l, hN, hlen, hcs, hh, hrest with
      | [], _, _, hcs, _, _ =>
        refine (join_one g 0 _ x w (hcs 0 (by simp))).mono fun e w' ⟨he, hw⟩ => ⟨?_, hw ▸ Below.refl _ _⟩
        rw [he]
        show Ending.returned (Value.string x) = Ending.returned (Value.string ⟨(flat [x]).toArray⟩)
        rw [flat_one]
      | y :: r, hN, hlen, hcs, hh, hrest =>
        exact join_many g 0 _ (x :: y :: r) w hcs hlt (by simp) hN hrest.1 hlen
end Go.Proofs.YtfegdblaohhdoaaGreatDoor.Js
namespace Go.Proofs.YtfegdblaohhdoaaGreatDoor.Cx
open Go.ChangeShapes Go.WideShapes Go.ChangeAt Go.RowKit
open Go.Proofs.YtfegdblaohhdoaaGreatDoor.Ms
open Go.Proofs.YtfegdblaohhdoaaGreatDoor.Box
open Go.Proofs.YtfegdblaohhdoaaGreatDoor.An
open Go.Proofs.YtfegdblaohhdoaaGreatDoor.K1
open Go.Proofs.YtfegdblaohhdoaaGreatDoor.Kb
open Go.Proofs.YtfegdblaohhdoaaGreatDoor.Bk (Bk alloc_size)
set_option linter.unusedVariables false
set_option maxRecDepth 100000
theorem infoX : (Tryz.prog.info? 25).map (·.size) = some 7 := by kernel_rfl
theorem pf_at {W : World} {b : Nat} {c : Kx} (h : Bk 25 W b c.cells) {k : Nat} (hk : k < 4) : W.cell? ⟨b, k, none⟩ = some (.string (c.pf k)) := by
  rcases (show k = 0 ∨ k = 1 ∨ k = 2 ∨ k = 3 by omega) with rfl | rfl | rfl | rfl
  · exact h.cell 0 _ rfl
  · exact h.cell 1 _ rfl
  · exact h.cell 2 _ rfl
  · exact h.cell 3 _ rfl
theorem nx_at {W : World} {b : Nat} {c : Kx} (h : Bk 25 W b c.cells) {k : Nat} (hk : k < 2) : W.cell? ⟨b, 4 + k, none⟩ = some (.string (c.nx k)) := by
  rcases (show k = 0 ∨ k = 1 by omega) with rfl | rfl
  · exact h.cell 4 _ rfl
  · exact h.cell 5 _ rfl
theorem setP_cs (c : Kx) (a : ByteArray) {k : Nat} (hk : k < 4) : c.cells.setIfInBounds k (.string a) = (c.setP k a).cells := by
  rcases (show k = 0 ∨ k = 1 ∨ k = 2 ∨ k = 3 by omega) with rfl | rfl | rfl | rfl <;> rfl
theorem setN_cs (c : Kx) (a : ByteArray) {k : Nat} (hk : k < 2) : c.cells.setIfInBounds (4 + k) (.string a) = (c.setN k a).cells := by
  rcases (show k = 0 ∨ k = 1 by omega) with rfl | rfl <;> rfl
theorem index4 (b k : Nat) (hk : k < 4) (W : World) : (Instr.indexAt 22 (.pointer (some ⟨b, 0, none⟩)) (.int .i64 (k : Int))).run Tryz.prog W = .ok (.pointer (some ⟨b, k, none⟩)) W := by
  rcases (show k = 0 ∨ k = 1 ∨ k = 2 ∨ k = 3 by omega) with rfl | rfl | rfl | rfl <;> kernel_rfl
theorem index2 (b k : Nat) (hk : k < 2) (W : World) : (Instr.indexAt 23 (.pointer (some ⟨b, 4, none⟩)) (.int .i64 (k : Int))).run Tryz.prog W = .ok (.pointer (some ⟨b, 4 + k, none⟩)) W := by
  rcases (show k = 0 ∨ k = 1 by omega) with rfl | rfl <;> kernel_rfl
theorem ex_index {P : Program} {o : Oper} {ρ : Operand → Value} {T : TypeId} {x y : Operand} {vx vy r : Value} {w : World} (ho : o.op = .indexAddr T x y) (hx : ρ x = vx) (hy : ρ y = vy) (h : (Instr.indexAt T vx vy).run P w = .ok r w) :
    (execOp ρ o).run P w = .ok (.value r) w := by
  unfold execOp
  simp only [ho, hx, hy, Sem.run_bind, h, Result.andThen_ok, Sem.run_pure]
theorem results_mid {P : Program} {fn : Func} {o p q : Nat} {ty : TypeId} (h : fn.results = #[.tmp o, .cell p ty, .tmp q]) (tmps : Array Value) (w : World) (g : Nat) (u : Value)
    (y : Value) (hy : tmps.getD o undef = y) (hp : tmps.getD p undef = .pointer (some ⟨g, 0, none⟩)) (hl : (loadVar ty ⟨g, 0, none⟩).run P w = .ok u w) (v : Value) (hv : tmps.getD q undef = v) :
    (results fn tmps).run P w = .ok (.tuple #[y, u, v]) w := by
  have hy' : tmps[o]?.getD undef = y := by simpa using hy
  have hp' : tmps[p]?.getD undef = .pointer (some ⟨g, 0, none⟩) := by simpa using hp
  have hv' : tmps[q]?.getD undef = v := by simpa using hv
  simp [results, h, hy', hp', hv', asAddr, hl]
theorem str_beq (a b : ByteArray) : (a.toList == b.toList) = decide (a = b) := by
  rw [Bool.eq_iff_iff, beq_iff_eq, decide_eq_true_eq, ByteArray.toList_eq, ByteArray.toList_eq]
  exact ⟨fun h => ByteArray.ext (Array.toList_inj.1 h), fun h => by rw [h]⟩
/-- What the boxes of what is known and of the message hold. -/
structure Us (w : World) (c : Kx) (m : M) (W : World) : Prop where
  s0 : Bk 25 W w.heap.size c.cells
  m0 : Bx W (w.heap.size + 1) m
  i0 : m.In w
  bel : Below w.heap.size w W
theorem Us.i {w W : World} {c : Kx} {m : M} (h : Us w c m W) : m.In W := h.i0.below h.bel
theorem Us.start (w : World) (c : Kx) (m : M) (hm : m.In w) : Us w c m ((w.alloc (.cells c.cells 25)).alloc (.cells m.cells 29)) := by
  refine ⟨(Bk.Bk.new 25 w c.cells).old _, ?_, hm, balloc (balloc (Below.refl _ w) _) _⟩
  have := Bx.new (w.alloc (.cells c.cells 25)) m
  rw [alloc_size] at this
  exact this
theorem Us.call {w V W : World} {c : Kx} {m : M} (h : Us w c m V) (hb : Below V.heap.size V W) : Us w c m W := ⟨h.s0.below hb, h.m0.below hb, h.i0, bcall h.bel hb⟩
theorem Us.drew {w V : World} {c : Kx} {m : M} (h : Us w c m V) : Us w c m V.drew := h.call (Below.refl _ V).drew
/-- One cell of what is known is set. -/
theorem Us.set {w V : World} {c c' : Kx} {m : M} {k : Nat} {v : Value} (h : Us w c m V) (hc : c.cells.setIfInBounds k v = c'.cells) : Us w c' m (V.setCell ⟨w.heap.size, k, none⟩ v) :=
  ⟨h.s0.set hc, h.m0.off (by show w.heap.size + 1 ≠ w.heap.size; omega) v, h.i0, h.bel.setCell (p := ⟨w.heap.size, k, none⟩) (Nat.le_refl _) v⟩
/-- A struct's box behind is stored into. -/
theorem Us.row {w V : World} {c : Kx} {m : M} {g : Nat} (h : Us w c m V) (hg : w.heap.size + 1 < g) (cs : Array Value) : Us w c m (V.setRow g cs) :=
  ⟨h.s0.row (by omega) cs, h.m0.row (by omega) cs, h.i0, Box.below_setRow h.bel (by omega) cs⟩
theorem Us.under {w V W : World} {c : Kx} {m : M} {B : Nat} (h : Us w c m V) (hb : Below B V W) (hB : w.heap.size + 1 < B) : Us w c m W :=
  ⟨h.s0.under hb (by omega), (hb.block _ hB).trans h.m0, h.i0, h.bel.trans (hb.mono (by omega))⟩
/-- The result's box. -/
theorem res_new (w : World) (c : Kx) (m : M) : Bk 25 (((w.alloc (.cells c.cells 25)).alloc (.cells m.cells 29)).alloc (.cells Kx.zero.cells 25)) (w.heap.size + 1 + 1) Kx.zero.cells := by
  have := Bk.Bk.new 25 ((w.alloc (.cells c.cells 25)).alloc (.cells m.cells 29)) Kx.zero.cells
  rw [alloc_size, alloc_size] at this
  exact this
/-- The texts of TLVs. -/
def elB (l : List F1.El) : List ByteArray := l.map fun x => ⟨(F1.enc1 x).toArray⟩
theorem elB_app (a b : List F1.El) : elB (a ++ b) = elB a ++ elB b := by simp [elB]
theorem elB_len (l : List F1.El) : (elB l).length = l.length := by simp [elB]
theorem elB_flat (l : List F1.El) : Js.flat (elB l) = F1.encT l := by
  unfold Js.flat elB F1.encT
  rw [List.flatMap_map]
/-- An answer of texts, what is known behind them, an error. -/
def AnsW (p : List ByteArray × Kx × Int) (w : World) (e : Ending) (w' : World) : Prop :=
  ∃ a k, e = .returned (.tuple #[.slice a p.1.length k, .agg p.2.1.cells, .int .i64 p.2.2]) ∧ Js.Lst w.heap.size w' (.slice a p.1.length k) p.1 ∧ Below w.heap.size w w'
theorem AnsW.no {c : Kx} {d : Int} {p : List ByteArray × Kx × Int} {w w' : World} (h : p = ([], c, d)) (hb : Below w.heap.size w w') : AnsW p w (.returned (.tuple #[.slice none 0 0, .agg c.cells, .int .i64 d])) w' := by
  subst h
  exact ⟨none, 0, rfl, Js.Lst.nil _ _, hb⟩
end Go.Proofs.YtfegdblaohhdoaaGreatDoor.Cx
namespace Go.Proofs.YtfegdblaohhdoaaGreatDoor.S2
open Go.ChangeShapes Go.WideShapes Go.ChangeAt Go.RowKit
open Go.Proofs.YtfegdblaohhdoaaGreatDoor.Ms
open Go.Proofs.YtfegdblaohhdoaaGreatDoor.Cnt
open Go.Proofs.YtfegdblaohhdoaaGreatDoor.S1
set_option linter.unusedVariables false
set_option maxRecDepth 100000
set_option maxRecDepth 100000

set_option maxHeartbeats 1600000 in
theorem right_any (a : Option Addr) (c : Nat) (l : List El) (w : World) (hl : SRow w a l) (ln : l.length ≤ 1048576) (lb : ∀ x ∈ l, x.1.size ≤ 1099511627776) :
    Calls Tryz.prog 55 #[.slice a l.length c] w fun e w' => e = .returned (.bool (okS l)) ∧ Below w.heap.size w w' := by
  have P := Lib.hid (may_any a c l 2 127 w hl ln lb)
  clear lb
  cases hm : mayB l 2 127
  · have HK : Hid (okS l = false) := Lib.hid (by unfold okS; rw [hm]; rfl)
    rw [hm] at P
    clear hm hl ln
    go_enter Tryz.func55, Tryz.ntmps55
    go_wp2_with fail
    refine P.out.mono ?_
    rintro e w1 ⟨rfl, hb⟩
    go_wp2
    go_ret
    exact ⟨bool_eq HK.out.symm, hb⟩
  · have HB := bytesN_most hm
    have PB := Lib.hid (fun W (hb : Below w.heap.size w W) => bytes_any a c l W (hl.below hb) ln (by omega))
    have hb1 : ((bytesN l : Nat) : Int) ≤ 269484032 := by omega
    have hb0 : 0 ≤ ((bytesN l : Nat) : Int) := Int.natCast_nonneg _
    have HK : Hid (okS l = decide (((bytesN l : Nat) : Int) ≤ 200)) := Lib.hid (by unfold okS; rw [hm, Bool.true_and]; simp; omega)
    rw [hm] at P
    clear hm hl ln HB
    generalize ((bytesN l : Nat) : Int) = n at *
    go_enter Tryz.func55, Tryz.ntmps55
    go_wp2_with fail
    refine P.out.mono ?_
    rintro e w1 ⟨rfl, hb⟩
    have HB := Lib.hid hb
    clear hb P
    go_wp2_with fail
    refine (PB.out _ HB.out).mono ?_
    rintro e w2 ⟨rfl, hb⟩
    have HB := Lib.hid (bcall HB.out hb)
    clear hb PB
    go_wp2
    go_ret
    exact ⟨bool_eq HK.out.symm, HB.out⟩
end Go.Proofs.YtfegdblaohhdoaaGreatDoor.S2
namespace Go.Proofs.YtfegdblaohhdoaaGreatDoor.Own
open Go.ChangeShapes Go.WideShapes Go.ChangeAt Go.RowKit
open Go.Proofs.YtfegdblaohhdoaaGreatDoor.Ms
open Go.Proofs.YtfegdblaohhdoaaGreatDoor.Box
open Go.Proofs.YtfegdblaohhdoaaGreatDoor.Same
open Go.Proofs.YtfegdblaohhdoaaGreatDoor.Or
set_option linter.unusedVariables false
set_option maxRecDepth 100000

set_option maxHeartbeats 6400000 in
set_option maxRecDepth 100000 in
theorem own_1 (m : M) (w : World) (hk : m.kind = 1) :
    Calls Tryz.prog 62 #[.agg m.cells] w fun e w' => e = .returned (.tuple #[.agg (M.cells { k1 m with kind := m.kind }), .bool true]) ∧ Below w.heap.size w w' := by
  obtain ⟨b1, b2, b3, bel⟩ := start3 w m
  go_enter Tryz.func62, Tryz.ntmps62
  go_upto_region 2 with fail
  change Code.wp _ _ _ _ (((w.alloc (.cells m.cells 29)).alloc (.cells M.zero.cells 29)).alloc (.cells M.zero.cells 29))
  generalize ((w.alloc (.cells m.cells 29)).alloc (.cells M.zero.cells 29)).alloc (.cells M.zero.cells 29) = V at *
  obtain ⟨c0, c1, c2, c3, c4, c5, c6, c7, c8, c9, c10, c11, c12, c13, c14, c15, c16, c17, c18, c19, c20, c21, c22, c23, c24⟩ := b1.cs
  clear c5 c11 c12 c13 c14 c15 c16 c17 c18 c19 c20 c21 c22 c23 c24
  rw [hk] at c0
  have HK := Lib.hid hk
  have B1 := Lib.hid b1
  have B2 := Lib.hid b2
  have B3 := Lib.hid b3
  clear hk b1 b2 b3
  go_upto_region 32 with (first | (refine wpList_built rfl 29 _ rfl (M.cells (k1 m)) (by kernel_rfl) ?_) | (refine wpList_storeM (b := w.heap.size + 1 + 1) (m' := k1 m) rfl _ _ rfl rfl rfl B3.out ?_))
  clear c0 c1 c2 c3 c4 c6 c7 c8 c9 c10
  have b3 := B3.out.put (m' := k1 m)
  have b2 := B2.out.row (g := w.heap.size + 1 + 1) (by omega) (M.cells (k1 m))
  have b1 := B1.out.row (g := w.heap.size + 1 + 1) (by omega) (M.cells (k1 m))
  have bel := below_setRow bel (g := w.heap.size + 1 + 1) (by omega) (M.cells (k1 m))
  clear B1 B2 B3
  generalize V.setRow (w.heap.size + 1 + 1) (M.cells (k1 m)) = V1 at *
  have c0 := b1.cs.c0
  have d0 := b3.cs.c0
  have f0 := b3.frozen 0
  have B1 := Lib.hid b1
  have B2 := Lib.hid b2
  have B3 := Lib.hid b3
  clear b1 b2 b3
  go_upto_region 33 with fail
  have b3 := B3.out.set (i := 0) (v := .int .i64 m.kind) (m' := { k1 m with kind := m.kind }) rfl
  have b2 := B2.out.off (p := ⟨w.heap.size + 1 + 1, 0, none⟩) (by simp) (.int .i64 m.kind)
  have bel := bel.setCell (p := ⟨w.heap.size + 1 + 1, 0, none⟩) (by simp; omega) (.int .i64 m.kind)
  clear B1 B2 B3 c0 d0 f0
  generalize V1.setCell ⟨w.heap.size + 1 + 1, 0, none⟩ (.int .i64 m.kind) = V2 at *
  have B2 := Lib.hid b2
  have B3 := Lib.hid b3
  clear b2 b3
  go_wp2_with (first | (refine wpList_loadM (b := w.heap.size + 1 + 1) (m := { k1 m with kind := m.kind }) rfl _ rfl rfl B3.out ?_) | (refine wpList_storeM (b := w.heap.size + 1) (m' := { k1 m with kind := m.kind }) rfl _ _ rfl rfl rfl B2.out ?_))
  exact bodyPost_ret (v := .tuple #[.agg (M.cells { k1 m with kind := m.kind }), .bool true]) (results_pair (p := 2) (q := 3) (ty := 29) rfl _ _ (w.heap.size + 1) _ rfl (loadVarM (B2.out.put (m' := { k1 m with kind := m.kind }))) (.bool true) rfl) rfl ⟨rfl, below_setRow bel (by omega) _⟩

set_option maxHeartbeats 6400000 in
set_option maxRecDepth 100000 in
theorem own_2 (m : M) (w : World) (hk : m.kind = 2) :
    Calls Tryz.prog 62 #[.agg m.cells] w fun e w' => e = .returned (.tuple #[.agg (M.cells { k2 m with kind := m.kind }), .bool true]) ∧ Below w.heap.size w w' := by
  obtain ⟨b1, b2, b3, bel⟩ := start3 w m
  go_enter Tryz.func62, Tryz.ntmps62
  go_upto_region 2 with fail
  change Code.wp _ _ _ _ (((w.alloc (.cells m.cells 29)).alloc (.cells M.zero.cells 29)).alloc (.cells M.zero.cells 29))
  generalize ((w.alloc (.cells m.cells 29)).alloc (.cells M.zero.cells 29)).alloc (.cells M.zero.cells 29) = V at *
  obtain ⟨c0, c1, c2, c3, c4, c5, c6, c7, c8, c9, c10, c11, c12, c13, c14, c15, c16, c17, c18, c19, c20, c21, c22, c23, c24⟩ := b1.cs
  clear c2 c3 c4 c5 c11 c12 c13 c14 c15 c16 c17 c18 c19 c20 c21 c22 c23 c24
  rw [hk] at c0
  have HK := Lib.hid hk
  have B1 := Lib.hid b1
  have B2 := Lib.hid b2
  have B3 := Lib.hid b3
  clear hk b1 b2 b3
  go_upto_region 32 with (first | (refine wpList_built rfl 29 _ rfl (M.cells (k2 m)) (by kernel_rfl) ?_) | (refine wpList_storeM (b := w.heap.size + 1 + 1) (m' := k2 m) rfl _ _ rfl rfl rfl B3.out ?_))
  clear c0 c1 c6 c7 c8 c9 c10
  have b3 := B3.out.put (m' := k2 m)
  have b2 := B2.out.row (g := w.heap.size + 1 + 1) (by omega) (M.cells (k2 m))
  have b1 := B1.out.row (g := w.heap.size + 1 + 1) (by omega) (M.cells (k2 m))
  have bel := below_setRow bel (g := w.heap.size + 1 + 1) (by omega) (M.cells (k2 m))
  clear B1 B2 B3
  generalize V.setRow (w.heap.size + 1 + 1) (M.cells (k2 m)) = V1 at *
  have c0 := b1.cs.c0
  have d0 := b3.cs.c0
  have f0 := b3.frozen 0
  have B1 := Lib.hid b1
  have B2 := Lib.hid b2
  have B3 := Lib.hid b3
  clear b1 b2 b3
  go_upto_region 33 with fail
  have b3 := B3.out.set (i := 0) (v := .int .i64 m.kind) (m' := { k2 m with kind := m.kind }) rfl
  have b2 := B2.out.off (p := ⟨w.heap.size + 1 + 1, 0, none⟩) (by simp) (.int .i64 m.kind)
  have bel := bel.setCell (p := ⟨w.heap.size + 1 + 1, 0, none⟩) (by simp; omega) (.int .i64 m.kind)
  clear B1 B2 B3 c0 d0 f0
  generalize V1.setCell ⟨w.heap.size + 1 + 1, 0, none⟩ (.int .i64 m.kind) = V2 at *
  have B2 := Lib.hid b2
  have B3 := Lib.hid b3
  clear b2 b3
  go_wp2_with (first | (refine wpList_loadM (b := w.heap.size + 1 + 1) (m := { k2 m with kind := m.kind }) rfl _ rfl rfl B3.out ?_) | (refine wpList_storeM (b := w.heap.size + 1) (m' := { k2 m with kind := m.kind }) rfl _ _ rfl rfl rfl B2.out ?_))
  exact bodyPost_ret (v := .tuple #[.agg (M.cells { k2 m with kind := m.kind }), .bool true]) (results_pair (p := 2) (q := 3) (ty := 29) rfl _ _ (w.heap.size + 1) _ rfl (loadVarM (B2.out.put (m' := { k2 m with kind := m.kind }))) (.bool true) rfl) rfl ⟨rfl, below_setRow bel (by omega) _⟩

set_option maxHeartbeats 6400000 in
set_option maxRecDepth 100000 in
theorem own_3 (m : M) (w : World) (hk : m.kind = 3) :
    Calls Tryz.prog 62 #[.agg m.cells] w fun e w' => e = .returned (.tuple #[.agg (M.cells { k3 m with kind := m.kind }), .bool true]) ∧ Below w.heap.size w w' := by
  obtain ⟨b1, b2, b3, bel⟩ := start3 w m
  go_enter Tryz.func62, Tryz.ntmps62
  go_upto_region 2 with fail
  change Code.wp _ _ _ _ (((w.alloc (.cells m.cells 29)).alloc (.cells M.zero.cells 29)).alloc (.cells M.zero.cells 29))
  generalize ((w.alloc (.cells m.cells 29)).alloc (.cells M.zero.cells 29)).alloc (.cells M.zero.cells 29) = V at *
  obtain ⟨c0, c1, c2, c3, c4, c5, c6, c7, c8, c9, c10, c11, c12, c13, c14, c15, c16, c17, c18, c19, c20, c21, c22, c23, c24⟩ := b1.cs
  clear c1 c2 c3 c4 c5 c6 c7 c8 c9 c10 c11 c14 c18 c21 c22 c23
  rw [hk] at c0
  have HK := Lib.hid hk
  have B1 := Lib.hid b1
  have B2 := Lib.hid b2
  have B3 := Lib.hid b3
  clear hk b1 b2 b3
  go_upto_region 32 with (first | (refine wpList_built rfl 29 _ rfl (M.cells (k3 m)) (by kernel_rfl) ?_) | (refine wpList_storeM (b := w.heap.size + 1 + 1) (m' := k3 m) rfl _ _ rfl rfl rfl B3.out ?_))
  clear c0 c12 c13 c15 c16 c17 c19 c20 c24
  have b3 := B3.out.put (m' := k3 m)
  have b2 := B2.out.row (g := w.heap.size + 1 + 1) (by omega) (M.cells (k3 m))
  have b1 := B1.out.row (g := w.heap.size + 1 + 1) (by omega) (M.cells (k3 m))
  have bel := below_setRow bel (g := w.heap.size + 1 + 1) (by omega) (M.cells (k3 m))
  clear B1 B2 B3
  generalize V.setRow (w.heap.size + 1 + 1) (M.cells (k3 m)) = V1 at *
  have c0 := b1.cs.c0
  have d0 := b3.cs.c0
  have f0 := b3.frozen 0
  have B1 := Lib.hid b1
  have B2 := Lib.hid b2
  have B3 := Lib.hid b3
  clear b1 b2 b3
  go_upto_region 33 with fail
  have b3 := B3.out.set (i := 0) (v := .int .i64 m.kind) (m' := { k3 m with kind := m.kind }) rfl
  have b2 := B2.out.off (p := ⟨w.heap.size + 1 + 1, 0, none⟩) (by simp) (.int .i64 m.kind)
  have bel := bel.setCell (p := ⟨w.heap.size + 1 + 1, 0, none⟩) (by simp; omega) (.int .i64 m.kind)
  clear B1 B2 B3 c0 d0 f0
  generalize V1.setCell ⟨w.heap.size + 1 + 1, 0, none⟩ (.int .i64 m.kind) = V2 at *
  have B2 := Lib.hid b2
  have B3 := Lib.hid b3
  clear b2 b3
  go_wp2_with (first | (refine wpList_loadM (b := w.heap.size + 1 + 1) (m := { k3 m with kind := m.kind }) rfl _ rfl rfl B3.out ?_) | (refine wpList_storeM (b := w.heap.size + 1) (m' := { k3 m with kind := m.kind }) rfl _ _ rfl rfl rfl B2.out ?_))
  exact bodyPost_ret (v := .tuple #[.agg (M.cells { k3 m with kind := m.kind }), .bool true]) (results_pair (p := 2) (q := 3) (ty := 29) rfl _ _ (w.heap.size + 1) _ rfl (loadVarM (B2.out.put (m' := { k3 m with kind := m.kind }))) (.bool true) rfl) rfl ⟨rfl, below_setRow bel (by omega) _⟩

set_option maxHeartbeats 6400000 in
set_option maxRecDepth 100000 in
theorem own_4 (m : M) (w : World) (hk : m.kind = 4) :
    Calls Tryz.prog 62 #[.agg m.cells] w fun e w' => e = .returned (.tuple #[.agg (M.cells { k4 m with kind := m.kind }), .bool true]) ∧ Below w.heap.size w w' := by
  obtain ⟨b1, b2, b3, bel⟩ := start3 w m
  go_enter Tryz.func62, Tryz.ntmps62
  go_upto_region 2 with fail
  change Code.wp _ _ _ _ (((w.alloc (.cells m.cells 29)).alloc (.cells M.zero.cells 29)).alloc (.cells M.zero.cells 29))
  generalize ((w.alloc (.cells m.cells 29)).alloc (.cells M.zero.cells 29)).alloc (.cells M.zero.cells 29) = V at *
  obtain ⟨c0, c1, c2, c3, c4, c5, c6, c7, c8, c9, c10, c11, c12, c13, c14, c15, c16, c17, c18, c19, c20, c21, c22, c23, c24⟩ := b1.cs
  clear c1 c2 c3 c4 c5 c6 c8 c9 c10 c11 c13 c17 c18 c21 c22 c23
  rw [hk] at c0
  have HK := Lib.hid hk
  have B1 := Lib.hid b1
  have B2 := Lib.hid b2
  have B3 := Lib.hid b3
  clear hk b1 b2 b3
  go_upto_region 32 with (first | (refine wpList_built rfl 29 _ rfl (M.cells (k4 m)) (by kernel_rfl) ?_) | (refine wpList_storeM (b := w.heap.size + 1 + 1) (m' := k4 m) rfl _ _ rfl rfl rfl B3.out ?_))
  clear c0 c7 c12 c14 c15 c16 c19 c20 c24
  have b3 := B3.out.put (m' := k4 m)
  have b2 := B2.out.row (g := w.heap.size + 1 + 1) (by omega) (M.cells (k4 m))
  have b1 := B1.out.row (g := w.heap.size + 1 + 1) (by omega) (M.cells (k4 m))
  have bel := below_setRow bel (g := w.heap.size + 1 + 1) (by omega) (M.cells (k4 m))
  clear B1 B2 B3
  generalize V.setRow (w.heap.size + 1 + 1) (M.cells (k4 m)) = V1 at *
  have c0 := b1.cs.c0
  have d0 := b3.cs.c0
  have f0 := b3.frozen 0
  have B1 := Lib.hid b1
  have B2 := Lib.hid b2
  have B3 := Lib.hid b3
  clear b1 b2 b3
  go_upto_region 33 with fail
  have b3 := B3.out.set (i := 0) (v := .int .i64 m.kind) (m' := { k4 m with kind := m.kind }) rfl
  have b2 := B2.out.off (p := ⟨w.heap.size + 1 + 1, 0, none⟩) (by simp) (.int .i64 m.kind)
  have bel := bel.setCell (p := ⟨w.heap.size + 1 + 1, 0, none⟩) (by simp; omega) (.int .i64 m.kind)
  clear B1 B2 B3 c0 d0 f0
  generalize V1.setCell ⟨w.heap.size + 1 + 1, 0, none⟩ (.int .i64 m.kind) = V2 at *
  have B2 := Lib.hid b2
  have B3 := Lib.hid b3
  clear b2 b3
  go_wp2_with (first | (refine wpList_loadM (b := w.heap.size + 1 + 1) (m := { k4 m with kind := m.kind }) rfl _ rfl rfl B3.out ?_) | (refine wpList_storeM (b := w.heap.size + 1) (m' := { k4 m with kind := m.kind }) rfl _ _ rfl rfl rfl B2.out ?_))
  exact bodyPost_ret (v := .tuple #[.agg (M.cells { k4 m with kind := m.kind }), .bool true]) (results_pair (p := 2) (q := 3) (ty := 29) rfl _ _ (w.heap.size + 1) _ rfl (loadVarM (B2.out.put (m' := { k4 m with kind := m.kind }))) (.bool true) rfl) rfl ⟨rfl, below_setRow bel (by omega) _⟩

end Go.Proofs.YtfegdblaohhdoaaGreatDoor.Own
namespace Go.Proofs.YtfegdblaohhdoaaGreatDoor.Own
open Go.ChangeShapes Go.WideShapes Go.ChangeAt Go.RowKit
open Go.Proofs.YtfegdblaohhdoaaGreatDoor.Ms
open Go.Proofs.YtfegdblaohhdoaaGreatDoor.Box
open Go.Proofs.YtfegdblaohhdoaaGreatDoor.Same
open Go.Proofs.YtfegdblaohhdoaaGreatDoor.Or
set_option linter.unusedVariables false
set_option maxRecDepth 100000

set_option maxHeartbeats 6400000 in
set_option maxRecDepth 100000 in
theorem own_5 (m : M) (w : World) (hk : m.kind = 5) :
    Calls Tryz.prog 62 #[.agg m.cells] w fun e w' => e = .returned (.tuple #[.agg (M.cells { k5 m with kind := m.kind }), .bool true]) ∧ Below w.heap.size w w' := by
  obtain ⟨b1, b2, b3, bel⟩ := start3 w m
  go_enter Tryz.func62, Tryz.ntmps62
  go_upto_region 2 with fail
  change Code.wp _ _ _ _ (((w.alloc (.cells m.cells 29)).alloc (.cells M.zero.cells 29)).alloc (.cells M.zero.cells 29))
  generalize ((w.alloc (.cells m.cells 29)).alloc (.cells M.zero.cells 29)).alloc (.cells M.zero.cells 29) = V at *
  obtain ⟨c0, c1, c2, c3, c4, c5, c6, c7, c8, c9, c10, c11, c12, c13, c14, c15, c16, c17, c18, c19, c20, c21, c22, c23, c24⟩ := b1.cs
  clear c1 c2 c3 c4 c5 c6 c7 c8 c9 c10 c11 c12 c13 c14 c16 c17 c18 c19 c20 c22 c23
  rw [hk] at c0
  have HK := Lib.hid hk
  have B1 := Lib.hid b1
  have B2 := Lib.hid b2
  have B3 := Lib.hid b3
  clear hk b1 b2 b3
  go_upto_region 32 with (first | (refine wpList_built rfl 29 _ rfl (M.cells (k5 m)) (by kernel_rfl) ?_) | (refine wpList_storeM (b := w.heap.size + 1 + 1) (m' := k5 m) rfl _ _ rfl rfl rfl B3.out ?_))
  clear c0 c15 c21 c24
  have b3 := B3.out.put (m' := k5 m)
  have b2 := B2.out.row (g := w.heap.size + 1 + 1) (by omega) (M.cells (k5 m))
  have b1 := B1.out.row (g := w.heap.size + 1 + 1) (by omega) (M.cells (k5 m))
  have bel := below_setRow bel (g := w.heap.size + 1 + 1) (by omega) (M.cells (k5 m))
  clear B1 B2 B3
  generalize V.setRow (w.heap.size + 1 + 1) (M.cells (k5 m)) = V1 at *
  have c0 := b1.cs.c0
  have d0 := b3.cs.c0
  have f0 := b3.frozen 0
  have B1 := Lib.hid b1
  have B2 := Lib.hid b2
  have B3 := Lib.hid b3
  clear b1 b2 b3
  go_upto_region 33 with fail
  have b3 := B3.out.set (i := 0) (v := .int .i64 m.kind) (m' := { k5 m with kind := m.kind }) rfl
  have b2 := B2.out.off (p := ⟨w.heap.size + 1 + 1, 0, none⟩) (by simp) (.int .i64 m.kind)
  have bel := bel.setCell (p := ⟨w.heap.size + 1 + 1, 0, none⟩) (by simp; omega) (.int .i64 m.kind)
  clear B1 B2 B3 c0 d0 f0
  generalize V1.setCell ⟨w.heap.size + 1 + 1, 0, none⟩ (.int .i64 m.kind) = V2 at *
  have B2 := Lib.hid b2
  have B3 := Lib.hid b3
  clear b2 b3
  go_wp2_with (first | (refine wpList_loadM (b := w.heap.size + 1 + 1) (m := { k5 m with kind := m.kind }) rfl _ rfl rfl B3.out ?_) | (refine wpList_storeM (b := w.heap.size + 1) (m' := { k5 m with kind := m.kind }) rfl _ _ rfl rfl rfl B2.out ?_))
  exact bodyPost_ret (v := .tuple #[.agg (M.cells { k5 m with kind := m.kind }), .bool true]) (results_pair (p := 2) (q := 3) (ty := 29) rfl _ _ (w.heap.size + 1) _ rfl (loadVarM (B2.out.put (m' := { k5 m with kind := m.kind }))) (.bool true) rfl) rfl ⟨rfl, below_setRow bel (by omega) _⟩

set_option maxHeartbeats 6400000 in
set_option maxRecDepth 100000 in
theorem own_6 (m : M) (w : World) (hk : m.kind = 6) :
    Calls Tryz.prog 62 #[.agg m.cells] w fun e w' => e = .returned (.tuple #[.agg (M.cells { k6 m with kind := m.kind }), .bool true]) ∧ Below w.heap.size w w' := by
  obtain ⟨b1, b2, b3, bel⟩ := start3 w m
  go_enter Tryz.func62, Tryz.ntmps62
  go_upto_region 2 with fail
  change Code.wp _ _ _ _ (((w.alloc (.cells m.cells 29)).alloc (.cells M.zero.cells 29)).alloc (.cells M.zero.cells 29))
  generalize ((w.alloc (.cells m.cells 29)).alloc (.cells M.zero.cells 29)).alloc (.cells M.zero.cells 29) = V at *
  obtain ⟨c0, c1, c2, c3, c4, c5, c6, c7, c8, c9, c10, c11, c12, c13, c14, c15, c16, c17, c18, c19, c20, c21, c22, c23, c24⟩ := b1.cs
  clear c1 c2 c3 c4 c5 c6 c7 c8 c9 c10 c11 c12 c13 c14 c15 c16 c17 c18 c19 c20 c21 c22 c23
  rw [hk] at c0
  have HK := Lib.hid hk
  have B1 := Lib.hid b1
  have B2 := Lib.hid b2
  have B3 := Lib.hid b3
  clear hk b1 b2 b3
  go_upto_region 32 with (first | (refine wpList_built rfl 29 _ rfl (M.cells (k6 m)) (by kernel_rfl) ?_) | (refine wpList_storeM (b := w.heap.size + 1 + 1) (m' := k6 m) rfl _ _ rfl rfl rfl B3.out ?_))
  clear c0 c24
  have b3 := B3.out.put (m' := k6 m)
  have b2 := B2.out.row (g := w.heap.size + 1 + 1) (by omega) (M.cells (k6 m))
  have b1 := B1.out.row (g := w.heap.size + 1 + 1) (by omega) (M.cells (k6 m))
  have bel := below_setRow bel (g := w.heap.size + 1 + 1) (by omega) (M.cells (k6 m))
  clear B1 B2 B3
  generalize V.setRow (w.heap.size + 1 + 1) (M.cells (k6 m)) = V1 at *
  have c0 := b1.cs.c0
  have d0 := b3.cs.c0
  have f0 := b3.frozen 0
  have B1 := Lib.hid b1
  have B2 := Lib.hid b2
  have B3 := Lib.hid b3
  clear b1 b2 b3
  go_upto_region 33 with fail
  have b3 := B3.out.set (i := 0) (v := .int .i64 m.kind) (m' := { k6 m with kind := m.kind }) rfl
  have b2 := B2.out.off (p := ⟨w.heap.size + 1 + 1, 0, none⟩) (by simp) (.int .i64 m.kind)
  have bel := bel.setCell (p := ⟨w.heap.size + 1 + 1, 0, none⟩) (by simp; omega) (.int .i64 m.kind)
  clear B1 B2 B3 c0 d0 f0
  generalize V1.setCell ⟨w.heap.size + 1 + 1, 0, none⟩ (.int .i64 m.kind) = V2 at *
  have B2 := Lib.hid b2
  have B3 := Lib.hid b3
  clear b2 b3
  go_wp2_with (first | (refine wpList_loadM (b := w.heap.size + 1 + 1) (m := { k6 m with kind := m.kind }) rfl _ rfl rfl B3.out ?_) | (refine wpList_storeM (b := w.heap.size + 1) (m' := { k6 m with kind := m.kind }) rfl _ _ rfl rfl rfl B2.out ?_))
  exact bodyPost_ret (v := .tuple #[.agg (M.cells { k6 m with kind := m.kind }), .bool true]) (results_pair (p := 2) (q := 3) (ty := 29) rfl _ _ (w.heap.size + 1) _ rfl (loadVarM (B2.out.put (m' := { k6 m with kind := m.kind }))) (.bool true) rfl) rfl ⟨rfl, below_setRow bel (by omega) _⟩

set_option maxHeartbeats 6400000 in
set_option maxRecDepth 100000 in
theorem own_7 (m : M) (w : World) (hk : m.kind = 7) :
    Calls Tryz.prog 62 #[.agg m.cells] w fun e w' => e = .returned (.tuple #[.agg (M.cells { k7 m with kind := m.kind }), .bool true]) ∧ Below w.heap.size w w' := by
  obtain ⟨b1, b2, b3, bel⟩ := start3 w m
  go_enter Tryz.func62, Tryz.ntmps62
  go_upto_region 2 with fail
  change Code.wp _ _ _ _ (((w.alloc (.cells m.cells 29)).alloc (.cells M.zero.cells 29)).alloc (.cells M.zero.cells 29))
  generalize ((w.alloc (.cells m.cells 29)).alloc (.cells M.zero.cells 29)).alloc (.cells M.zero.cells 29) = V at *
  obtain ⟨c0, c1, c2, c3, c4, c5, c6, c7, c8, c9, c10, c11, c12, c13, c14, c15, c16, c17, c18, c19, c20, c21, c22, c23, c24⟩ := b1.cs
  clear c1 c2 c3 c4 c5 c6 c7 c8 c9 c10 c11 c12 c13 c15 c16 c18 c19 c20 c21 c22 c23
  rw [hk] at c0
  have HK := Lib.hid hk
  have B1 := Lib.hid b1
  have B2 := Lib.hid b2
  have B3 := Lib.hid b3
  clear hk b1 b2 b3
  go_upto_region 32 with (first | (refine wpList_built rfl 29 _ rfl (M.cells (k7 m)) (by kernel_rfl) ?_) | (refine wpList_storeM (b := w.heap.size + 1 + 1) (m' := k7 m) rfl _ _ rfl rfl rfl B3.out ?_))
  clear c0 c14 c17 c24
  have b3 := B3.out.put (m' := k7 m)
  have b2 := B2.out.row (g := w.heap.size + 1 + 1) (by omega) (M.cells (k7 m))
  have b1 := B1.out.row (g := w.heap.size + 1 + 1) (by omega) (M.cells (k7 m))
  have bel := below_setRow bel (g := w.heap.size + 1 + 1) (by omega) (M.cells (k7 m))
  clear B1 B2 B3
  generalize V.setRow (w.heap.size + 1 + 1) (M.cells (k7 m)) = V1 at *
  have c0 := b1.cs.c0
  have d0 := b3.cs.c0
  have f0 := b3.frozen 0
  have B1 := Lib.hid b1
  have B2 := Lib.hid b2
  have B3 := Lib.hid b3
  clear b1 b2 b3
  go_upto_region 33 with fail
  have b3 := B3.out.set (i := 0) (v := .int .i64 m.kind) (m' := { k7 m with kind := m.kind }) rfl
  have b2 := B2.out.off (p := ⟨w.heap.size + 1 + 1, 0, none⟩) (by simp) (.int .i64 m.kind)
  have bel := bel.setCell (p := ⟨w.heap.size + 1 + 1, 0, none⟩) (by simp; omega) (.int .i64 m.kind)
  clear B1 B2 B3 c0 d0 f0
  generalize V1.setCell ⟨w.heap.size + 1 + 1, 0, none⟩ (.int .i64 m.kind) = V2 at *
  have B2 := Lib.hid b2
  have B3 := Lib.hid b3
  clear b2 b3
  go_wp2_with (first | (refine wpList_loadM (b := w.heap.size + 1 + 1) (m := { k7 m with kind := m.kind }) rfl _ rfl rfl B3.out ?_) | (refine wpList_storeM (b := w.heap.size + 1) (m' := { k7 m with kind := m.kind }) rfl _ _ rfl rfl rfl B2.out ?_))
  exact bodyPost_ret (v := .tuple #[.agg (M.cells { k7 m with kind := m.kind }), .bool true]) (results_pair (p := 2) (q := 3) (ty := 29) rfl _ _ (w.heap.size + 1) _ rfl (loadVarM (B2.out.put (m' := { k7 m with kind := m.kind }))) (.bool true) rfl) rfl ⟨rfl, below_setRow bel (by omega) _⟩

set_option maxHeartbeats 6400000 in
set_option maxRecDepth 100000 in
theorem own_8 (m : M) (w : World) (hk : m.kind = 8) :
    Calls Tryz.prog 62 #[.agg m.cells] w fun e w' => e = .returned (.tuple #[.agg (M.cells { k8 m with kind := m.kind }), .bool true]) ∧ Below w.heap.size w w' := by
  obtain ⟨b1, b2, b3, bel⟩ := start3 w m
  go_enter Tryz.func62, Tryz.ntmps62
  go_upto_region 2 with fail
  change Code.wp _ _ _ _ (((w.alloc (.cells m.cells 29)).alloc (.cells M.zero.cells 29)).alloc (.cells M.zero.cells 29))
  generalize ((w.alloc (.cells m.cells 29)).alloc (.cells M.zero.cells 29)).alloc (.cells M.zero.cells 29) = V at *
  obtain ⟨c0, c1, c2, c3, c4, c5, c6, c7, c8, c9, c10, c11, c12, c13, c14, c15, c16, c17, c18, c19, c20, c21, c22, c23, c24⟩ := b1.cs
  clear c1 c2 c3 c4 c5 c6 c7 c8 c9 c10 c11 c12 c13 c14 c15 c16 c18 c19 c20 c21 c22 c23
  rw [hk] at c0
  have HK := Lib.hid hk
  have B1 := Lib.hid b1
  have B2 := Lib.hid b2
  have B3 := Lib.hid b3
  clear hk b1 b2 b3
  go_upto_region 32 with (first | (refine wpList_built rfl 29 _ rfl (M.cells (k8 m)) (by kernel_rfl) ?_) | (refine wpList_storeM (b := w.heap.size + 1 + 1) (m' := k8 m) rfl _ _ rfl rfl rfl B3.out ?_))
  clear c0 c17 c24
  have b3 := B3.out.put (m' := k8 m)
  have b2 := B2.out.row (g := w.heap.size + 1 + 1) (by omega) (M.cells (k8 m))
  have b1 := B1.out.row (g := w.heap.size + 1 + 1) (by omega) (M.cells (k8 m))
  have bel := below_setRow bel (g := w.heap.size + 1 + 1) (by omega) (M.cells (k8 m))
  clear B1 B2 B3
  generalize V.setRow (w.heap.size + 1 + 1) (M.cells (k8 m)) = V1 at *
  have c0 := b1.cs.c0
  have d0 := b3.cs.c0
  have f0 := b3.frozen 0
  have B1 := Lib.hid b1
  have B2 := Lib.hid b2
  have B3 := Lib.hid b3
  clear b1 b2 b3
  go_upto_region 33 with fail
  have b3 := B3.out.set (i := 0) (v := .int .i64 m.kind) (m' := { k8 m with kind := m.kind }) rfl
  have b2 := B2.out.off (p := ⟨w.heap.size + 1 + 1, 0, none⟩) (by simp) (.int .i64 m.kind)
  have bel := bel.setCell (p := ⟨w.heap.size + 1 + 1, 0, none⟩) (by simp; omega) (.int .i64 m.kind)
  clear B1 B2 B3 c0 d0 f0
  generalize V1.setCell ⟨w.heap.size + 1 + 1, 0, none⟩ (.int .i64 m.kind) = V2 at *
  have B2 := Lib.hid b2
  have B3 := Lib.hid b3
  clear b2 b3
  go_wp2_with (first | (refine wpList_loadM (b := w.heap.size + 1 + 1) (m := { k8 m with kind := m.kind }) rfl _ rfl rfl B3.out ?_) | (refine wpList_storeM (b := w.heap.size + 1) (m' := { k8 m with kind := m.kind }) rfl _ _ rfl rfl rfl B2.out ?_))
  exact bodyPost_ret (v := .tuple #[.agg (M.cells { k8 m with kind := m.kind }), .bool true]) (results_pair (p := 2) (q := 3) (ty := 29) rfl _ _ (w.heap.size + 1) _ rfl (loadVarM (B2.out.put (m' := { k8 m with kind := m.kind }))) (.bool true) rfl) rfl ⟨rfl, below_setRow bel (by omega) _⟩

set_option maxHeartbeats 6400000 in
set_option maxRecDepth 100000 in
theorem own_9 (m : M) (w : World) (hk : m.kind = 9) :
    Calls Tryz.prog 62 #[.agg m.cells] w fun e w' => e = .returned (.tuple #[.agg (M.cells { k9 m with kind := m.kind }), .bool true]) ∧ Below w.heap.size w w' := by
  obtain ⟨b1, b2, b3, bel⟩ := start3 w m
  go_enter Tryz.func62, Tryz.ntmps62
  go_upto_region 2 with fail
  change Code.wp _ _ _ _ (((w.alloc (.cells m.cells 29)).alloc (.cells M.zero.cells 29)).alloc (.cells M.zero.cells 29))
  generalize ((w.alloc (.cells m.cells 29)).alloc (.cells M.zero.cells 29)).alloc (.cells M.zero.cells 29) = V at *
  obtain ⟨c0, c1, c2, c3, c4, c5, c6, c7, c8, c9, c10, c11, c12, c13, c14, c15, c16, c17, c18, c19, c20, c21, c22, c23, c24⟩ := b1.cs
  clear c1 c2 c3 c4 c5 c6 c7 c8 c9 c10 c11 c13 c16 c17 c18 c19 c20 c21 c22 c23
  rw [hk] at c0
  have HK := Lib.hid hk
  have B1 := Lib.hid b1
  have B2 := Lib.hid b2
  have B3 := Lib.hid b3
  clear hk b1 b2 b3
  go_upto_region 32 with (first | (refine wpList_built rfl 29 _ rfl (M.cells (k9 m)) (by kernel_rfl) ?_) | (refine wpList_storeM (b := w.heap.size + 1 + 1) (m' := k9 m) rfl _ _ rfl rfl rfl B3.out ?_))
  clear c0 c12 c14 c15 c24
  have b3 := B3.out.put (m' := k9 m)
  have b2 := B2.out.row (g := w.heap.size + 1 + 1) (by omega) (M.cells (k9 m))
  have b1 := B1.out.row (g := w.heap.size + 1 + 1) (by omega) (M.cells (k9 m))
  have bel := below_setRow bel (g := w.heap.size + 1 + 1) (by omega) (M.cells (k9 m))
  clear B1 B2 B3
  generalize V.setRow (w.heap.size + 1 + 1) (M.cells (k9 m)) = V1 at *
  have c0 := b1.cs.c0
  have d0 := b3.cs.c0
  have f0 := b3.frozen 0
  have B1 := Lib.hid b1
  have B2 := Lib.hid b2
  have B3 := Lib.hid b3
  clear b1 b2 b3
  go_upto_region 33 with fail
  have b3 := B3.out.set (i := 0) (v := .int .i64 m.kind) (m' := { k9 m with kind := m.kind }) rfl
  have b2 := B2.out.off (p := ⟨w.heap.size + 1 + 1, 0, none⟩) (by simp) (.int .i64 m.kind)
  have bel := bel.setCell (p := ⟨w.heap.size + 1 + 1, 0, none⟩) (by simp; omega) (.int .i64 m.kind)
  clear B1 B2 B3 c0 d0 f0
  generalize V1.setCell ⟨w.heap.size + 1 + 1, 0, none⟩ (.int .i64 m.kind) = V2 at *
  have B2 := Lib.hid b2
  have B3 := Lib.hid b3
  clear b2 b3
  go_wp2_with (first | (refine wpList_loadM (b := w.heap.size + 1 + 1) (m := { k9 m with kind := m.kind }) rfl _ rfl rfl B3.out ?_) | (refine wpList_storeM (b := w.heap.size + 1) (m' := { k9 m with kind := m.kind }) rfl _ _ rfl rfl rfl B2.out ?_))
  exact bodyPost_ret (v := .tuple #[.agg (M.cells { k9 m with kind := m.kind }), .bool true]) (results_pair (p := 2) (q := 3) (ty := 29) rfl _ _ (w.heap.size + 1) _ rfl (loadVarM (B2.out.put (m' := { k9 m with kind := m.kind }))) (.bool true) rfl) rfl ⟨rfl, below_setRow bel (by omega) _⟩

end Go.Proofs.YtfegdblaohhdoaaGreatDoor.Own
namespace Go.Proofs.YtfegdblaohhdoaaGreatDoor.Own
open Go.ChangeShapes Go.WideShapes Go.ChangeAt Go.RowKit
open Go.Proofs.YtfegdblaohhdoaaGreatDoor.Ms
open Go.Proofs.YtfegdblaohhdoaaGreatDoor.Box
open Go.Proofs.YtfegdblaohhdoaaGreatDoor.Same
open Go.Proofs.YtfegdblaohhdoaaGreatDoor.Or
set_option linter.unusedVariables false
set_option maxRecDepth 100000

set_option maxHeartbeats 6400000 in
set_option maxRecDepth 100000 in
theorem own_10 (m : M) (w : World) (hk : m.kind = 10) :
    Calls Tryz.prog 62 #[.agg m.cells] w fun e w' => e = .returned (.tuple #[.agg (M.cells { k10 m with kind := m.kind }), .bool true]) ∧ Below w.heap.size w w' := by
  obtain ⟨b1, b2, b3, bel⟩ := start3 w m
  go_enter Tryz.func62, Tryz.ntmps62
  go_upto_region 2 with fail
  change Code.wp _ _ _ _ (((w.alloc (.cells m.cells 29)).alloc (.cells M.zero.cells 29)).alloc (.cells M.zero.cells 29))
  generalize ((w.alloc (.cells m.cells 29)).alloc (.cells M.zero.cells 29)).alloc (.cells M.zero.cells 29) = V at *
  obtain ⟨c0, c1, c2, c3, c4, c5, c6, c7, c8, c9, c10, c11, c12, c13, c14, c15, c16, c17, c18, c19, c20, c21, c22, c23, c24⟩ := b1.cs
  clear c1 c2 c3 c4 c6 c7 c8 c9 c10 c11 c12 c13 c15 c16 c17 c20 c21 c22 c23
  rw [hk] at c0
  have HK := Lib.hid hk
  have B1 := Lib.hid b1
  have B2 := Lib.hid b2
  have B3 := Lib.hid b3
  clear hk b1 b2 b3
  go_upto_region 32 with (first | (refine wpList_built rfl 29 _ rfl (M.cells (k10 m)) (by kernel_rfl) ?_) | (refine wpList_storeM (b := w.heap.size + 1 + 1) (m' := k10 m) rfl _ _ rfl rfl rfl B3.out ?_))
  clear c0 c5 c14 c18 c19 c24
  have b3 := B3.out.put (m' := k10 m)
  have b2 := B2.out.row (g := w.heap.size + 1 + 1) (by omega) (M.cells (k10 m))
  have b1 := B1.out.row (g := w.heap.size + 1 + 1) (by omega) (M.cells (k10 m))
  have bel := below_setRow bel (g := w.heap.size + 1 + 1) (by omega) (M.cells (k10 m))
  clear B1 B2 B3
  generalize V.setRow (w.heap.size + 1 + 1) (M.cells (k10 m)) = V1 at *
  have c0 := b1.cs.c0
  have d0 := b3.cs.c0
  have f0 := b3.frozen 0
  have B1 := Lib.hid b1
  have B2 := Lib.hid b2
  have B3 := Lib.hid b3
  clear b1 b2 b3
  go_upto_region 33 with fail
  have b3 := B3.out.set (i := 0) (v := .int .i64 m.kind) (m' := { k10 m with kind := m.kind }) rfl
  have b2 := B2.out.off (p := ⟨w.heap.size + 1 + 1, 0, none⟩) (by simp) (.int .i64 m.kind)
  have bel := bel.setCell (p := ⟨w.heap.size + 1 + 1, 0, none⟩) (by simp; omega) (.int .i64 m.kind)
  clear B1 B2 B3 c0 d0 f0
  generalize V1.setCell ⟨w.heap.size + 1 + 1, 0, none⟩ (.int .i64 m.kind) = V2 at *
  have B2 := Lib.hid b2
  have B3 := Lib.hid b3
  clear b2 b3
  go_wp2_with (first | (refine wpList_loadM (b := w.heap.size + 1 + 1) (m := { k10 m with kind := m.kind }) rfl _ rfl rfl B3.out ?_) | (refine wpList_storeM (b := w.heap.size + 1) (m' := { k10 m with kind := m.kind }) rfl _ _ rfl rfl rfl B2.out ?_))
  exact bodyPost_ret (v := .tuple #[.agg (M.cells { k10 m with kind := m.kind }), .bool true]) (results_pair (p := 2) (q := 3) (ty := 29) rfl _ _ (w.heap.size + 1) _ rfl (loadVarM (B2.out.put (m' := { k10 m with kind := m.kind }))) (.bool true) rfl) rfl ⟨rfl, below_setRow bel (by omega) _⟩

set_option maxHeartbeats 6400000 in
set_option maxRecDepth 100000 in
theorem own_11 (m : M) (w : World) (hk : m.kind = 11) :
    Calls Tryz.prog 62 #[.agg m.cells] w fun e w' => e = .returned (.tuple #[.agg (M.cells { k11 m with kind := m.kind }), .bool true]) ∧ Below w.heap.size w w' := by
  obtain ⟨b1, b2, b3, bel⟩ := start3 w m
  go_enter Tryz.func62, Tryz.ntmps62
  go_upto_region 2 with fail
  change Code.wp _ _ _ _ (((w.alloc (.cells m.cells 29)).alloc (.cells M.zero.cells 29)).alloc (.cells M.zero.cells 29))
  generalize ((w.alloc (.cells m.cells 29)).alloc (.cells M.zero.cells 29)).alloc (.cells M.zero.cells 29) = V at *
  obtain ⟨c0, c1, c2, c3, c4, c5, c6, c7, c8, c9, c10, c11, c12, c13, c14, c15, c16, c17, c18, c19, c20, c21, c22, c23, c24⟩ := b1.cs
  clear c1 c2 c3 c4 c8 c13 c15 c16 c17 c18 c19 c20 c21 c22 c23
  rw [hk] at c0
  have HK := Lib.hid hk
  have B1 := Lib.hid b1
  have B2 := Lib.hid b2
  have B3 := Lib.hid b3
  clear hk b1 b2 b3
  go_upto_region 32 with (first | (refine wpList_built rfl 29 _ rfl (M.cells (k11 m)) (by kernel_rfl) ?_) | (refine wpList_storeM (b := w.heap.size + 1 + 1) (m' := k11 m) rfl _ _ rfl rfl rfl B3.out ?_))
  clear c0 c5 c6 c7 c9 c10 c11 c12 c14 c24
  have b3 := B3.out.put (m' := k11 m)
  have b2 := B2.out.row (g := w.heap.size + 1 + 1) (by omega) (M.cells (k11 m))
  have b1 := B1.out.row (g := w.heap.size + 1 + 1) (by omega) (M.cells (k11 m))
  have bel := below_setRow bel (g := w.heap.size + 1 + 1) (by omega) (M.cells (k11 m))
  clear B1 B2 B3
  generalize V.setRow (w.heap.size + 1 + 1) (M.cells (k11 m)) = V1 at *
  have c0 := b1.cs.c0
  have d0 := b3.cs.c0
  have f0 := b3.frozen 0
  have B1 := Lib.hid b1
  have B2 := Lib.hid b2
  have B3 := Lib.hid b3
  clear b1 b2 b3
  go_upto_region 33 with fail
  have b3 := B3.out.set (i := 0) (v := .int .i64 m.kind) (m' := { k11 m with kind := m.kind }) rfl
  have b2 := B2.out.off (p := ⟨w.heap.size + 1 + 1, 0, none⟩) (by simp) (.int .i64 m.kind)
  have bel := bel.setCell (p := ⟨w.heap.size + 1 + 1, 0, none⟩) (by simp; omega) (.int .i64 m.kind)
  clear B1 B2 B3 c0 d0 f0
  generalize V1.setCell ⟨w.heap.size + 1 + 1, 0, none⟩ (.int .i64 m.kind) = V2 at *
  have B2 := Lib.hid b2
  have B3 := Lib.hid b3
  clear b2 b3
  go_wp2_with (first | (refine wpList_loadM (b := w.heap.size + 1 + 1) (m := { k11 m with kind := m.kind }) rfl _ rfl rfl B3.out ?_) | (refine wpList_storeM (b := w.heap.size + 1) (m' := { k11 m with kind := m.kind }) rfl _ _ rfl rfl rfl B2.out ?_))
  exact bodyPost_ret (v := .tuple #[.agg (M.cells { k11 m with kind := m.kind }), .bool true]) (results_pair (p := 2) (q := 3) (ty := 29) rfl _ _ (w.heap.size + 1) _ rfl (loadVarM (B2.out.put (m' := { k11 m with kind := m.kind }))) (.bool true) rfl) rfl ⟨rfl, below_setRow bel (by omega) _⟩

set_option maxHeartbeats 6400000 in
set_option maxRecDepth 100000 in
theorem own_12 (m : M) (w : World) (hk : m.kind = 12) :
    Calls Tryz.prog 62 #[.agg m.cells] w fun e w' => e = .returned (.tuple #[.agg (M.cells { k12 m with kind := m.kind }), .bool true]) ∧ Below w.heap.size w w' := by
  obtain ⟨b1, b2, b3, bel⟩ := start3 w m
  go_enter Tryz.func62, Tryz.ntmps62
  go_upto_region 2 with fail
  change Code.wp _ _ _ _ (((w.alloc (.cells m.cells 29)).alloc (.cells M.zero.cells 29)).alloc (.cells M.zero.cells 29))
  generalize ((w.alloc (.cells m.cells 29)).alloc (.cells M.zero.cells 29)).alloc (.cells M.zero.cells 29) = V at *
  obtain ⟨c0, c1, c2, c3, c4, c5, c6, c7, c8, c9, c10, c11, c12, c13, c14, c15, c16, c17, c18, c19, c20, c21, c22, c23, c24⟩ := b1.cs
  clear c1 c2 c3 c4 c8 c9 c10 c11 c12 c13 c14 c15 c16 c17 c18 c19 c20 c21 c22 c23
  rw [hk] at c0
  have HK := Lib.hid hk
  have B1 := Lib.hid b1
  have B2 := Lib.hid b2
  have B3 := Lib.hid b3
  clear hk b1 b2 b3
  go_upto_region 32 with (first | (refine wpList_built rfl 29 _ rfl (M.cells (k12 m)) (by kernel_rfl) ?_) | (refine wpList_storeM (b := w.heap.size + 1 + 1) (m' := k12 m) rfl _ _ rfl rfl rfl B3.out ?_))
  clear c0 c5 c6 c7 c24
  have b3 := B3.out.put (m' := k12 m)
  have b2 := B2.out.row (g := w.heap.size + 1 + 1) (by omega) (M.cells (k12 m))
  have b1 := B1.out.row (g := w.heap.size + 1 + 1) (by omega) (M.cells (k12 m))
  have bel := below_setRow bel (g := w.heap.size + 1 + 1) (by omega) (M.cells (k12 m))
  clear B1 B2 B3
  generalize V.setRow (w.heap.size + 1 + 1) (M.cells (k12 m)) = V1 at *
  have c0 := b1.cs.c0
  have d0 := b3.cs.c0
  have f0 := b3.frozen 0
  have B1 := Lib.hid b1
  have B2 := Lib.hid b2
  have B3 := Lib.hid b3
  clear b1 b2 b3
  go_upto_region 33 with fail
  have b3 := B3.out.set (i := 0) (v := .int .i64 m.kind) (m' := { k12 m with kind := m.kind }) rfl
  have b2 := B2.out.off (p := ⟨w.heap.size + 1 + 1, 0, none⟩) (by simp) (.int .i64 m.kind)
  have bel := bel.setCell (p := ⟨w.heap.size + 1 + 1, 0, none⟩) (by simp; omega) (.int .i64 m.kind)
  clear B1 B2 B3 c0 d0 f0
  generalize V1.setCell ⟨w.heap.size + 1 + 1, 0, none⟩ (.int .i64 m.kind) = V2 at *
  have B2 := Lib.hid b2
  have B3 := Lib.hid b3
  clear b2 b3
  go_wp2_with (first | (refine wpList_loadM (b := w.heap.size + 1 + 1) (m := { k12 m with kind := m.kind }) rfl _ rfl rfl B3.out ?_) | (refine wpList_storeM (b := w.heap.size + 1) (m' := { k12 m with kind := m.kind }) rfl _ _ rfl rfl rfl B2.out ?_))
  exact bodyPost_ret (v := .tuple #[.agg (M.cells { k12 m with kind := m.kind }), .bool true]) (results_pair (p := 2) (q := 3) (ty := 29) rfl _ _ (w.heap.size + 1) _ rfl (loadVarM (B2.out.put (m' := { k12 m with kind := m.kind }))) (.bool true) rfl) rfl ⟨rfl, below_setRow bel (by omega) _⟩

end Go.Proofs.YtfegdblaohhdoaaGreatDoor.Own
namespace Go.Proofs.YtfegdblaohhdoaaGreatDoor.Own
open Go.ChangeShapes Go.WideShapes Go.ChangeAt Go.RowKit
open Go.Proofs.YtfegdblaohhdoaaGreatDoor.Ms
open Go.Proofs.YtfegdblaohhdoaaGreatDoor.Box
open Go.Proofs.YtfegdblaohhdoaaGreatDoor.Same
open Go.Proofs.YtfegdblaohhdoaaGreatDoor.Or
set_option linter.unusedVariables false
set_option maxRecDepth 100000

set_option maxHeartbeats 6400000 in
set_option maxRecDepth 100000 in
theorem own_13 (m : M) (w : World) (hk : m.kind = 13) :
    Calls Tryz.prog 62 #[.agg m.cells] w fun e w' => e = .returned (.tuple #[.agg (M.cells { k13 m with kind := m.kind }), .bool true]) ∧ Below w.heap.size w w' := by
  obtain ⟨b1, b2, b3, bel⟩ := start3 w m
  go_enter Tryz.func62, Tryz.ntmps62
  go_upto_region 2 with fail
  change Code.wp _ _ _ _ (((w.alloc (.cells m.cells 29)).alloc (.cells M.zero.cells 29)).alloc (.cells M.zero.cells 29))
  generalize ((w.alloc (.cells m.cells 29)).alloc (.cells M.zero.cells 29)).alloc (.cells M.zero.cells 29) = V at *
  obtain ⟨c0, c1, c2, c3, c4, c5, c6, c7, c8, c9, c10, c11, c12, c13, c14, c15, c16, c17, c18, c19, c20, c21, c22, c23, c24⟩ := b1.cs
  clear c1 c2 c3 c4 c8 c9 c10 c13 c14 c15 c17 c18 c19 c20 c21 c22 c23
  rw [hk] at c0
  have HK := Lib.hid hk
  have B1 := Lib.hid b1
  have B2 := Lib.hid b2
  have B3 := Lib.hid b3
  clear hk b1 b2 b3
  go_upto_region 32 with (first | (refine wpList_built rfl 29 _ rfl (M.cells (k13 m)) (by kernel_rfl) ?_) | (refine wpList_storeM (b := w.heap.size + 1 + 1) (m' := k13 m) rfl _ _ rfl rfl rfl B3.out ?_))
  clear c0 c5 c6 c7 c11 c12 c16 c24
  have b3 := B3.out.put (m' := k13 m)
  have b2 := B2.out.row (g := w.heap.size + 1 + 1) (by omega) (M.cells (k13 m))
  have b1 := B1.out.row (g := w.heap.size + 1 + 1) (by omega) (M.cells (k13 m))
  have bel := below_setRow bel (g := w.heap.size + 1 + 1) (by omega) (M.cells (k13 m))
  clear B1 B2 B3
  generalize V.setRow (w.heap.size + 1 + 1) (M.cells (k13 m)) = V1 at *
  have c0 := b1.cs.c0
  have d0 := b3.cs.c0
  have f0 := b3.frozen 0
  have B1 := Lib.hid b1
  have B2 := Lib.hid b2
  have B3 := Lib.hid b3
  clear b1 b2 b3
  go_upto_region 33 with fail
  have b3 := B3.out.set (i := 0) (v := .int .i64 m.kind) (m' := { k13 m with kind := m.kind }) rfl
  have b2 := B2.out.off (p := ⟨w.heap.size + 1 + 1, 0, none⟩) (by simp) (.int .i64 m.kind)
  have bel := bel.setCell (p := ⟨w.heap.size + 1 + 1, 0, none⟩) (by simp; omega) (.int .i64 m.kind)
  clear B1 B2 B3 c0 d0 f0
  generalize V1.setCell ⟨w.heap.size + 1 + 1, 0, none⟩ (.int .i64 m.kind) = V2 at *
  have B2 := Lib.hid b2
  have B3 := Lib.hid b3
  clear b2 b3
  go_wp2_with (first | (refine wpList_loadM (b := w.heap.size + 1 + 1) (m := { k13 m with kind := m.kind }) rfl _ rfl rfl B3.out ?_) | (refine wpList_storeM (b := w.heap.size + 1) (m' := { k13 m with kind := m.kind }) rfl _ _ rfl rfl rfl B2.out ?_))
  exact bodyPost_ret (v := .tuple #[.agg (M.cells { k13 m with kind := m.kind }), .bool true]) (results_pair (p := 2) (q := 3) (ty := 29) rfl _ _ (w.heap.size + 1) _ rfl (loadVarM (B2.out.put (m' := { k13 m with kind := m.kind }))) (.bool true) rfl) rfl ⟨rfl, below_setRow bel (by omega) _⟩

set_option maxHeartbeats 6400000 in
set_option maxRecDepth 100000 in
theorem own_14 (m : M) (w : World) (hk : m.kind = 14) :
    Calls Tryz.prog 62 #[.agg m.cells] w fun e w' => e = .returned (.tuple #[.agg (M.cells { k14 m with kind := m.kind }), .bool true]) ∧ Below w.heap.size w w' := by
  obtain ⟨b1, b2, b3, bel⟩ := start3 w m
  go_enter Tryz.func62, Tryz.ntmps62
  go_upto_region 2 with fail
  change Code.wp _ _ _ _ (((w.alloc (.cells m.cells 29)).alloc (.cells M.zero.cells 29)).alloc (.cells M.zero.cells 29))
  generalize ((w.alloc (.cells m.cells 29)).alloc (.cells M.zero.cells 29)).alloc (.cells M.zero.cells 29) = V at *
  obtain ⟨c0, c1, c2, c3, c4, c5, c6, c7, c8, c9, c10, c11, c12, c13, c14, c15, c16, c17, c18, c19, c20, c21, c22, c23, c24⟩ := b1.cs
  clear c1 c2 c3 c4 c5 c6 c7 c8 c9 c10 c11 c12 c13 c14 c15 c16 c17 c18 c19 c20 c21 c24
  rw [hk] at c0
  have HK := Lib.hid hk
  have B1 := Lib.hid b1
  have B2 := Lib.hid b2
  have B3 := Lib.hid b3
  clear hk b1 b2 b3
  go_upto_region 32 with (first | (refine wpList_built rfl 29 _ rfl (M.cells (k14 m)) (by kernel_rfl) ?_) | (refine wpList_storeM (b := w.heap.size + 1 + 1) (m' := k14 m) rfl _ _ rfl rfl rfl B3.out ?_))
  clear c0 c22 c23
  have b3 := B3.out.put (m' := k14 m)
  have b2 := B2.out.row (g := w.heap.size + 1 + 1) (by omega) (M.cells (k14 m))
  have b1 := B1.out.row (g := w.heap.size + 1 + 1) (by omega) (M.cells (k14 m))
  have bel := below_setRow bel (g := w.heap.size + 1 + 1) (by omega) (M.cells (k14 m))
  clear B1 B2 B3
  generalize V.setRow (w.heap.size + 1 + 1) (M.cells (k14 m)) = V1 at *
  have c0 := b1.cs.c0
  have d0 := b3.cs.c0
  have f0 := b3.frozen 0
  have B1 := Lib.hid b1
  have B2 := Lib.hid b2
  have B3 := Lib.hid b3
  clear b1 b2 b3
  go_upto_region 33 with fail
  have b3 := B3.out.set (i := 0) (v := .int .i64 m.kind) (m' := { k14 m with kind := m.kind }) rfl
  have b2 := B2.out.off (p := ⟨w.heap.size + 1 + 1, 0, none⟩) (by simp) (.int .i64 m.kind)
  have bel := bel.setCell (p := ⟨w.heap.size + 1 + 1, 0, none⟩) (by simp; omega) (.int .i64 m.kind)
  clear B1 B2 B3 c0 d0 f0
  generalize V1.setCell ⟨w.heap.size + 1 + 1, 0, none⟩ (.int .i64 m.kind) = V2 at *
  have B2 := Lib.hid b2
  have B3 := Lib.hid b3
  clear b2 b3
  go_wp2_with (first | (refine wpList_loadM (b := w.heap.size + 1 + 1) (m := { k14 m with kind := m.kind }) rfl _ rfl rfl B3.out ?_) | (refine wpList_storeM (b := w.heap.size + 1) (m' := { k14 m with kind := m.kind }) rfl _ _ rfl rfl rfl B2.out ?_))
  exact bodyPost_ret (v := .tuple #[.agg (M.cells { k14 m with kind := m.kind }), .bool true]) (results_pair (p := 2) (q := 3) (ty := 29) rfl _ _ (w.heap.size + 1) _ rfl (loadVarM (B2.out.put (m' := { k14 m with kind := m.kind }))) (.bool true) rfl) rfl ⟨rfl, below_setRow bel (by omega) _⟩

set_option maxHeartbeats 6400000 in
set_option maxRecDepth 100000 in
theorem own_low (m : M) (w : World) (hk : m.kind < 1) :
    Calls Tryz.prog 62 #[.agg m.cells] w fun e w' => e = .returned (.tuple #[.agg M.zero.cells, .bool false]) ∧ Below w.heap.size w w' := by
  obtain ⟨b1, b2, b3, bel⟩ := start3 w m
  go_enter Tryz.func62, Tryz.ntmps62
  go_upto_region 2 with fail
  change Code.wp _ _ _ _ (((w.alloc (.cells m.cells 29)).alloc (.cells M.zero.cells 29)).alloc (.cells M.zero.cells 29))
  generalize ((w.alloc (.cells m.cells 29)).alloc (.cells M.zero.cells 29)).alloc (.cells M.zero.cells 29) = V at *
  have c0 := b1.cs.c0
  have B2 := Lib.hid b2
  clear b1 b2 b3
  go_wp2_with (first | (refine wpList_built rfl 29 _ rfl M.zero.cells (by kernel_rfl) ?_) | (refine wpList_storeM (b := w.heap.size + 1) (m' := M.zero) rfl _ _ rfl rfl rfl B2.out ?_))
  exact bodyPost_ret (v := .tuple #[.agg M.zero.cells, .bool false]) (results_pair (p := 2) (q := 3) (ty := 29) rfl _ _ (w.heap.size + 1) _ rfl (loadVarM (B2.out.put (m' := M.zero))) (.bool false) rfl) rfl ⟨rfl, below_setRow bel (by omega) _⟩

set_option maxHeartbeats 6400000 in
set_option maxRecDepth 100000 in
theorem own_high (m : M) (w : World) (hk : 14 < m.kind) :
    Calls Tryz.prog 62 #[.agg m.cells] w fun e w' => e = .returned (.tuple #[.agg M.zero.cells, .bool false]) ∧ Below w.heap.size w w' := by
  obtain ⟨b1, b2, b3, bel⟩ := start3 w m
  go_enter Tryz.func62, Tryz.ntmps62
  go_upto_region 2 with fail
  change Code.wp _ _ _ _ (((w.alloc (.cells m.cells 29)).alloc (.cells M.zero.cells 29)).alloc (.cells M.zero.cells 29))
  generalize ((w.alloc (.cells m.cells 29)).alloc (.cells M.zero.cells 29)).alloc (.cells M.zero.cells 29) = V at *
  have c0 := b1.cs.c0
  have B2 := Lib.hid b2
  clear b1 b2 b3
  go_wp2_with (first | (refine wpList_built rfl 29 _ rfl M.zero.cells (by kernel_rfl) ?_) | (refine wpList_storeM (b := w.heap.size + 1) (m' := M.zero) rfl _ _ rfl rfl rfl B2.out ?_))
  exact bodyPost_ret (v := .tuple #[.agg M.zero.cells, .bool false]) (results_pair (p := 2) (q := 3) (ty := 29) rfl _ _ (w.heap.size + 1) _ rfl (loadVarM (B2.out.put (m' := M.zero))) (.bool false) rfl) rfl ⟨rfl, below_setRow bel (by omega) _⟩

end Go.Proofs.YtfegdblaohhdoaaGreatDoor.Own
namespace Go.Proofs.YtfegdblaohhdoaaGreatDoor.Bare
open Go.ChangeShapes Go.WideShapes Go.ChangeAt Go.RowKit
open Go.Proofs.YtfegdblaohhdoaaGreatDoor.Ms
open Go.Proofs.YtfegdblaohhdoaaGreatDoor.Box
open Go.Proofs.YtfegdblaohhdoaaGreatDoor.Same
open Go.Proofs.YtfegdblaohhdoaaGreatDoor.SameP
open Go.Proofs.YtfegdblaohhdoaaGreatDoor.Hs
open Go.Proofs.YtfegdblaohhdoaaGreatDoor.RSame
open Go.Proofs.YtfegdblaohhdoaaGreatDoor.Own
open Go.Proofs.YtfegdblaohhdoaaGreatDoor.Or
set_option linter.unusedVariables false
set_option maxRecDepth 100000

theorem is_1 {m : M} (h : m.kind = 1) : isKind m = true ∧ ownM m = { k1 m with kind := m.kind } := by
  have hi : isKind m = true := by simp [isKind, h]
  exact ⟨hi, by simp [ownM, hi, fieldsOf, h]⟩
theorem is_2 {m : M} (h : m.kind = 2) : isKind m = true ∧ ownM m = { k2 m with kind := m.kind } := by
  have hi : isKind m = true := by simp [isKind, h]
  exact ⟨hi, by simp [ownM, hi, fieldsOf, h]⟩
theorem is_3 {m : M} (h : m.kind = 3) : isKind m = true ∧ ownM m = { k3 m with kind := m.kind } := by
  have hi : isKind m = true := by simp [isKind, h]
  exact ⟨hi, by simp [ownM, hi, fieldsOf, h]⟩
theorem is_4 {m : M} (h : m.kind = 4) : isKind m = true ∧ ownM m = { k4 m with kind := m.kind } := by
  have hi : isKind m = true := by simp [isKind, h]
  exact ⟨hi, by simp [ownM, hi, fieldsOf, h]⟩
theorem is_5 {m : M} (h : m.kind = 5) : isKind m = true ∧ ownM m = { k5 m with kind := m.kind } := by
  have hi : isKind m = true := by simp [isKind, h]
  exact ⟨hi, by simp [ownM, hi, fieldsOf, h]⟩
theorem is_6 {m : M} (h : m.kind = 6) : isKind m = true ∧ ownM m = { k6 m with kind := m.kind } := by
  have hi : isKind m = true := by simp [isKind, h]
  exact ⟨hi, by simp [ownM, hi, fieldsOf, h]⟩
theorem is_7 {m : M} (h : m.kind = 7) : isKind m = true ∧ ownM m = { k7 m with kind := m.kind } := by
  have hi : isKind m = true := by simp [isKind, h]
  exact ⟨hi, by simp [ownM, hi, fieldsOf, h]⟩
theorem is_8 {m : M} (h : m.kind = 8) : isKind m = true ∧ ownM m = { k8 m with kind := m.kind } := by
  have hi : isKind m = true := by simp [isKind, h]
  exact ⟨hi, by simp [ownM, hi, fieldsOf, h]⟩
theorem is_9 {m : M} (h : m.kind = 9) : isKind m = true ∧ ownM m = { k9 m with kind := m.kind } := by
  have hi : isKind m = true := by simp [isKind, h]
  exact ⟨hi, by simp [ownM, hi, fieldsOf, h]⟩
theorem is_10 {m : M} (h : m.kind = 10) : isKind m = true ∧ ownM m = { k10 m with kind := m.kind } := by
  have hi : isKind m = true := by simp [isKind, h]
  exact ⟨hi, by simp [ownM, hi, fieldsOf, h]⟩
theorem is_11 {m : M} (h : m.kind = 11) : isKind m = true ∧ ownM m = { k11 m with kind := m.kind } := by
  have hi : isKind m = true := by simp [isKind, h]
  exact ⟨hi, by simp [ownM, hi, fieldsOf, h]⟩
theorem is_12 {m : M} (h : m.kind = 12) : isKind m = true ∧ ownM m = { k12 m with kind := m.kind } := by
  have hi : isKind m = true := by simp [isKind, h]
  exact ⟨hi, by simp [ownM, hi, fieldsOf, h]⟩
theorem is_13 {m : M} (h : m.kind = 13) : isKind m = true ∧ ownM m = { k13 m with kind := m.kind } := by
  have hi : isKind m = true := by simp [isKind, h]
  exact ⟨hi, by simp [ownM, hi, fieldsOf, h]⟩
theorem is_14 {m : M} (h : m.kind = 14) : isKind m = true ∧ ownM m = { k14 m with kind := m.kind } := by
  have hi : isKind m = true := by simp [isKind, h]
  exact ⟨hi, by simp [ownM, hi, fieldsOf, h]⟩
theorem is_low {m : M} (h : m.kind < 1) : isKind m = false := by unfold isKind; exact decide_eq_false (by omega)
theorem is_high {m : M} (h : 14 < m.kind) : isKind m = false := by unfold isKind; exact decide_eq_false (by omega)
theorem is_not {m : M} (h : isKind m = false) : ownM m = M.zero := by simp [ownM, h]
theorem own_in {m : M} {w : World} (hm : m.In w) : (ownM m).In w := by
  rcases (show m.kind < 1 ∨ m.kind = 1 ∨ m.kind = 2 ∨ m.kind = 3 ∨ m.kind = 4 ∨ m.kind = 5 ∨ m.kind = 6 ∨ m.kind = 7 ∨ m.kind = 8 ∨ m.kind = 9 ∨ m.kind = 10 ∨ m.kind = 11 ∨ m.kind = 12 ∨ m.kind = 13 ∨ m.kind = 14 ∨ 14 < m.kind by omega) with h | h | h | h | h | h | h | h | h | h | h | h | h | h | h | h
  · rw [is_not (is_low h)]; exact ⟨DRow.nil _ _, SRow.nil _ _, Nat.zero_le _, Nat.zero_le _⟩
  · rw [(is_1 h).2]; exact ⟨DRow.nil _ _, SRow.nil _ _, Nat.zero_le _, Nat.zero_le _⟩
  · rw [(is_2 h).2]; exact ⟨DRow.nil _ _, SRow.nil _ _, Nat.zero_le _, Nat.zero_le _⟩
  · rw [(is_3 h).2]; exact ⟨DRow.nil _ _, hm.s, Nat.zero_le _, hm.sl⟩
  · rw [(is_4 h).2]; exact ⟨DRow.nil _ _, hm.s, Nat.zero_le _, hm.sl⟩
  · rw [(is_5 h).2]; exact ⟨hm.d, hm.s, hm.dl, hm.sl⟩
  · rw [(is_6 h).2]; exact ⟨DRow.nil _ _, hm.s, Nat.zero_le _, hm.sl⟩
  · rw [(is_7 h).2]; exact ⟨DRow.nil _ _, hm.s, Nat.zero_le _, hm.sl⟩
  · rw [(is_8 h).2]; exact ⟨DRow.nil _ _, hm.s, Nat.zero_le _, hm.sl⟩
  · rw [(is_9 h).2]; exact ⟨DRow.nil _ _, hm.s, Nat.zero_le _, hm.sl⟩
  · rw [(is_10 h).2]; exact ⟨DRow.nil _ _, hm.s, Nat.zero_le _, hm.sl⟩
  · rw [(is_11 h).2]; exact ⟨DRow.nil _ _, hm.s, Nat.zero_le _, hm.sl⟩
  · rw [(is_12 h).2]; exact ⟨DRow.nil _ _, hm.s, Nat.zero_le _, hm.sl⟩
  · rw [(is_13 h).2]; exact ⟨DRow.nil _ _, hm.s, Nat.zero_le _, hm.sl⟩
  · rw [(is_14 h).2]; exact ⟨DRow.nil _ _, SRow.nil _ _, Nat.zero_le _, Nat.zero_le _⟩
  · rw [is_not (is_high h)]; exact ⟨DRow.nil _ _, SRow.nil _ _, Nat.zero_le _, Nat.zero_le _⟩

theorem own_any (m : M) (w : World) : Calls Tryz.prog 62 #[.agg m.cells] w fun e w' => e = .returned (.tuple #[.agg (ownM m).cells, .bool (isKind m)]) ∧ Below w.heap.size w w' := by
  rcases (show m.kind < 1 ∨ m.kind = 1 ∨ m.kind = 2 ∨ m.kind = 3 ∨ m.kind = 4 ∨ m.kind = 5 ∨ m.kind = 6 ∨ m.kind = 7 ∨ m.kind = 8 ∨ m.kind = 9 ∨ m.kind = 10 ∨ m.kind = 11 ∨ m.kind = 12 ∨ m.kind = 13 ∨ m.kind = 14 ∨ 14 < m.kind by omega) with h | h | h | h | h | h | h | h | h | h | h | h | h | h | h | h
  · rw [is_not (is_low h), is_low h]; exact own_low m w h
  · rw [(is_1 h).1, (is_1 h).2]; exact own_1 m w h
  · rw [(is_2 h).1, (is_2 h).2]; exact own_2 m w h
  · rw [(is_3 h).1, (is_3 h).2]; exact own_3 m w h
  · rw [(is_4 h).1, (is_4 h).2]; exact own_4 m w h
  · rw [(is_5 h).1, (is_5 h).2]; exact own_5 m w h
  · rw [(is_6 h).1, (is_6 h).2]; exact own_6 m w h
  · rw [(is_7 h).1, (is_7 h).2]; exact own_7 m w h
  · rw [(is_8 h).1, (is_8 h).2]; exact own_8 m w h
  · rw [(is_9 h).1, (is_9 h).2]; exact own_9 m w h
  · rw [(is_10 h).1, (is_10 h).2]; exact own_10 m w h
  · rw [(is_11 h).1, (is_11 h).2]; exact own_11 m w h
  · rw [(is_12 h).1, (is_12 h).2]; exact own_12 m w h
  · rw [(is_13 h).1, (is_13 h).2]; exact own_13 m w h
  · rw [(is_14 h).1, (is_14 h).2]; exact own_14 m w h
  · rw [is_not (is_high h), is_high h]; exact own_high m w h

/-- Is it bare? -/
def bareN (m : M) : Bool := isKind m && M.same m (ownM m)
set_option maxHeartbeats 1600000 in
set_option maxRecDepth 100000 in
theorem bare_any (m : M) (w : World) (hm : m.In w) :
    Calls Tryz.prog 31 #[.agg m.cells] w fun e w' => e = .returned (.bool (bareN m)) ∧ Below w.heap.size w w' := by
  have HB := Lib.hid (show bareN m = (isKind m && M.same m (ownM m)) from rfl)
  have P := Lib.hid (fun w => own_any m w)
  have PS := Lib.hid (fun w (hm : m.In w) => same_any m (ownM m) w hm (own_in hm))
  generalize ownM m = o at *
  have hb := Lib.hid (Bx.new w m)
  have bel := balloc (Below.refl _ w) (.cells m.cells 29)
  have hm1 := hm.below bel
  clear hm
  cases hk : isKind m
  all_goals
    rw [hk] at P HB
    have HK := Lib.hid hk
    clear hk
    go_enter Tryz.func31, Tryz.ntmps31
    go_upto_region 1 with fail
    generalize w.alloc (.cells m.cells 29) = V at *
    go_wp2_with (first | (refine wpList_loadM (b := w.heap.size) (m := m) rfl _ rfl rfl hb.out ?_))
    refine (P.out _).mono ?_
    rintro e V ⟨rfl, hb1⟩
    have bel := bcall bel hb1
    have hb := Lib.hid (hb.out.below hb1)
    have hm1 := hm1.below hb1
    clear hb1 P
    go_upto_region 2 with (first | (refine wpList_storeM (m := M.zero) (m' := o) rfl _ _ rfl rfl rfl (heap_alloc_new _ _) ?_))
    change Code.wp _ _ _ _ ((V.alloc (.cells M.zero.cells 29)).setRow V.heap.size o.cells)
    rw [World.setRow_alloc_new]
    have B1 := Lib.hid (hb.out.old (.cells o.cells 29))
    have B2 := Lib.hid (Bx.new V o)
    have HB2 := Lib.hid (balloc bel (.cells o.cells 29))
    have HM := Lib.hid (hm1.below (balloc (Below.refl _ V) (.cells o.cells 29)))
    clear hb bel hm1
    generalize V.alloc (.cells o.cells 29) = V1 at *
  · go_wp2
    go_ret
    exact ⟨bool_eq (by rw [HB.out]; rfl), HB2.out⟩
  · go_wp2_with (first | (refine st_yes (v := .agg (M.cells m)) (by rfl) rfl (run_loadM (x := .tmp 1) rfl rfl B1.out) ?_) | (refine st_yes (v := .agg (M.cells o)) (by rfl) rfl (run_loadM (x := .tmp 3) rfl rfl B2.out) ?_))
    refine (PS.out _ HM.out).mono ?_
    rintro e w3 ⟨rfl, hb3⟩
    have HB3 := Lib.hid (bcall HB2.out hb3)
    clear hb3
    go_wp2
    go_ret
    exact ⟨bool_eq (by rw [HB.out]; simp), HB3.out⟩

end Go.Proofs.YtfegdblaohhdoaaGreatDoor.Bare
