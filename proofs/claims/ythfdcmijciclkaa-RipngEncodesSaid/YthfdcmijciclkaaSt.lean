/-
  Steps of a region that draws its order, where one operation alone may come next: whatever it does; a list of one message made, a message appended, bytes appended. Bytes of the call's own. No conditions.
-/
import Derived.Test.YthfdcmijciclkaaRt
import Derived.Test.YthfdcmijciclkaaHx
import Derived.Test.YthfdcmijciclkaaAp
import Derived.Lib.Builder
import Derived.Lib.AppendStr
namespace Go.Proofs.Ythfdcmijciclkaa.St
open Go.ChangeShapes Go.WideShapes Go.ChangeAt Go.RowKit
open Go.Proofs.Ythfdcmijciclkaa.Ms
open Go.Proofs.Ythfdcmijciclkaa.Box
open Go.Proofs.Ythfdcmijciclkaa.Ap
open Go.Proofs.Ythfdcmijciclkaa.Oct (cellsL info5 conv_row)
open Go.Proofs.Ythfdcmijciclkaa.Bk (Bk)
set_option linter.unusedVariables false
set_option maxRecDepth 100000

theorem ob_ne {w : World} {B : Nat} {e T : TypeId} {size : Nat} {v : Value} {n : Nat} {xs : List Value} {b : Nat} {cs : Array Value} (hown : w.ownsRow B e size v n xs) (hb : Bk T w b cs) (hTe : T ≠ e) : v.ownBlock ≠ some b := by
  rcases hown.2 with ⟨rfl, _⟩ | ⟨g, cap, cur, rfl, _, hg, _⟩
  · simp [Value.ownBlock]
  · intro h
    simp only [Value.ownBlock, Option.some.injEq] at h
    subst h
    unfold Bk at hb
    rw [hg] at hb
    simp at hb
    exact hTe hb.2.symm
theorem own_set {w : World} {B b i : Nat} {e T : TypeId} {size : Nat} {v u : Value} {n : Nat} {xs : List Value} {cs : Array Value} (hown : w.ownsRow B e size v n xs) (hb : Bk T w b cs) (hTe : T ≠ e) : (w.setCell ⟨b, i, none⟩ u).ownsRow B e size v n xs :=
  hown.kept (row := some b) ⟨rfl, rfl, rfl, by simp [World.setCell], fun k _ hk => Below.heap_setCell _ _ _ _ (fun e => hk (by simp [e]))⟩ (Or.inr (ob_ne hown hb hTe))
theorem own_form {w : World} {B : Nat} {e : TypeId} {size : Nat} {v : Value} {n : Nat} {xs : List Value} (hown : w.ownsRow B e size v n xs) : ∃ a c, v = .slice a n c := by
  rcases hown.2 with ⟨hv, h0⟩ | ⟨g, cap, cur, hv, _⟩
  · exact ⟨none, 0, by rw [hv, h0]⟩
  · exact ⟨_, _, hv⟩
theorem new_cells (cs : Array Value) (t : TypeId) (w : World) : ∀ j u, (cs.toList)[j]? = some u → (w.alloc (.cells cs t)).cell? ((⟨w.heap.size, 0, none⟩ : Addr).add j) = some u := by
  intro j u hu
  have := (Bk.Bk.new t w cs).cell j u (by simpa using hu)
  rw [add_at, Nat.zero_add]
  exact this

theorem cellsL_append (a b : List UInt8) : cellsL (a ++ b) = cellsL a ++ cellsL b := by simp [cellsL]
theorem conv_own {B : Nat} (w : World) (l : List UInt8) {ao : Option Addr} {cap : Nat} (h : w.ownsRow B 5 1 (.slice ao l.length cap) l.length (cellsL l)) :
    (convert 38 9 (.slice ao l.length cap)).run Try.prog w = .ok (.string ⟨l.toArray⟩) w := by
  rcases h.2 with ⟨hv, h0⟩ | ⟨g, c, cur, hv, _⟩
  · have : l = [] := List.length_eq_zero_iff.1 h0
    subst this
    show (convert 38 9 (.slice ao 0 cap)).run Try.prog w = _
    obtain ⟨rfl, _, rfl⟩ : ao = none ∧ True ∧ cap = 0 := by simpa using hv
    rw [run_convert_bytes_string w 38 9 5 none 0 0 Try.underlying38 Try.underlying5 Try.underlying9]; rfl
  · simp at hv
    obtain ⟨rfl, rfl⟩ := hv
    exact conv_row w g cap B l l.length rfl h
/-- The call's own row of the bytes bs. -/
def Own (B : Nat) (w : World) (v : Value) (bs : List UInt8) : Prop := w.ownsRow B 5 1 v bs.length (cellsL bs)
theorem Own.nil (B : Nat) (w : World) : Own B w (.slice none 0 0) [] := World.ownsRow_nil w B _ 1
theorem Own.below {B : Nat} {w w' : World} {v : Value} {bs : List UInt8} (h : Own B w v bs) (hb : Below w.heap.size w w') : Own B w' v bs := by
  refine ⟨h.1, ?_⟩
  rcases h.2 with h | ⟨g, cap, cur, a, b, c, d⟩
  · exact .inl h
  · exact .inr ⟨g, cap, cur, a, b, (hb.block g (Array.getElem?_eq_some_iff.1 c).1).trans c, d⟩
theorem Own.conv {B : Nat} {w : World} {v : Value} {bs : List UInt8} (h : Own B w v bs) : (convert 38 9 v).run Try.prog w = .ok (.string ⟨bs.toArray⟩) w := by
  obtain ⟨ao, cap, rfl⟩ := own_form h
  exact conv_own w bs h
/-- append(v, t...) -/
theorem app_str {ops : Array Oper} {rest : List Oper} {o : Oper} {a : Act} {w : World} {Q : Exit → Act → World → Prop} (hgd : o.guard = none) (s x : Operand)
    (ho : o.op = .call { callee := .builtin .append, args := #[s, x], argTypes := #[38, 9] }) (B : Nat) (v : Value) (bs : List UInt8) (t : ByteArray)
    (hs : a.eval s = v) (hown : Own B w v bs) (hx : a.eval x = .string t) (hl : bs.length + t.size ≤ 1000000) (hB : B ≤ w.heap.size)
    (h : ∀ v' w', Own B w' v' (bs ++ t.data.toList) → w.grownBy w' v.ownBlock → Below B w w' → wpList Try.prog ops Q rest (a.put o.dst v') w') : wpList Try.prog ops Q (o :: rest) a w := by
  obtain ⟨i0, hi, hz0, hz1, hz2⟩ := info_parts info5
  refine Lib.wpList_append_own_string w hgd s x 38 9 ho B 5 i0 Try.underlying38 Try.underlying9 hi hz0 hz1 hz2 v bs.length (cellsL bs) hs hown t hx (by unfold maxLen; omega) (by omega) hB ?_
  intro v' w' h2 h3 _
  refine h v' w' ?_ h3 ((Below.refl B w).grown h3 hB (fun k hk => (World.ownsRow.lt hown k hk).1))
  unfold Own
  rw [cellsL_append, List.length_append]
  exact h2

section
variable {P : Program} {ops : Array Oper} {Q : Exit → Act → World → Prop} {md : Region.Mode} {S : World → Prop}
theorem H.one {i : Nat} {o : Oper} {fuel : Nat} {listed : Array Bool} {a : Act} {w : World}
    (ho : ops[i]? = some o) (hw : Region.wanted o (yielded ops a.tmps) = true) (hr : Region.ready md ops listed = [i])
    (h : ∀ K : Act → World → Prop, Hid (∀ a' w', S w' → wpAnyH P md ops Q S fuel (listed.setIfInBounds i true) a' w' → K a' w') → Oper.wp P o a w K Q) : wpAnyH P md ops Q S (fuel + 1) listed a w := by
  refine wpAnyH_ready (rs := [i]) hr (by simp) ?_
  refine AllReadyH.cons ho (fun K hK => ?_) AllReadyH.nil
  rw [if_pos hw]
  exact h K (Lib.hid (fun a' w' hS hW => hK.out a' w' hS (fun _ => hW)))
theorem H.two {i j : Nat} {o o' : Oper} {fuel : Nat} {listed : Array Bool} {a : Act} {w : World}
    (ho : ops[i]? = some o) (hw : Region.wanted o (yielded ops a.tmps) = true) (ho' : ops[j]? = some o') (hw' : Region.wanted o' (yielded ops a.tmps) = true) (hr : Region.ready md ops listed = [i, j])
    (h : ∀ K : Act → World → Prop, Hid (∀ a' w', S w' → wpAnyH P md ops Q S fuel (listed.setIfInBounds i true) a' w' → K a' w') → Oper.wp P o a w K Q)
    (h' : ∀ K : Act → World → Prop, Hid (∀ a' w', S w' → wpAnyH P md ops Q S fuel (listed.setIfInBounds j true) a' w' → K a' w') → Oper.wp P o' a w K Q) : wpAnyH P md ops Q S (fuel + 1) listed a w := by
  refine wpAnyH_ready (rs := [i, j]) hr (by simp) ?_
  refine AllReadyH.cons ho (fun K hK => ?_) (AllReadyH.cons ho' (fun K hK => ?_) AllReadyH.nil)
  · rw [if_pos hw]
    exact h K (Lib.hid (fun a' w' hS hW => hK.out a' w' hS (fun _ => hW)))
  · rw [if_pos hw']
    exact h' K (Lib.hid (fun a' w' hS hW => hK.out a' w' hS (fun _ => hW)))
theorem wp_val {o : Oper} {a : Act} {w : World} {K : Act → World → Prop} {d : Nat} {v : Value} (hd : o.dst = some d) (hy : (execOp a.eval o).run P w = .ok (.value v) w) (h : K (a.put (some d) v) w) : Oper.wp P o a w K Q := by
  unfold Oper.wp
  rw [hy]
  simp only [Oper.upon, hd]
  exact h
end
theorem wp_bsM {o : Oper} {a : Act} {w : World} {K : Act → World → Prop} {Q : Exit → Act → World → Prop} {d : Nat} (hd : o.dst = some d) (x : Operand) (hop : o.op = .buildSlice 23 1 #[(0, x)]) {m : M} (hx : a.eval x = .agg m.cells)
    (h : K (a.put (some d) (.slice (some ⟨w.heap.size, 0, none⟩) 1 1)) (w.alloc (.cells m.cells 34))) : Oper.wp Try.prog o a w K Q := by
  unfold Oper.wp
  rw [ex_bs hop hx]
  simp only [Oper.upon, hd]
  exact h
section
variable {ops : Array Oper} {Q : Exit → Act → World → Prop} {md : Region.Mode} {S : World → Prop}
/-- []api.Msg{m} -/
theorem H.bsM {i d : Nat} {o : Oper} {fuel : Nat} {listed : Array Bool} {a : Act} {w : World}
    (ho : ops[i]? = some o) (hw : Region.wanted o (yielded ops a.tmps) = true) (hr : Region.ready md ops listed = [i]) (hd : o.dst = some d)
    (x : Operand) (hop : o.op = .buildSlice 23 1 #[(0, x)]) {m : M} (hx : a.eval x = .agg m.cells) (hS : S (w.alloc (.cells m.cells 34)))
    (h : wpAnyH Try.prog md ops Q S fuel (listed.setIfInBounds i true) (a.put (some d) (.slice (some ⟨w.heap.size, 0, none⟩) 1 1)) (w.alloc (.cells m.cells 34))) : wpAnyH Try.prog md ops Q S (fuel + 1) listed a w := by
  refine H.one ho hw hr (fun K hK => ?_)
  unfold Oper.wp
  rw [ex_bs hop hx]
  simp only [Oper.upon, hd]
  exact hK.out _ _ hS h
/-- append(v, m), behind the making of the list of m alone. -/
theorem H.appM {i d : Nat} {o : Oper} {fuel : Nat} {listed : Array Bool} {a : Act} {w : World}
    (ho : ops[i]? = some o) (hw : Region.wanted o (yielded ops a.tmps) = true) (hr : Region.ready md ops listed = [i]) (hd : o.dst = some d)
    (s x : Operand) (hop : o.op = .call { callee := .builtin .append, args := #[s, x], argTypes := #[23, 23] }) (B : Nat) (v : Value) (l : List M) (m : M) (g c : Nat)
    (hs : a.eval s = v) (hown : Lst B w v l) (hx : a.eval x = .slice (some ⟨g, 0, none⟩) 1 c) (hm : ∀ j u, (m.cells.toList)[j]? = some u → w.cell? ((⟨g, 0, none⟩ : Addr).add j) = some u)
    (hl : l.length ≤ 100000) (hB : B ≤ w.heap.size) (hS : ∀ w', w.grownBy w' v.ownBlock → S w')
    (h : ∀ v' w', Lst B w' v' (l ++ [m]) → w.grownBy w' v.ownBlock → Below B w w' → wpAnyH Try.prog md ops Q S fuel (listed.setIfInBounds i true) (a.put (some d) v') w') : wpAnyH Try.prog md ops Q S (fuel + 1) listed a w := by
  obtain ⟨i0, hi, hz, hsz, hby⟩ := infoA
  refine H.one ho hw hr (fun K hK => ?_)
  refine wp_append_own w s x 23 hop B 34 i0 (.agg M.zero.cells) 25 i0.bytes Try.underlying23 hi hz hsz rfl rfl (by decide) v l.length (rowC l) hs hown ⟨g, 0, none⟩ 1 c m.cells.toList hx rfl hm ?_ (by unfold maxLen; omega) ?_ hB ?_
  · intro u hu
    have := oneM m
    rw [Array.all_eq_true_iff_forall_mem] at this
    exact this u (by simpa using hu)
  · have : (l.length + 1) * i0.bytes ≤ 100001 * 4096 := Nat.mul_le_mul (by omega) hby
    omega
  · intro v' w' h2 h3 _
    rw [hd]
    refine hK.out _ _ (hS w' h3) (h v' w' ?_ h3 ((Below.refl B w).grown h3 hB (fun k hk => (World.ownsRow.lt hown k hk).1)))
    unfold Lst
    rw [rowC_snoc, List.length_append]
    exact h2
/-- append(v, the bytes of a row) -/
theorem H.appB {i d : Nat} {o : Oper} {fuel : Nat} {listed : Array Bool} {a : Act} {w : World}
    (ho : ops[i]? = some o) (hw : Region.wanted o (yielded ops a.tmps) = true) (hr : Region.ready md ops listed = [i]) (hd : o.dst = some d)
    (s x : Operand) (hop : o.op = .call { callee := .builtin .append, args := #[s, x], argTypes := #[38, 38] }) (B : Nat) (v : Value) (bs news : List UInt8) (g c : Nat)
    (hs : a.eval s = v) (hown : Own B w v bs) (hx : a.eval x = .slice (some ⟨g, 0, none⟩) news.length c) (hm : ∀ j u, (cellsL news)[j]? = some u → w.cell? ((⟨g, 0, none⟩ : Addr).add j) = some u)
    (hl : bs.length + news.length ≤ 1000000) (hB : B ≤ w.heap.size) (hS : ∀ w', w.grownBy w' v.ownBlock → S w')
    (h : ∀ v' w', Own B w' v' (bs ++ news) → w.grownBy w' v.ownBlock → Below B w w' → wpAnyH Try.prog md ops Q S fuel (listed.setIfInBounds i true) (a.put (some d) v') w') : wpAnyH Try.prog md ops Q S (fuel + 1) listed a w := by
  obtain ⟨i0, hi, hz0, hz1, hz2⟩ := info_parts info5
  refine H.one ho hw hr (fun K hK => ?_)
  refine wp_append_own w s x 38 hop B 5 i0 (.int .u8 0) 1 1 Try.underlying38 hi hz0 hz1 hz2 rfl (by decide) v bs.length (cellsL bs) hs hown ⟨g, 0, none⟩ news.length c (cellsL news) hx (by simp [cellsL]) hm ?_ (by unfold maxLen; omega) (by omega) hB ?_
  · intro u hu
    simp only [cellsL, List.mem_map] at hu
    obtain ⟨x, _, rfl⟩ := hu
    rfl
  · intro v' w' h2 h3 _
    rw [hd]
    refine hK.out _ _ (hS w' h3) (h v' w' ?_ h3 ((Below.refl B w).grown h3 hB (fun k hk => (World.ownsRow.lt hown k hk).1)))
    unfold Own
    rw [cellsL_append, List.length_append]
    exact h2
/-- append(v, t...) -/
theorem H.appS {i d : Nat} {o : Oper} {fuel : Nat} {listed : Array Bool} {a : Act} {w : World}
    (ho : ops[i]? = some o) (hw : Region.wanted o (yielded ops a.tmps) = true) (hr : Region.ready md ops listed = [i]) (hd : o.dst = some d)
    (s x : Operand) (hop : o.op = .call { callee := .builtin .append, args := #[s, x], argTypes := #[38, 9] }) (B : Nat) (v : Value) (bs : List UInt8) (t : ByteArray)
    (hs : a.eval s = v) (hown : Own B w v bs) (hx : a.eval x = .string t) (hl : bs.length + t.size ≤ 1000000) (hB : B ≤ w.heap.size) (hS : ∀ w', w.grownBy w' v.ownBlock → S w')
    (h : ∀ v' w', Own B w' v' (bs ++ t.data.toList) → w.grownBy w' v.ownBlock → Below B w w' → wpAnyH Try.prog md ops Q S fuel (listed.setIfInBounds i true) (a.put (some d) v') w') : wpAnyH Try.prog md ops Q S (fuel + 1) listed a w := by
  obtain ⟨i0, hi, hz0, hz1, hz2⟩ := info_parts info5
  refine H.one ho hw hr (fun K hK => ?_)
  obtain ⟨v', w', hr2, h2, h3, h4⟩ := Lib.run_append_own_string (P := Try.prog) w B 38 9 o.type 5 i0 Try.underlying38 Try.underlying9 hi hz0 hz1 hz2 v bs.length (cellsL bs) hown t (by unfold maxLen; omega) (by omega) hB
  unfold Oper.wp execOp
  simp only [hop, resolve, invoke, builtin, Sem.run_bind, Sem.run_pure, Result.andThen_ok, List.map_toArray, List.map_cons, List.map_nil, hs, hx, hr2, Oper.upon, hd]
  refine hK.out _ _ (hS w' h3) (h v' w' ?_ h3 ((Below.refl B w).grown h3 hB (fun k hk => (World.ownsRow.lt hown k hk).1)))
  unfold Own
  rw [cellsL_append, List.length_append]
  exact h2
end
end Go.Proofs.Ythfdcmijciclkaa.St
