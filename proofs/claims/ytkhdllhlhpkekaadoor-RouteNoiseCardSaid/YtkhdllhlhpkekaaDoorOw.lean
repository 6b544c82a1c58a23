/-
  Bytes of a call's own, in a struct of its own: appended, turned into a string; what else stands beside them. No conditions.
-/
import Derived.Test.YtkhdllhlhpkekaaDoorP5
import Derived.Test.YtkhdllhlhpkekaaDoorP3
import Derived.Test.YtkhdllhlhpkekaaDoorP2
import Derived.Lib.Builder
import Derived.Lib.AppendStr
namespace Go.Proofs.YtkhdllhlhpkekaaDoor.Ow
open Go.ChangeShapes Go.WideShapes Go.ChangeAt Go.RowKit
open Go.Proofs.YtkhdllhlhpkekaaDoor.Ms
open Go.Proofs.YtkhdllhlhpkekaaDoor.Box
open Go.Proofs.YtkhdllhlhpkekaaDoor.Oct (cellsL info5 conv_row)
open Go.Proofs.YtkhdllhlhpkekaaDoor.Bk (Bk)
set_option linter.unusedVariables false
set_option maxRecDepth 100000
set_option maxRecDepth 100000

theorem ob_ne {w : World} {B : Nat} {e T : TypeId} {size : Nat} {v : Value} {n : Nat} {xs : List Value} {b : Nat} {cs : Array Value} (hown : w.ownsRow B e size v n xs) (hb : Bk T w b cs) (hTe : T ≠ e) : v.ownBlock ≠ some b := by
  rcases hown.2 with ⟨rfl, _⟩ | ⟨g, cap, cur, rfl, _, hg, _⟩
  · simp [Value.ownBlock]
  · intro h
    simp only [Value.ownBlock, Option.some.injEq] at h
    subst h
    unfold Bk at hb
    rw [hg] at hb
    simp at hb
    exact hTe hb.2.symm
theorem own_set {w : World} {B b i : Nat} {e T : TypeId} {size : Nat} {v u : Value} {n : Nat} {xs : List Value} {cs : Array Value} (hown : w.ownsRow B e size v n xs) (hb : Bk T w b cs) (hTe : T ≠ e) : (w.setCell ⟨b, i, none⟩ u).ownsRow B e size v n xs :=
  hown.kept (row := some b) ⟨rfl, rfl, rfl, by simp [World.setCell], fun k _ hk => Below.heap_setCell _ _ _ _ (fun e => hk (by simp [e]))⟩ (Or.inr (ob_ne hown hb hTe))
theorem own_form {w : World} {B : Nat} {e : TypeId} {size : Nat} {v : Value} {n : Nat} {xs : List Value} (hown : w.ownsRow B e size v n xs) : ∃ a c, v = .slice a n c := by
  rcases hown.2 with ⟨hv, h0⟩ | ⟨g, cap, cur, hv, _⟩
  · exact ⟨none, 0, by rw [hv, h0]⟩
  · exact ⟨_, _, hv⟩
theorem cellsL_append (a b : List UInt8) : cellsL (a ++ b) = cellsL a ++ cellsL b := by simp [cellsL]
theorem conv_own {B : Nat} (w : World) (l : List UInt8) {ao : Option Addr} {cap : Nat} (h : w.ownsRow B 5 1 (.slice ao l.length cap) l.length (cellsL l)) :
    (convert 52 9 (.slice ao l.length cap)).run Tryd.prog w = .ok (.string ⟨l.toArray⟩) w := by
  rcases h.2 with ⟨hv, h0⟩ | ⟨g, c, cur, hv, _⟩
  · have : l = [] := List.length_eq_zero_iff.1 h0
    subst this
    show (convert 52 9 (.slice ao 0 cap)).run Tryd.prog w = _
    obtain ⟨rfl, _, rfl⟩ : ao = none ∧ True ∧ cap = 0 := by simpa using hv
    rw [run_convert_bytes_string w 52 9 5 none 0 0 Tryd.underlying52 Tryd.underlying5 Tryd.underlying9]; rfl
  · simp at hv
    obtain ⟨rfl, rfl⟩ := hv
    exact conv_row w g cap B l l.length rfl h
/-- The call's own row of the bytes bs. -/
def Own (B : Nat) (w : World) (v : Value) (bs : List UInt8) : Prop := w.ownsRow B 5 1 v bs.length (cellsL bs)
theorem Own.nil (B : Nat) (w : World) : Own B w (.slice none 0 0) [] := World.ownsRow_nil w B _ 1
theorem Own.below {B : Nat} {w w' : World} {v : Value} {bs : List UInt8} (h : Own B w v bs) (hb : Below w.heap.size w w') : Own B w' v bs := by
  refine ⟨h.1, ?_⟩
  rcases h.2 with h | ⟨g, cap, cur, a, b, c, d⟩
  · exact .inl h
  · exact .inr ⟨g, cap, cur, a, b, (hb.block g (Array.getElem?_eq_some_iff.1 c).1).trans c, d⟩
theorem Own.conv {B : Nat} {w : World} {v : Value} {bs : List UInt8} (h : Own B w v bs) : (convert 52 9 v).run Tryd.prog w = .ok (.string ⟨bs.toArray⟩) w := by
  obtain ⟨ao, cap, rfl⟩ := own_form h
  exact conv_own w bs h
/-- append(v, t...) -/
theorem app_str {ops : Array Oper} {rest : List Oper} {o : Oper} {a : Act} {w : World} {Q : Exit → Act → World → Prop} (hgd : o.guard = none) (s x : Operand)
    (ho : o.op = .call { callee := .builtin .append, args := #[s, x], argTypes := #[52, 9] }) (B : Nat) (v : Value) (bs : List UInt8) (t : ByteArray)
    (hs : a.eval s = v) (hown : Own B w v bs) (hx : a.eval x = .string t) (hl : bs.length + t.size ≤ 1000000) (hB : B ≤ w.heap.size)
    (h : ∀ v' w', Own B w' v' (bs ++ t.data.toList) → w.grownBy w' v.ownBlock → Below B w w' → wpList Tryd.prog ops Q rest (a.put o.dst v') w') : wpList Tryd.prog ops Q (o :: rest) a w := by
  obtain ⟨i0, hi, hz0, hz1, hz2⟩ := info_parts info5
  refine Lib.wpList_append_own_string w hgd s x 52 9 ho B 5 i0 Tryd.underlying52 Tryd.underlying9 hi hz0 hz1 hz2 v bs.length (cellsL bs) hs hown t hx (by unfold maxLen; omega) (by omega) hB ?_
  intro v' w' h2 h3 _
  refine h v' w' ?_ h3 ((Below.refl B w).grown h3 hB (fun k hk => (World.ownsRow.lt hown k hk).1))
  unfold Own
  rw [cellsL_append, List.length_append]
  exact h2

/-- Structs in other blocks stand still. -/
def Oth (b : Nat) (w w' : World) : Prop := ∀ (T : TypeId) k cs, T ≠ 5 → k ≠ b → Bk T w k cs → Bk T w' k cs
theorem Oth.refl (b : Nat) (w : World) : Oth b w w := fun _ _ _ _ _ h => h
theorem Oth.trans {b : Nat} {w w' w'' : World} (h : Oth b w w') (h' : Oth b w' w'') : Oth b w w'' := fun T k cs h1 h2 h3 => h' T k cs h1 h2 (h T k cs h1 h2 h3)
theorem Oth.below {b : Nat} {w w' : World} (h : Below w.heap.size w w') : Oth b w w' := fun _ _ _ _ _ h3 => h3.below h
theorem Oth.set {b i : Nat} {w : World} {v : Value} : Oth b w (w.setCell ⟨b, i, none⟩ v) := fun _ _ _ _ h2 h3 => h3.off (p := ⟨b, i, none⟩) h2 v
theorem Oth.grown {B b : Nat} {w w' : World} {v : Value} {bs : List UInt8} (hown : Own B w v bs) (hg : w.grownBy w' v.ownBlock) : Oth b w w' := fun _ _ _ h1 _ h3 => (hg.block _ h3.lt (fun e => ob_ne hown h3 h1 e.symm)).trans h3
theorem neM : (25 : TypeId) ≠ 5 := by decide
theorem Oth.bx {b g : Nat} {w w' : World} {m : M} (h : Oth b w w') (hn : g ≠ b) (hb : Bx w g m) : Bx w' g m := h 25 g m.cells neM hn hb
end Go.Proofs.YtkhdllhlhpkekaaDoor.Ow
