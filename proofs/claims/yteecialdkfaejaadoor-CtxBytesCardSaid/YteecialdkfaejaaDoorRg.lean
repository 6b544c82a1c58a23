/-
  Bytes read one behind the other by a cursor that may be Bad: what each read answers, by its place alone; what leaves the blocks below one alone, but for one. Condition: at most 2^20 bytes.
-/
import Derived.Test.YteecialdkfaejaaDoorP1
import Derived.Test.YteecialdkfaejaaDoorNu
import Derived.Test.YteecialdkfaejaaDoorP5
import Derived.Test.YteecialdkfaejaaDoorP3
namespace Go.Proofs.YteecialdkfaejaaDoor.Rg
open Go.ChangeShapes Go.WideShapes Go.ChangeAt Go.RowKit
open Go.Proofs.YteecialdkfaejaaDoor.Ms
open Go.Proofs.YteecialdkfaejaaDoor.Box
open Go.Proofs.YteecialdkfaejaaDoor.Cur (numL num_yes num_no text_yes text_no hasB)
open Go.Proofs.YteecialdkfaejaaDoor.Bk (Bk cur cur_one)
set_option linter.unusedVariables false
set_option maxRecDepth 100000
set_option maxRecDepth 100000
/-- May k bytes be taken at a place? -/
def okR (s : ByteArray) (p : Nat × Bool) (k : Nat) : Bool := !p.2 && decide (p.1 + k ≤ s.size)
/-- The place behind; the number, the text there. -/
def nx (s : ByteArray) (k : Nat) (p : Nat × Bool) : Nat × Bool := if okR s p k then (p.1 + k, false) else (p.1, true)
def rdV (s : ByteArray) (p : Nat × Bool) (k : Nat) : Int := if okR s p k then ((numL ((s.data.toList.drop p.1).take k) : Nat) : Int) else 0
def rdT (s : ByteArray) (p : Nat × Bool) (k : Nat) : ByteArray := if okR s p k then s.extract p.1 (p.1 + k) else ⟨#[]⟩
theorem ok_yes {s : ByteArray} {a k : Nat} (h : a + k ≤ s.size) : okR s (a, false) k = true := by unfold okR; simp [h]
theorem ok_no {s : ByteArray} {a k : Nat} (h : ¬ a + k ≤ s.size) : okR s (a, false) k = false := by unfold okR; simp; omega
theorem ok_bad (s : ByteArray) (a k : Nat) : okR s (a, true) k = false := rfl
theorem ok_cases {s : ByteArray} {a k : Nat} {y : Bool} (h : okR s (a, y) k = true) : y = false ∧ a + k ≤ s.size := by unfold okR at h; simpa using h
theorem nx_yes {s : ByteArray} {a k : Nat} (h : a + k ≤ s.size) : nx s k (a, false) = (a + k, false) := by unfold nx; rw [if_pos (ok_yes h)]
theorem nx_no {s : ByteArray} {a k : Nat} (h : ¬ a + k ≤ s.size) : nx s k (a, false) = (a, true) := by unfold nx; rw [ok_no h]; rfl
theorem nx_bad {s : ByteArray} {k : Nat} {p : Nat × Bool} (h : p.2 = true) : (nx s k p).2 = true := by
  obtain ⟨a, y⟩ := p
  simp only [] at h
  subst h
  unfold nx; rw [ok_bad]; rfl
theorem v_yes {s : ByteArray} {a k : Nat} (h : a + k ≤ s.size) : rdV s (a, false) k = ((numL ((s.data.toList.drop a).take k) : Nat) : Int) := by unfold rdV; rw [if_pos (ok_yes h)]
theorem t_yes {s : ByteArray} {a k : Nat} (h : a + k ≤ s.size) : rdT s (a, false) k = s.extract a (a + k) := by unfold rdT; rw [if_pos (ok_yes h)]
theorem v_no {s : ByteArray} {p : Nat × Bool} {k : Nat} (h : okR s p k = false) : rdV s p k = 0 := by unfold rdV; rw [h]; rfl
theorem t_no {s : ByteArray} {p : Nat × Bool} {k : Nat} (h : okR s p k = false) : rdT s p k = ⟨#[]⟩ := by unfold rdT; rw [h]; rfl
theorem nx_le {s : ByteArray} {k : Nat} {p : Nat × Bool} (h : p.1 ≤ s.size) : (nx s k p).1 ≤ s.size := by
  obtain ⟨a, y⟩ := p
  unfold nx
  cases hk : okR s (a, y) k
  · exact h
  · obtain ⟨_, h2⟩ := ok_cases hk
    exact h2
theorem v_range {s : ByteArray} {p : Nat × Bool} {k : Nat} (n : Int) (hn : n = ((256 ^ k : Nat) : Int)) (h : 0 < n) : 0 ≤ rdV s p k ∧ rdV s p k < n := by
  cases hk : okR s p k
  · rw [v_no hk]; exact ⟨by omega, h⟩
  · unfold rdV
    rw [if_pos hk]
    refine ⟨by omega, ?_⟩
    have h1 := Cur.numL_lt ((s.data.toList.drop p.1).take k)
    have h2 : 256 ^ ((s.data.toList.drop p.1).take k).length ≤ 256 ^ k := Nat.pow_le_pow_right (by decide) (by simp; omega)
    rw [hn]
    omega
theorem has_no {s : ByteArray} {a k : Nat} {y : Bool} (hk : okR s (a, y) k = false) : hasB a s.size k y = false := by
  cases y with
  | true => rfl
  | false =>
    have h : ¬ a + k ≤ s.size := fun h => by rw [ok_yes h] at hk; cases hk
    unfold hasB
    simp
    omega
theorem cnum (s : ByteArray) (p : Nat × Bool) (k : Nat) (ki : Int) (hki : ki = k) (hs : s.size ≤ maxLen) (hp : p.1 ≤ s.size) (h1 : 1 ≤ k) (h7 : k ≤ 7) (w : World) :
    Calls Tryd.prog 94 #[.agg #[.string s, .int .i64 (p.1 : Int), .int .i64 (s.size : Int), .bool p.2], .int .i64 ki] w fun e w' => e = .returned (.tuple #[.int .i64 (rdV s p k), .agg #[.string s, .int .i64 ((nx s k p).1 : Int), .int .i64 (s.size : Int), .bool (nx s k p).2]]) ∧ Below w.heap.size w w' := by
  subst hki
  obtain ⟨a, y⟩ := p
  cases hk : okR s (a, y) k
  · have := num_no s a s.size k y w hs hp (Nat.le_refl _) (has_no hk) (by omega) (by omega)
    rw [v_no hk, show nx s k (a, y) = (a, true) by unfold nx; rw [hk]; rfl]
    exact this
  · obtain ⟨rfl, h⟩ := ok_cases hk
    have := num_yes s a s.size k w hs hp (Nat.le_refl _) h h1 h7
    rw [v_yes h, nx_yes h]
    exact this
theorem ctext (s : ByteArray) (p : Nat × Bool) (k : Nat) (ki : Int) (hki : ki = k) (hs : s.size ≤ maxLen) (hp : p.1 ≤ s.size) (w : World) :
    Calls Tryd.prog 95 #[.agg #[.string s, .int .i64 (p.1 : Int), .int .i64 (s.size : Int), .bool p.2], .int .i64 ki] w fun e w' => e = .returned (.tuple #[.string (rdT s p k), .agg #[.string s, .int .i64 ((nx s k p).1 : Int), .int .i64 (s.size : Int), .bool (nx s k p).2]]) ∧ Below w.heap.size w w' := by
  subst hki
  obtain ⟨a, y⟩ := p
  cases hk : okR s (a, y) k
  · have := text_no s a s.size k y w hs hp (Nat.le_refl _) (has_no hk)
    rw [t_no hk, show nx s k (a, y) = (a, true) by unfold nx; rw [hk]; rfl]
    exact this
  · obtain ⟨rfl, h⟩ := ok_cases hk
    have := text_yes s a s.size k w hs hp (Nat.le_refl _) h
    rw [t_yes h, nx_yes h]
    exact this
/-- Nothing below B is changed, but block b. -/
structure Bel (B b : Nat) (w w' : World) : Prop where
  os : w'.os = w.os
  tape : w'.tape = w.tape
  output : w'.output = w.output
  size : w.heap.size ≤ w'.heap.size
  block : ∀ k, k < B → k ≠ b → w'.heap[k]? = w.heap[k]?
section
variable {B b : Nat} {w w' w'' : World}
theorem Bel.refl (B b : Nat) (w : World) : Bel B b w w := ⟨rfl, rfl, rfl, Nat.le_refl _, fun _ _ _ => rfl⟩
theorem Bel.trans (h : Bel B b w w') (k : Bel B b w' w'') : Bel B b w w'' := ⟨k.os.trans h.os, k.tape.trans h.tape, k.output.trans h.output, Nat.le_trans h.size k.size, fun i hi hn => (k.block i hi hn).trans (h.block i hi hn)⟩
theorem Bel.mono {B' : Nat} (h : Bel B b w w') (hB : B' ≤ B) : Bel B' b w w' := ⟨h.os, h.tape, h.output, h.size, fun k hk => h.block k (by omega)⟩
theorem Bel.of (h : Below B w w') : Bel B b w w' := ⟨h.os, h.tape, h.output, h.size, fun k hk _ => h.block k hk⟩
theorem Bel.to {C : Nat} (h : Bel B b w w') (hB : C ≤ B) (hb : C ≤ b) : Below C w w' := ⟨h.os, h.tape, h.output, h.size, fun k hk => h.block k (by omega) (by omega)⟩
theorem Bel.rowb (B : Nat) (cs : Array Value) : Bel B b w (w.setRow b cs) := ⟨rfl, rfl, rfl, by simp, fun k _ hn => setRow_other w b k cs hn⟩
theorem Bel.row {g : Nat} (h : Bel B b w w') (hg : B ≤ g) (cs : Array Value) : Bel B b w (w'.setRow g cs) := h.trans ⟨rfl, rfl, rfl, by simp, fun k hk _ => setRow_other w' g k cs (by omega)⟩
theorem Bel.cell {p : Addr} (h : Bel B b w w') (hg : B ≤ p.block) (v : Value) : Bel B b w (w'.setCell p v) := h.trans ⟨rfl, rfl, rfl, by simp [World.setCell], fun k hk _ => heap_setCell_other w' p k v (by omega)⟩
theorem Bel.bx {g : Nat} {m : M} (h : Bel w.heap.size b w w') (hn : g ≠ b) (hm : Bx w g m) : Bx w' g m := (h.block g hm.lt hn).trans hm
theorem Bel.bk {T : TypeId} {g : Nat} {cs : Array Value} (h : Bel w.heap.size b w w') (hn : g ≠ b) (hm : Bk T w g cs) : Bk T w' g cs := (h.block g hm.lt hn).trans hm
end
/-- A reader's cells. -/
def cu (s : ByteArray) (p : Nat × Bool) : Array Value := cur s (p.1 : Int) (s.size : Int) p.2
theorem cu_one (s : ByteArray) (p : Nat × Bool) : ((cu s p).all fun x => x.oneCell') = true := cur_one _ _ _ _
end Go.Proofs.YteecialdkfaejaaDoor.Rg
