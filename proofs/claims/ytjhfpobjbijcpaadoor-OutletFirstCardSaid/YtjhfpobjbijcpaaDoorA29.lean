/-
  The document's example of layer 25. Condition: the variables have what they are laid with.
  A list of messages that came in, opened: each stands in the world, its prefix isn't too long, the list has room; its first messages; two lists told apart. No conditions.
-/
import Derived.Test.YtjhfpobjbijcpaaDoorA08
import Derived.Test.YtjhfpobjbijcpaaDoorA11
import Derived.Test.YtjhfpobjbijcpaaDoorA12
import Derived.Test.YtjhfpobjbijcpaaDoorA27
import Derived.Test.YtjhfpobjbijcpaaDoorA28
namespace Go.Proofs.YtjhfpobjbijcpaaDoor.O6
open Go.ChangeShapes Go.WideShapes Go.ChangeAt Go.RowKit
open Go.Proofs.YtjhfpobjbijcpaaDoor.Ms
open Go.Proofs.YtjhfpobjbijcpaaDoor.Box
open Go.Proofs.YtjhfpobjbijcpaaDoor.All
open Go.Proofs.YtjhfpobjbijcpaaDoor.Tc
open Go.Proofs.YtjhfpobjbijcpaaDoor.G1 (bare okF datF typF ok_iff)
open Go.Proofs.YtjhfpobjbijcpaaDoor.K1
open Go.Proofs.YtjhfpobjbijcpaaDoor.L2
open Go.Proofs.YtjhfpobjbijcpaaDoor.O1
open Go.Proofs.YtjhfpobjbijcpaaDoor.O3
open Go.Proofs.YtjhfpobjbijcpaaDoor.F1 (wrap encT)
open Go.Proofs.YtjhfpobjbijcpaaDoor.Bk (Bk alloc_size wpList_builtK)
set_option linter.unusedVariables false
set_option maxRecDepth 100000
def m1 : M := { M.zero with kind := 8, nonce := 7 }
def b0 : ByteArray := ⟨#[42, 2, 0, 0]⟩
def b1 : ByteArray := ⟨#[42, 2, 0, 4, 3, 2, 0, 7]⟩
theorem out_0 : outE [] = (b0, 0, 0) := by
  unfold outE
  rw [if_pos (show ([] : List M).all okL = true from rfl)]
  rfl
theorem bare_1 : bare m1 = true := by
  unfold bare
  rw [(G1.is_8 (m := m1) rfl).1, (G1.is_8 (m := m1) rfl).2]
  unfold M.same M.flatE Own.k8 m1 M.zero
  simp
theorem ok_1 : okF m1 = true := by
  unfold okF
  rw [bare_1]
  decide +kernel
theorem okl_1 : okL m1 = true := by unfold okL; rw [ok_1]; rfl
theorem bad_1 : badC Kx.zero m1 = false := by decide +kernel
theorem els_1 : elsL Kx.zero m1 = [(datF m1, typF m1)] := by
  unfold elsL othE
  rw [if_neg (show ¬ m1.kind = 11 by decide), if_pos ok_1]
theorem enc_1 : encT ([] ++ elsL Kx.zero m1) = [3, 2, 0, 7] := by
  rw [els_1]
  decide +kernel
theorem out_1 : outE [m1] = (b1, 0, 0) := by
  unfold outE
  rw [if_pos (by rw [List.all_cons, okl_1]; rfl)]
  show (if badC Kx.zero m1 = true then _ else if _ then _ else _) = _
  rw [if_neg (by rw [bad_1]; decide), if_neg (by rw [enc_1]; decide)]
  show (wrap ⟨(encT ([] ++ elsL Kx.zero m1)).toArray⟩, 0, 0) = _
  rw [enc_1]
  rfl
theorem sp_1 : ∀ m ∈ [m1], Sp m := fun m hm => by
  obtain rfl : m = m1 := by simpa using hm
  exact ⟨Nat.zero_le _, Nat.zero_le _, fun x hx => absurd hx (by show ¬ x ∈ ([] : List El); simp), Nat.zero_le _⟩
theorem one_row (m : M) (w : World) (h1 : m.ll = []) (h2 : m.sl = []) : MRow (w.alloc (.cells m.cells 34)) (some ⟨w.heap.size, 0, none⟩) [m] := by
  intro i hi
  obtain rfl : i = 0 := by simpa using hi
  refine ⟨⟨w.heap.size, 0, none⟩, rfl, by rw [alloc_size]; exact Nat.lt_succ_self _, fun j v hv => ?_, by show DRow _ m.la m.ll; rw [h1]; exact DRow.nil _ _, by show SRow _ m.sa m.sl; rw [h2]; exact SRow.nil _ _⟩
  rw [Ap.add_at, Nat.zero_mul]
  exact Ap.cells_new m w j v hv
set_option maxHeartbeats 6400000 in
theorem awake_any (w : World) (ht : Tab w) : Calls Tryd.prog 5 #[] w fun e w' => e = .returned (.bool true) ∧ Below w.heap.size w w' := by
  have P0 := fun V (y : Tab V) => O5.encode_any none 0 [] V (MRow.nil V none) (fun m hm => absurd hm (by simp)) (by decide) y
  rw [out_0] at P0
  have P1 := fun (g : Nat) V (h : MRow V (some ⟨g, 0, none⟩) [m1]) (y : Tab V) => O5.encode_any (some ⟨g, 0, none⟩) 1 [m1] V h sp_1 (by decide) y
  rw [out_1] at P1
  have P2 := Lib.hid (show ∀ V, Tab V → Calls Tryd.prog 9 #[.slice none 0 0] V fun e w' => e = .returned (.int .i64 4) ∧ Below V.heap.size V w' from fun V (y : Tab V) => O5.plain_any none 0 [] V (MRow.nil V none) (fun m hm => absurd hm (by simp)) (by decide) y)
  have P0 := Lib.hid (show ∀ V, Tab V → Calls Tryd.prog 6 #[.slice none 0 0] V fun e w' => e = .returned (.tuple #[.string b0, .int .i64 0, .int .i64 0]) ∧ Below V.heap.size V w' from P0)
  have P1 := Lib.hid (show ∀ (g : Nat) V, MRow V (some ⟨g, 0, none⟩) [m1] → Tab V → Calls Tryd.prog 6 #[.slice (some ⟨g, 0, none⟩) 1 1] V fun e w' => e = .returned (.tuple #[.string b1, .int .i64 0, .int .i64 0]) ∧ Below V.heap.size V w' from P1)
  have HT := Lib.hid ht
  have q0 : (b0.toList == [42, 2, 0, 0]) = true := by rw [ByteArray.toList_eq]; rfl
  have q1 : (b1.toList == [42, 2, 0, 4, 3, 2, 0, 7]) = true := by rw [ByteArray.toList_eq]; rfl
  clear ht
  generalize b0 = x0 at *
  generalize b1 = x1 at *
  go_enter Tryd.func5, Tryd.ntmps5
  go_wp2_with fail
  refine (P0.out _ HT.out).mono ?_
  rintro e w1 ⟨rfl, hb⟩
  have HB := Lib.hid hb
  clear hb P0
  go_wp2_with (first | (refine wpList_builtK rfl 34 _ rfl (M.cells m1) (by kernel_rfl) ?_) | (refine Ap.bs_one rfl _ rfl (m := m1) rfl ?_))
  have bel := balloc (Below.refl w1.heap.size w1) (.cells m1.cells 34)
  have HR := Lib.hid (one_row m1 w1 rfl rfl)
  have HB := Lib.hid (bcall HB.out bel)
  clear bel
  generalize w1.alloc (.cells m1.cells 34) = V at *
  generalize w1.heap.size = g at *
  refine (P1.out _ _ HR.out (HT.out.below HB.out)).mono ?_
  rintro e w2 ⟨rfl, hb⟩
  have HB := Lib.hid (bcall HB.out hb)
  clear hb P1 HR
  go_wp2_with fail
  refine (P2.out _ (HT.out.below HB.out)).mono ?_
  rintro e w3 ⟨rfl, hb⟩
  have HB := Lib.hid (bcall HB.out hb)
  clear hb P2
  go_wp2
  go_ret
  exact ⟨rfl, HB.out⟩
end Go.Proofs.YtjhfpobjbijcpaaDoor.O6
namespace Go.Proofs.YtjhfpobjbijcpaaDoor.Ol
open Go.ChangeShapes Go.WideShapes Go.ChangeAt Go.RowKit Go.Deep
open Go.Proofs.YtjhfpobjbijcpaaDoor.Ms
open Go.Proofs.YtjhfpobjbijcpaaDoor.Box
open Go.Proofs.YtjhfpobjbijcpaaDoor.Few
open Go.Proofs.YtjhfpobjbijcpaaDoor.All
open Go.Proofs.YtjhfpobjbijcpaaDoor.Open
open Go.Proofs.YtjhfpobjbijcpaaDoor.Kb (open_msgP)
open Go.Proofs.YtjhfpobjbijcpaaDoor.O3 (Sp)
set_option linter.unusedVariables false
set_option maxRecDepth 100000
section
variable {H : Type} {enc : TypeId × Value → H} {W : World}
theorem by_listP {base : Nat} {v : Value} {d : DataW H} {p : List MemPlace} (hv : Value.okWide Tryd.prog W .any base 22 v) (h : DataW.Trod enc Tryd.prog W 0 (fun _ => true) true 22 v d p) :
    ∃ (a : Option Addr) (l : List M) (c : Nat), v = .slice a l.length c ∧ MRow W a l ∧ l.length ≤ 9223372036854775807 ∧ l.length ≤ c ∧ ∀ m ∈ l, m.pfx.size ≤ maxLen := by
  obtain ⟨fuel, hf⟩ := h
  have hvc := okWide_slice Tryd.underlying22 hv
  obtain ⟨va, vn, vc, rfl⟩ := hvc
  rcases open_slice Tryd.underlying22 hf with h0 | ⟨a, len, cap, m, n, D, Pl, hcs, hb, hl, hm, hmm, hx, hi⟩
  · have e := h0.1
    simp [Value.cells] at e
    obtain ⟨rfl, rfl, rfl⟩ := e
    exact ⟨none, [], 0, rfl, MRow.nil _ _, by simp, Nat.le_refl _, fun m hm => absurd hm (by simp)⟩
  · simp [Value.cells] at hcs
    obtain ⟨rfl, rfl, rfl⟩ := hcs
    obtain ⟨l, hll, hr⟩ := els (n := vn) (R := fun i (u : M) => (∀ j v, (u.cells.toList)[j]? = some v → W.cell? ((a.add (i * 25)).add j) = some v) ∧ DRow W u.la u.ll ∧ SRow W u.sa u.sl ∧ u.pfx.size ≤ maxLen) (fun i hin => by
      obtain ⟨cs', hc, ht'⟩ := hi i (by rw [hmm]; split <;> omega)
      rw [cellsM] at hc
      obtain ⟨u, rfl, hd, hs, hp⟩ := open_msgP ht'
      obtain ⟨_, hcl, hat⟩ := World.cells?_some hc
      refine ⟨u, fun j v hv => ?_, hd, hs, hp⟩
      have hj : j < 25 := by
        have := (List.getElem?_eq_some_iff.1 hv).1
        simpa [M.cells] using this
      rw [hat j hj]; exact hv)
    refine ⟨some a, l, vc, by rw [hll], fun i hin => ⟨a, rfl, ?_, (hr i hin).1, (hr i hin).2.1, (hr i hin).2.2.1⟩, by unfold maxLen at hm; omega, by omega, fun m hm => ?_⟩
    · have := block_lt_of_cell ((hr i hin).1 0 _ rfl)
      rwa [add_block, add_block] at this
    · obtain ⟨i, hi, rfl⟩ := List.getElem_of_mem hm
      exact (hr i hi).2.2.2
end
theorem few_all {l : List M} {n : Int} (h : fewL l n = true) (hp : ∀ m ∈ l, m.pfx.size ≤ maxLen) : (l.length : Int) ≤ n ∧ ∀ m ∈ l, Sp m := by
  unfold fewL at h
  simp only [Bool.and_eq_true, decide_eq_true_eq] at h
  exact ⟨h.1, fun m hm => Sp.few (List.all_eq_true.1 h.2 m hm) (hp m hm)⟩
theorem row_take {w : World} {a : Option Addr} {l : List M} (h : MRow w a l) (k : Nat) : MRow w a (l.take k) := by
  intro i hi
  have hil : i < l.length := by simp at hi; omega
  have := h i hil
  rw [List.getElem_take]
  exact this
end Go.Proofs.YtjhfpobjbijcpaaDoor.Ol
