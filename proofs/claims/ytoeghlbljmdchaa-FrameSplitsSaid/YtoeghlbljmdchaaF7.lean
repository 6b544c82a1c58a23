/-
  The document's example of a datagram; facts on what bytes come to. No conditions.
-/
import Derived.Test.YtoeghlbljmdchaaF5
import Derived.Test.YtoeghlbljmdchaaF6
namespace Go.Proofs.Ytoeghlbljmdchaa.F7
open Go.ChangeShapes Go.WideShapes Go.ChangeAt Go.RowKit
open Go.Proofs.Ytoeghlbljmdchaa.F1
open Go.Proofs.Ytoeghlbljmdchaa.F2
open Go.Proofs.Ytoeghlbljmdchaa.F4
open Go.Proofs.Ytoeghlbljmdchaa.F6
open Go.Proofs.Ytoeghlbljmdchaa.Nu (layN)
open Go.Proofs.Ytoeghlbljmdchaa.Tl
set_option linter.unusedVariables false
set_option maxRecDepth 100000

theorem bytes_same (a : ByteArray) : (a.toList == a.toList) = true := by simp
theorem elT_self (x : T) : elT x x = true := by unfold elT; simp
theorem ex1 : wrap ⟨#[]⟩ = ⟨#[42, 2, 0, 0]⟩ := by
  have h : layN ((⟨#[]⟩ : ByteArray).size : Int) 2 = [0, 0] := by
    unfold layN
    exact if_pos (fits2 (n := 0) (by omega))
  unfold wrap wrapL
  rw [if_pos (by decide), h]
  rfl
theorem ex2 : outB ⟨#[42, 2, 0, 0]⟩ = (⟨#[]⟩, 0, 0) := by
  have h := (wrap_back (s := ⟨#[]⟩) (t := ⟨#[]⟩) (by decide)).1
  rw [ex1] at h
  exact h
theorem ok3 : okT [((⟨#[]⟩ : ByteArray), (0 : Int)), (⟨#[97, 98]⟩, 3)] := by
  intro x hx
  simp only [List.mem_cons, List.not_mem_nil, or_false] at hx
  rcases hx with rfl | rfl
  · exact ⟨by decide, by decide, by decide, fun _ => rfl⟩
  · exact ⟨by decide, by decide, by decide, fun h => absurd h (by decide)⟩
theorem ex3 : outT 4 ⟨#[0, 3, 2, 97, 98]⟩ = ([(4, (⟨#[]⟩, 0)), (5, (⟨#[97, 98]⟩, 3))], 0, 0) := out_yes (l := [(⟨#[]⟩, 0), (⟨#[97, 98]⟩, 3)]) ok3 rfl
set_option maxHeartbeats 3200000 in
theorem awake_any (w : World) : Calls Try.prog 7 #[] w fun e w' => e = .returned (.bool true) ∧ Below w.heap.size w w' := by
  have P1 := Lib.hid (fun W => body_any ⟨#[42, 2, 0, 0]⟩ W (by decide))
  have P2 := Lib.hid (fun W => wrap_any ⟨#[]⟩ W (by decide))
  have P3 := Lib.hid (fun W => split_own ⟨#[0, 3, 2, 97, 98]⟩ 4 W (by decide) (by omega) (by omega))
  rw [ex2] at P1
  rw [ex3] at P3
  have P2 : Hid (∀ W, Calls Try.prog 10 #[.string ⟨#[]⟩] W fun e w' => e = .returned (.tuple #[.string ⟨#[42, 2, 0, 0]⟩, .bool true]) ∧ Below W.heap.size W w') := Lib.hid (fun W => (P2.out W).mono fun e w' h => by
    obtain ⟨h1, h2⟩ := h
    rw [ex1] at h1
    exact ⟨h1, h2⟩)
  have e20 := bytes_same ⟨#[42, 2, 0, 0]⟩
  go_enter Try.func7, Try.ntmps7
  go_wp2_with fail
  refine (P1.out _).mono ?_
  rintro r w1 ⟨rfl, hb⟩
  have HB := Lib.hid hb
  clear hb P1
  go_wp2_with fail
  refine (P2.out _).mono ?_
  rintro r w2 ⟨rfl, hb⟩
  have HB := Lib.hid (bcall HB.out hb)
  clear hb P2
  go_wp2_with fail
  refine (P3.out _).mono ?_
  rintro r w3 ⟨a, c, rfl, hl, hb⟩
  have HB := Lib.hid (bcall HB.out hb)
  obtain ⟨p, rfl, _, d0, d1, d2⟩ := hl.row 1 (by decide)
  have q3 : p.add (1 * 3) = ⟨p.block, p.off + 3, none⟩ := rfl
  rw [q3] at d0
  rw [q3, add_one] at d1
  rw [q3, add_two] at d2
  have ix := fun V => indexT p 2 c 1 (by decide) V
  have eq1 := fun V => run_eqlTlv (5, (⟨#[97, 98]⟩, 3)) (5, (⟨#[97, 98]⟩, 3)) V
  have eg1 := fun o q V => run_guardTlv .eql (5, (⟨#[97, 98]⟩, 3)) (5, (⟨#[97, 98]⟩, 3)) o q V
  rw [elT_self] at eq1
  clear hl hb P3
  rw [show (1 * 3 : Nat) = 3 from rfl] at ix
  simp only [List.getElem_cons_zero, List.getElem_cons_succ] at d0 d1 d2
  clear q3
  dsimp only [List.length_cons, List.length_nil]
  go_wp2
  go_ret
  exact ⟨rfl, HB.out⟩
end Go.Proofs.Ytoeghlbljmdchaa.F7
