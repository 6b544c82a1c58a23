/-
  Whether a message has few parts, of few bytes (the document's guard). No condition.
-/
import Derived.Test.YtkhdllhlhpkekaaDoorCnt
namespace Go.Proofs.YtkhdllhlhpkekaaDoor.Few
open Go.ChangeShapes Go.WideShapes Go.ChangeAt Go.RowKit
open Go.Proofs.YtkhdllhlhpkekaaDoor.Ms
open Go.Proofs.YtkhdllhlhpkekaaDoor.Box
open Go.Proofs.YtkhdllhlhpkekaaDoor.Same
open Go.Proofs.YtkhdllhlhpkekaaDoor.Cnt
set_option linter.unusedVariables false
set_option maxRecDepth 100000

def small (n : Nat) (l : List El) : Bool := l.all fun x => decide (x.1.size ≤ n)
theorem small_take (n : Nat) (l : List El) (k : Nat) (h : k < l.length) : small n (l.take (k + 1)) = (small n (l.take k) && decide (l[k].1.size ≤ n)) := by
  unfold small
  rw [List.take_succ_eq_append_getElem h, List.all_append]
  simp
theorem small_not (n : Nat) (l : List El) (k : Nat) (h : k < l.length) (hn : n < l[k].1.size) : small n l = false := by
  unfold small
  rw [List.all_eq_false]
  exact ⟨l[k], List.getElem_mem h, by simp; omega⟩
/-- Few parts, of few bytes? -/
def fewB (m : M) : Bool := decide (m.ll.length ≤ 300) && decide (m.sl.length ≤ 60) && decide (wrap64 ((m.auth.size : Int) + m.pfx.size) ≤ 200) && decide (wrap64 ((m.next.size : Int) + m.id.size) ≤ 200) && decide (wrap64 ((m.addr.size : Int) + m.orig.size) ≤ 200) && decide (m.data.size ≤ 300) && small 50 m.ll && small 300 m.sl
set_option maxHeartbeats 3200000 in
set_option maxRecDepth 100000 in
theorem few_any (m : M) (w : World) (hd : DRow w m.la m.ll) (hs : SRow w m.sa m.sl) :
    Calls Tryd.prog 8 #[.agg m.cells] w fun e w' => e = .returned (.bool (fewB m)) ∧ Below w.heap.size w w' := by
  have bel := balloc (Below.refl _ w) (.cells m.cells 25)
  have hd := hd.below (balloc (Below.refl _ w) (.cells m.cells 25))
  have hs := hs.below (balloc (Below.refl _ w) (.cells m.cells 25))
  have b0 := Bx.new w m
  have HFB := Lib.hid (show fewB m = (decide (m.ll.length ≤ 300) && decide (m.sl.length ≤ 60) && decide (wrap64 ((m.auth.size : Int) + m.pfx.size) ≤ 200) && decide (wrap64 ((m.next.size : Int) + m.id.size) ≤ 200) && decide (wrap64 ((m.addr.size : Int) + m.orig.size) ≤ 200) && decide (m.data.size ≤ 300) && small 50 m.ll && small 300 m.sl) from rfl)
  go_enter Tryd.func8, Tryd.ntmps8
  go_upto_region 1 with fail
  generalize w.alloc (.cells m.cells 25) = V at *
  have c3 := b0.cs.c3
  have c6 := b0.cs.c6
  have c9 := b0.cs.c9
  have c11 := b0.cs.c11
  have c19 := b0.cs.c19
  have c20 := b0.cs.c20
  have c21 := b0.cs.c21
  have c23 := b0.cs.c23
  have c24 := b0.cs.c24
  clear b0
  by_cases h1 : 300 < m.ll.length
  · go_wp2
    go_ret
    exact ⟨bool_eq (by rw [HFB.out]; simp; omega), bel⟩
  by_cases h2 : 60 < m.sl.length
  · go_wp2
    go_ret
    exact ⟨bool_eq (by rw [HFB.out]; simp; omega), bel⟩
  by_cases h3 : 200 < wrap64 ((m.auth.size : Int) + m.pfx.size)
  · go_wp2
    go_ret
    exact ⟨bool_eq (by rw [HFB.out]; simp; omega), bel⟩
  by_cases h4 : 200 < wrap64 ((m.next.size : Int) + m.id.size)
  · go_wp2
    go_ret
    exact ⟨bool_eq (by rw [HFB.out]; simp; omega), bel⟩
  by_cases h5 : 200 < wrap64 ((m.addr.size : Int) + m.orig.size)
  · go_wp2
    go_ret
    exact ⟨bool_eq (by rw [HFB.out]; simp; omega), bel⟩
  by_cases h6 : 300 < m.data.size
  · go_wp2
    go_ret
    exact ⟨bool_eq (by rw [HFB.out]; simp; omega), bel⟩
  have HF2 : Hid (fewB m = (small 50 m.ll && small 300 m.sl)) := Lib.hid (by rw [HFB.out]; simp [show m.ll.length ≤ 300 by omega, show m.sl.length ≤ 60 by omega, show wrap64 ((m.auth.size : Int) + m.pfx.size) ≤ 200 by omega, show wrap64 ((m.next.size : Int) + m.id.size) ≤ 200 by omega, show wrap64 ((m.addr.size : Int) + m.orig.size) ≤ 200 by omega, show m.data.size ≤ 300 by omega])
  clear HFB
  go_upto_region 3 with fail
  have l1 : m.ll.length ≤ 300 := by omega
  have l2 : m.sl.length ≤ 60 := by omega
  clear h1 h2 h3 h4 h5 h6 c3 c6 c9 c11 c19 c20 c23
  generalize m.ll = x at *
  generalize m.sl = y at *
  go_wp2
  go_loopw [3] (fun i wr => ∃ k : Nat, k ≤ x.length ∧ i = .int .i64 k ∧ Hid (small 50 (x.take k) = true) ∧ wr = V) (fun i _ => x.length - (intOf i).toNat)
  case atStart => exact ⟨0, Nat.zero_le _, rfl, Lib.hid rfl, rfl⟩
  case round =>
    obtain ⟨k, hk, rfl, HN, rfl⟩ := hrel
    by_cases hlt : k < x.length
    · obtain ⟨p, hp, _, d0, _⟩ := hd k hlt
      rw [hp] at c21
      have HT := Lib.hid (small_take 50 x k hlt)
      have HF := Lib.hid (small_not 50 x k hlt)
      clear hd hs hp c24
      generalize x[k] = u at *
      obtain ⟨s, n⟩ := u
      by_cases h1 : 50 < s.size
      · go_wp2
        go_ret
        exact ⟨bool_eq (by rw [HF2.out, HF.out h1]; simp), bel⟩
      · go_wp2
        go_roundw
        case rel => exact ⟨k + 1, hlt, by go_num, Lib.hid (by rw [HT.out, HN.out]; simp; omega), by first | rfl | trivial⟩
        case measure => simp [intOf]; omega
    · obtain rfl : k = x.length := by omega
      have HX : Hid (small 50 x = true) := Lib.hid (by have := HN.out; rwa [List.take_length] at this)
      clear HN hd
      go_wp2
      go_loopw [4] (fun i wr2 => ∃ k : Nat, k ≤ y.length ∧ i = .int .i64 k ∧ Hid (small 300 (y.take k) = true) ∧ wr2 = wr) (fun i _ => y.length - (intOf i).toNat)
      case atStart => exact ⟨0, Nat.zero_le _, rfl, Lib.hid rfl, rfl⟩
      case round =>
        obtain ⟨k, hk, rfl, HN, rfl⟩ := hrel
        by_cases hlt : k < y.length
        · obtain ⟨p, hp, _, _, d1⟩ := hs k hlt
          rw [hp] at c24
          have HT := Lib.hid (small_take 300 y k hlt)
          have HF := Lib.hid (small_not 300 y k hlt)
          clear hs hp c21
          rw [add_one] at d1
          generalize y[k] = u at *
          obtain ⟨s, n⟩ := u
          by_cases h1 : 300 < s.size
          · go_wp2
            go_ret
            exact ⟨bool_eq (by rw [HF2.out, HF.out h1]; simp), bel⟩
          · go_wp2
            go_roundw
            case rel => exact ⟨k + 1, hlt, by go_num, Lib.hid (by rw [HT.out, HN.out]; simp; omega), by first | rfl | trivial⟩
            case measure => simp [intOf]; omega
        · obtain rfl : k = y.length := by omega
          have HY : Hid (small 300 y = true) := Lib.hid (by have := HN.out; rwa [List.take_length] at this)
          clear HN hs
          go_wp2
          go_ret
          exact ⟨bool_eq (by rw [HF2.out, HX.out, HY.out]; rfl), bel⟩
end Go.Proofs.YtkhdllhlhpkekaaDoor.Few
