/-
  MsgLists, of any two lists of messages: whether they are the same is the document's, and a list is the same as itself. No condition.
-/
import Derived.Test.YtnjaoccienijbaaOpen
import Derived.Test.YtnjaoccienijbaaAw
import Derived.WalkKit
import Derived.ProofKit
import Derived.OpenShut
import Derived.ShutString
namespace Go.Proofs.Ytnjaoccienijbaa.msgLists
open Go.ChangeShapes Go.WideShapes Go.ChangeAt Go.RowKit
open Go.Proofs.Ytnjaoccienijbaa.Ms
open Go.Proofs.Ytnjaoccienijbaa.Box
open Go.Proofs.Ytnjaoccienijbaa.Same
open Go.Proofs.Ytnjaoccienijbaa.SameP
open Go.Proofs.Ytnjaoccienijbaa.RSame
open Go.Proofs.Ytnjaoccienijbaa.Hs
open Go.Proofs.Ytnjaoccienijbaa.Or
open Go.Proofs.Ytnjaoccienijbaa.Bare
open Go.Proofs.Ytnjaoccienijbaa.Cnt
open Go.Proofs.Ytnjaoccienijbaa.Few
open Go.Proofs.Ytnjaoccienijbaa.All
open Go.Proofs.Ytnjaoccienijbaa.Aw
open Go.Proofs.Ytnjaoccienijbaa.Open
set_option linter.unusedVariables false

theorem own : ownKnob Try.prog.godebug = none := by kernel_rfl

theorem small_le {n : Nat} {l : List El} (h : small n l = true) : ∀ x ∈ l, x.1.size ≤ n := by
  intro x hx
  have := List.all_eq_true.1 h x hx
  simpa using this
theorem bytes_small {n : Nat} : ∀ {l : List El}, small n l = true → bytesN l ≤ (n + 2) * l.length
  | [], _ => by simp [bytesN]
  | x :: l, h => by
    have h1 := small_le h x (by simp)
    have h2 : small n l = true := by
      unfold small at h ⊢
      simp only [List.all_cons, Bool.and_eq_true] at h
      exact h.2
    have ih := bytes_small h2
    have e : bytesN (x :: l) = (2 + x.1.size) + bytesN l := by simp [bytesN]
    rw [e, List.length_cons, Nat.mul_succ]
    omega
theorem few_facts {m : M} (h : fewB m = true) : m.ll.length ≤ 300 ∧ m.sl.length ≤ 60 ∧ small 300 m.sl = true := by
  unfold fewB at h
  simp only [Bool.and_eq_true, decide_eq_true_eq] at h
  exact ⟨h.1.1.1.1.1.1.1, h.1.1.1.1.1.1.2, h.2⟩

theorem fewL_facts {l : List M} (h : fewL l 20 = true) : l.length ≤ 20 ∧ ∀ m ∈ l, Short m := by
  unfold fewL at h
  simp only [Bool.and_eq_true, decide_eq_true_eq] at h
  refine ⟨by omega, fun m hm => ?_⟩
  have := few_facts (List.all_eq_true.1 h.2 m hm)
  exact ⟨by omega, by omega⟩

/-- What stays: two lists. -/
def SL (w : World) (a b : Option Addr) (x y : List M) (W : World) : Prop := MRow W a x ∧ MRow W b y ∧ Below w.heap.size w W
theorem SL.keep {w : World} {a b : Option Addr} {x y : List M} (W w1 : World) (h : SL w a b x y W) (hb : Below W.heap.size W w1) : SL w a b x y w1 := ⟨h.1.below hb, h.2.1.below hb, bcall h.2.2 hb⟩

set_option maxHeartbeats 3200000 in
set_option maxRecDepth 100000 in
theorem walk (a b : Option Addr) (ca cb : Nat) (x y : List M) (w : World) (hx : MRow w a x) (hy : MRow w b y) (lx : x.length ≤ 9223372036854775807) (ly : y.length ≤ 9223372036854775807) :
    Calls Try.prog 4 #[.slice a x.length ca, .slice b y.length cb] w fun e w' => e = .returned (.bool true) ∧ Below w.heap.size w w' := by
  have PA := Lib.hid (fun W (h : SL w a b x y W) => heldP (SL w a b x y) SL.keep (fewAll_any a ca x 20 W h.1 lx) h)
  have PB := Lib.hid (fun W (h : SL w a b x y W) => heldP (SL w a b x y) SL.keep (fewAll_any b cb y 20 W h.2.1 ly) h)
  have P0 := Lib.hid (fun W (h : SL w a b x y W) => heldP (SL w a b x y) SL.keep (awake_any W) h)
  have H0 : SL w a b x y w := ⟨hx, hy, Below.refl _ _⟩
  clear hx hy lx ly
  go_enter Try.func4, Try.ntmps4
  cases hfa : fewL x 20
  · rw [hfa] at PA
    clear hfa
    go_wp2_with fail
    refine (PA.out _ H0).mono ?_
    rintro e w1 ⟨rfl, H0⟩
    go_wp2_with fail
    refine (P0.out _ H0).mono ?_
    rintro e w1 ⟨rfl, H0⟩
    go_wp2
    go_ret
    exact ⟨rfl, H0.2.2⟩
  have HFA := Lib.hid (fewL_facts hfa)
  rw [hfa] at PA
  clear hfa
  go_wp2_with fail
  refine (PA.out _ H0).mono ?_
  rintro e w1 ⟨rfl, H0⟩
  cases hfb : fewL y 20
  · rw [hfb] at PB
    clear hfb
    go_wp2_with fail
    refine (PB.out _ H0).mono ?_
    rintro e w1 ⟨rfl, H0⟩
    go_wp2_with fail
    refine (P0.out _ H0).mono ?_
    rintro e w1 ⟨rfl, H0⟩
    go_wp2
    go_ret
    exact ⟨rfl, H0.2.2⟩
  have HFB := Lib.hid (fewL_facts hfb)
  rw [hfb] at PB
  clear hfb
  go_wp2_with fail
  refine (PB.out _ H0).mono ?_
  rintro e w1 ⟨rfl, H0⟩
  have P4 := Lib.hid (fun W (h : SL w a b x y W) => heldP (SL w a b x y) SL.keep (sameAll_any a b ca cb x y W h.1 h.2.1 HFA.out.2 HFB.out.2 (by have := HFA.out.1; omega) (by have := HFB.out.1; omega)) h)
  have P5 := Lib.hid (fun W (h : SL w a b x y W) => heldP (SL w a b x y) SL.keep (rsameAll_any a b ca cb x y W h.1 h.2.1 HFA.out.2 HFB.out.2 (by have := HFA.out.1; omega) (by have := HFB.out.1; omega)) h)
  have P6 := Lib.hid (fun W (h : SL w a b x y W) => heldP (SL w a b x y) SL.keep (sameAll_any a a ca ca x x W h.1 h.1 HFA.out.2 HFA.out.2 (by have := HFA.out.1; omega) (by have := HFA.out.1; omega)) h)
  rw [show sameL x x = true from sameL_yes rfl fun i _ _ => same_refl _] at P6
  generalize sameL x y = r at *
  clear PA PB HFA HFB
  go_wp2_with fail
  refine (P0.out _ H0).mono ?_
  rintro e w1 ⟨rfl, H0⟩
  go_wp2_with fail
  refine (P4.out _ H0).mono ?_
  rintro e w1 ⟨rfl, H0⟩
  go_wp2_with fail
  refine (P5.out _ H0).mono ?_
  rintro e w1 ⟨rfl, H0⟩
  go_wp2_with fail
  refine (P6.out _ H0).mono ?_
  rintro e w1 ⟨rfl, H0⟩
  go_wp2
  go_ret
  exact ⟨rfl, H0.2.2⟩

set_option maxRecDepth 100000 in
theorem lifted (os : Os) (started : os.Started) (H : Type) (enc : TypeId × Value → H) :
    ReturnsInHanded {} Try.checked os 4 .any (Rows.msgListsSpec.pre6 enc Try.prog Try.f4 Rows.msgListsRow.domain false) (Rows.msgListsSpec.post enc Try.prog Try.f4 false true false false) := by
  refine returnsInHanded_of_change (C := Try.checked) own started (by kernel_rfl) Try.func4
    (ChangeSpec.witness6 (enc := enc) (C := Try.checked) false ⟨#[], #[.slice none 0 0, .slice none 0 0], []⟩ 8 (by kernel_rfl) (by kernel_rfl) (by kernel_rfl) (by kernel_rfl)) ?_
  intro W base args ds gs before hval0 hW hcnd _
  have hval : ∀ (j : Nat) t v, Try.f4.params[j]? = some t → args[j]? = some v → Value.okWide Try.prog W .any base t v := hval0
  have hW' := hW
  have hlt := fun x hx => hW'.lt x hx
  obtain ⟨p, q, hA0, hV, rfl, hfz, hnd⟩ := hW
  have hA : DataW.TrodAll enc Try.prog W 0 (fun _ => true) true Try.f4.params.toList args.toList ds p := hA0
  rw [Try.params4] at hA hval
  obtain ⟨v0, vs0, d0, ds0, p0, q0, hargs, rfl, rfl, h0, r0⟩ := trodAll_cons hA
  obtain ⟨v1, vs1, d1, ds1, p1, q1, rfl, rfl, rfl, h1, r1⟩ := trodAll_cons r0
  obtain ⟨rfl, rfl, rfl⟩ := trodAll_nil r1
  obtain rfl : args = #[v0, v1] := by cases args; simp_all
  obtain ⟨rfl, rfl⟩ := trodVars_none hV
  obtain ⟨a, x, ca, rfl, hx, lx⟩ := by_list (hval 0 33 v0 rfl rfl) h0
  obtain ⟨b, y, cb, rfl, hy, ly⟩ := by_list (hval 1 33 v1 rfl rfl) h1
  clear hA0 hval0
  simp only [List.append_nil] at hW' hlt
  refine (walk a b ca cb x y W hx hy lx ly).mono fun e W' ⟨he, hg⟩ => ?_
  subst he
  exact ⟨_, rfl, _, _, _, [], _, [], hW', trodAll_mk1 (shut_bool Try.underlying4 _), (trodAll_cons_mk (again (by kernel_rfl) (of_decide_eq_true (by kernel_rfl)) h0 hg fun x hx => hlt x (by simp [hx])) (trodAll_cons_mk (again (by kernel_rfl) (of_decide_eq_true (by kernel_rfl)) h1 hg fun x hx => hlt x (by simp [hx])) trodAll_mk0)), rfl, hg.frame _, fun h => by cases h⟩

theorem over : Rows.msgListsRow.holds Try.pinned (OpenSpec.ofChange Rows.msgListsSpec) :=
  OpenClaim.holds_of_wide 4 Try.f4 rfl rfl rfl rfl rfl rfl rfl ⟨rfl, rfl, rfl, rfl, rfl⟩ rfl rfl rfl rfl rfl (by kernel_rfl) Try.func4 (by kernel_rfl)
    (of_decide_eq_true (by kernel_rfl)) (by unfold Func.isWrapper; first | (rw [if_pos (by decide +kernel)]; kernel_rfl) | (rw [if_neg (by decide +kernel)]; exact ⟨rfl, rfl⟩))
    (fun os started H enc _ => lifted os started H enc)

theorem proved : Rows.MsgListsSaid :=
  over
#print axioms proved
end Go.Proofs.Ytnjaoccienijbaa.msgLists
