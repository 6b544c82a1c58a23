/-
  Encode: the datagram of routes, or why there is none. Conditions: a list of at most 1000 messages, whose lists aren't long.
-/
import Derived.Test.YtfaobpmbiocafaaWr
namespace Go.Proofs.Ytfaobpmbiocafaa.Ec
open Go.ChangeShapes Go.WideShapes Go.ChangeAt Go.RowKit
open Go.Proofs.Ytfaobpmbiocafaa.Ms
open Go.Proofs.Ytfaobpmbiocafaa.Rp
open Go.Proofs.Ytfaobpmbiocafaa.Ps
open Go.Proofs.Ytfaobpmbiocafaa.Es
open Go.Proofs.Ytfaobpmbiocafaa.All
open Go.Proofs.Ytfaobpmbiocafaa.Ix
open Go.Proofs.Ytfaobpmbiocafaa.Tg
open Go.Proofs.Ytfaobpmbiocafaa.Wr
set_option linter.unusedVariables false
set_option maxRecDepth 100000

/-- The answer: bytes, a place, an error. -/
def AnsE (p : ByteArray × Int × Int) (w : World) (e : Ending) (w' : World) : Prop := e = .returned (.tuple #[.string p.1, .int .i64 p.2.1, .int .i64 p.2.2]) ∧ Below w.heap.size w w'
theorem AnsE.of {p : ByteArray × Int × Int} {w w' : World} {b : ByteArray} {x y : Int} (h : p = (b, x, y)) (hb : Below w.heap.size w w') : AnsE p w (.returned (.tuple #[.string b, .int .i64 x, .int .i64 y])) w' := by
  subst h
  exact ⟨rfl, hb⟩
/-- Which of the four it is. -/
theorem enc_cases (l : List M) :
    (∃ k, k < l.length ∧ (∀ i, i < k → ckW l i = 0) ∧ ckW l k ≠ 0) ∨
    ((∀ i, i < l.length → ckW l i = 0) ∧ (l.length = 0 ∨
      (∃ k, k < l.length ∧ (∀ i, i < k → ckT l i = 0) ∧ ckT l k ≠ 0) ∨
      (0 < l.length ∧ ∀ i, i < l.length → ckT l i = 0))) := by
  have first : ∀ (f : Nat → Int) n, (∃ k, k < n ∧ (∀ i, i < k → f i = 0) ∧ f k ≠ 0) ∨ (∀ i, i < n → f i = 0) := by
    intro f n
    induction n with
    | zero => exact .inr (fun i hi => absurd hi (by omega))
    | succ n ih =>
      rcases ih with ⟨k, h1, h2, h3⟩ | h
      · exact .inl ⟨k, by omega, h2, h3⟩
      · by_cases hn : f n = 0
        · exact .inr (fun i hi => by
            by_cases hin : i < n
            · exact h i hin
            · obtain rfl : i = n := by omega
              exact hn)
        · exact .inl ⟨n, by omega, h, hn⟩
  rcases first (ckW l) l.length with h | h
  · exact .inl h
  · refine .inr ⟨h, ?_⟩
    by_cases h0 : l.length = 0
    · exact .inl h0
    · rcases first (ckT l) l.length with h' | h'
      · exact .inr (.inl h')
      · exact .inr (.inr ⟨by omega, h'⟩)

set_option maxHeartbeats 3200000 in
theorem encode_any (a : Option Addr) (c : Nat) (l : List M) (w : World) (hl : MRow w a l) (hs : ∀ m ∈ l, Short m) (hn : l.length ≤ 1000) :
    Calls Try.prog 14 #[.slice a l.length c] w (AnsE (enc l) w) := by
  have P1 := Lib.hid (fun W (h : MRow W a l) => index_any a c l W h hs (by omega))
  have HMr := Lib.hid (fun (W : World) (h : Below w.heap.size w W) => hl.below h)
  rcases enc_cases l with ⟨k, h1, h2, h3⟩ | ⟨hw, h0 | ⟨k, h1, h2, h3⟩ | ⟨h0, ht⟩⟩
  · have HZ := Lib.hid (enc_wrong h1 h2 h3)
    have hx := idx_some h1 h2 h3
    rw [hx] at P1
    clear hx h1 h2 h3
    go_enter Try.func14, Try.ntmps14
    go_wp2_with fail
    refine (P1.out _ hl).mono ?_
    rintro e w1 ⟨rfl, hb⟩
    go_wp2
    go_ret3
    exact AnsE.of HZ.out hb
  · have HZ := Lib.hid (enc_none h0)
    have hx := idx_none hw
    rw [hx] at P1
    have HL := Lib.hid h0
    have e1 : ((l.length : Int) == 0) = true := by rw [beq_iff_eq]; omega
    clear hx h0 hw
    go_enter Try.func14, Try.ntmps14
    go_wp2_with fail
    refine (P1.out _ hl).mono ?_
    rintro e w1 ⟨rfl, hb⟩
    go_wp2
    go_ret3
    exact AnsE.of HZ.out hb
  · have HZ := Lib.hid (enc_apart hw h1 h2 h3)
    have hx := idx_none hw
    rw [hx] at P1
    have hg := tg_some h1 h2 h3
    have P2 := Lib.hid (fun W (h : MRow W a l) => check_any a c l W h (by omega) (by omega))
    rw [hg] at P2
    have e1 : ((l.length : Int) == 0) = false := by rw [beq_eq_false_iff_ne]; omega
    have e2 : (ckT l k == 0) = false := by simpa using h3
    have e3 : (ckT l k != 0) = true := by rw [bne, e2]; rfl
    clear hx hg hw h1 h2 h3
    generalize ckT l k = x at *
    go_enter Try.func14, Try.ntmps14
    go_wp2_with fail
    refine (P1.out _ hl).mono ?_
    rintro e w1 ⟨rfl, hb⟩
    go_wp2_with fail
    refine (P2.out _ (HMr.out _ hb)).mono ?_
    rintro e w2 ⟨rfl, hb2⟩
    have hb := bcall hb hb2
    go_wp2
    go_ret3
    exact AnsE.of HZ.out hb
  · have HZ := Lib.hid (enc_ok hw (by omega) ht)
    have hx := idx_none hw
    rw [hx] at P1
    have hg := tg_none ht
    have P2 := Lib.hid (fun W (h : MRow W a l) => check_any a c l W h (by omega) (by omega))
    rw [hg] at P2
    have P3 := Lib.hid (fun W (h : MRow W a l) => write_any a c l W h (by omega) h0 (all_right hw))
    have e1 : ((l.length : Int) == 0) = false := by rw [beq_eq_false_iff_ne]; omega
    clear hx hg hw ht h0
    generalize wrtL l = bs at *
    go_enter Try.func14, Try.ntmps14
    go_wp2_with fail
    refine (P1.out _ hl).mono ?_
    rintro e w1 ⟨rfl, hb⟩
    go_wp2_with fail
    refine (P2.out _ (HMr.out _ hb)).mono ?_
    rintro e w2 ⟨rfl, hb2⟩
    have hb := bcall hb hb2
    go_wp2_with fail
    refine (P3.out _ (HMr.out _ hb)).mono ?_
    rintro e w3 ⟨rfl, hb3⟩
    have hb := bcall hb hb3
    go_wp2
    go_ret3
    exact AnsE.of HZ.out hb
end Go.Proofs.Ytfaobpmbiocafaa.Ec
