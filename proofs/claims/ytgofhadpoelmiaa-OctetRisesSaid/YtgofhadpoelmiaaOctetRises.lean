/-
  OctetRises, of any two numbers in any size: greater numbers have greater bytes, and in one byte more there is a nought ahead. No condition.
-/
import Derived.Test.YtgofhadpoelmiaaAwake
import Derived.WalkKit
import Derived.ProofKit
import Derived.OpenShut
import Derived.ShutString
namespace Go.Proofs.Ytgofhadpoelmiaa.octetRises
open Go.ChangeShapes Go.WideShapes Go.ChangeAt Go.RowKit
open Go.ChangeMaps (open_string shut_string)
open Go.Proofs.Ytgofhadpoelmiaa.Oct
set_option linter.unusedVariables false      -- a walk need not use every 'w<i>' (that an integer argument fits its kind)

theorem own : ownKnob Try.prog.godebug = none := by kernel_rfl

theorem two_lt (p a1 a0 b1 b0 : Nat) (ha : a0 < p) (hb : b0 < p) : (a1 * p + a0 < b1 * p + b0) ↔ (a1 < b1 ∨ (a1 = b1 ∧ a0 < b0)) := by
  rcases Nat.lt_trichotomy a1 b1 with h | h | h
  · have := Nat.mul_le_mul_right p (show a1 + 1 ≤ b1 from h)
    rw [Nat.add_mul] at this
    constructor
    · intro _; exact .inl h
    · intro _; omega
  · subst h
    constructor
    · intro k; exact .inr ⟨rfl, by omega⟩
    · rintro (k | ⟨_, k⟩) <;> omega
  · have := Nat.mul_le_mul_right p (show b1 + 1 ≤ a1 from h)
    rw [Nat.add_mul] at this
    constructor
    · intro _; omega
    · rintro (k | ⟨k, _⟩) <;> omega

theorem two_eq (p a1 a0 b1 b0 : Nat) (ha : a0 < p) (hb : b0 < p) : (a1 * p + a0 = b1 * p + b0) ↔ (a1 = b1 ∧ a0 = b0) := by
  constructor
  · intro h
    have h1 : ¬ (a1 < b1 ∨ (a1 = b1 ∧ a0 < b0)) := fun k => absurd ((two_lt p a1 a0 b1 b0 ha hb).2 k) (by omega)
    have h2 : ¬ (b1 < a1 ∨ (b1 = a1 ∧ b0 < a0)) := fun k => absurd ((two_lt p b1 b0 a1 a0 hb ha).2 k) (by omega)
    omega
  · rintro ⟨rfl, rfl⟩; rfl

/-- the last k bytes -/
def lo (n k : Nat) : Nat := n % pw k
theorem lo_lt (n k : Nat) : lo n k < pw k := Nat.mod_lt _ (pw_pos k)
theorem lo_of (n k : Nat) (h : n < pw k) : lo n k = n := Nat.mod_eq_of_lt h
theorem lo_succ (n k : Nat) : lo n (k + 1) = (sh n k % 256) * pw k + lo n k := by
  unfold lo sh
  rw [pw_succ, Nat.mod_mul, Nat.mul_comm (pw k) _]
  omega

theorem ofNat_lt (a b : Nat) : UInt8.ofNat a < UInt8.ofNat b ↔ a % 256 < b % 256 := by
  rw [UInt8.lt_iff_toNat_lt]; simp

theorem ofNat_eq (a b : Nat) : UInt8.ofNat a = UInt8.ofNat b ↔ a % 256 = b % 256 := by
  rw [← UInt8.toNat_inj]; simp

theorem be_less (a b k : Nat) : Op.bytesLess (be a k) (be b k) = decide (lo a k < lo b k) := by
  induction k with
  | zero => simp [be, Op.bytesLess, lo, pw_zero, Nat.mod_one]
  | succ k ih =>
    rw [be_succ, be_succ, Op.bytesLess, ih, Bool.eq_iff_iff, lo_succ, lo_succ]
    simp only [Bool.or_eq_true, Bool.and_eq_true, decide_eq_true_eq, beq_iff_eq]
    rw [two_lt _ _ _ _ _ (lo_lt a k) (lo_lt b k), ofNat_lt, ofNat_eq]

theorem be_eq (a b k : Nat) : be a k = be b k ↔ lo a k = lo b k := by
  induction k with
  | zero => simp [be, lo, pw_zero, Nat.mod_one]
  | succ k ih =>
    rw [be_succ, be_succ, lo_succ, lo_succ, two_eq _ _ _ _ _ (lo_lt a k) (lo_lt b k), List.cons.injEq, ih, ofNat_eq]

theorem sh_none (n k : Nat) (h : n < pw k) : sh n k = 0 := by unfold sh; exact Nat.div_eq_of_lt h

theorem mk_toList (l : List UInt8) : (ByteArray.mk l.toArray).toList = l := by rw [ByteArray.toList_eq]

/-- what Put answers of two numbers that fit -/
theorem put_two (a b k : Nat) (h1 : 1 ≤ k) (h7 : k ≤ 7) (ha : a < pw k) (hb : b < pw k) : ∃ s t : ByteArray,
    (∀ w : World, Calls Try.prog 7 #[.int .i64 a, .int .i64 k] w fun e w' => e = .returned (.tuple #[.string s, .bool true]) ∧ Below w.heap.size w w') ∧
    (∀ w : World, Calls Try.prog 7 #[.int .i64 b, .int .i64 k] w fun e w' => e = .returned (.tuple #[.string t, .bool true]) ∧ Below w.heap.size w w') ∧
    Op.bytesLess s.toList t.toList = decide ((a : Int) < b) ∧ (s.toList == t.toList) = decide ((a : Int) = b) ∧ s.size ≤ 7 ∧
    (k < 7 → ∃ u : ByteArray, (∀ w : World, Calls Try.prog 7 #[.int .i64 a, .int .i64 ((k : Int) + 1)] w fun e w' => e = .returned (.tuple #[.string u, .bool true]) ∧ Below w.heap.size w w') ∧
      (u.toList == (ByteArray.mk #[0] ++ s).toList) = true) := by
  refine ⟨⟨(be a k).toArray⟩, ⟨(be b k).toArray⟩, fun w => put_yes a k w h1 h7 ha, fun w => put_yes b k w h1 h7 hb, ?_, ?_, ?_, fun hk => ⟨⟨(be a (k + 1)).toArray⟩, fun w => ?_, ?_⟩⟩
  · rw [mk_toList, mk_toList, be_less, lo_of a k ha, lo_of b k hb]; simp
  · rw [mk_toList, mk_toList, Bool.eq_iff_iff, beq_iff_eq, be_eq, lo_of a k ha, lo_of b k hb]; simp; omega
  · show (be a k).toArray.size ≤ 7; simp [be_length, h7]
  · have := put_yes a (k + 1) w (by omega) (by omega) (by rw [pw_succ]; have := pw_pos k; omega)
    simpa using this
  · rw [cat_cons, mk_toList, mk_toList, be_succ, sh_none a k ha]; simp

theorem put_one (n k : Int) : ∃ s : ByteArray, ∀ w : World, Calls Try.prog 7 #[.int .i64 n, .int .i64 k] w fun e w' => e = .returned (.tuple #[.string s, .bool (fitsB n k)]) ∧ Below w.heap.size w w' := by
  by_cases hf : fitsB n k = true
  · obtain ⟨h1, h2, h3, h4⟩ := (fitsB_iff n k).1 hf
    rw [hf]
    obtain ⟨n, rfl⟩ := Int.eq_ofNat_of_zero_le h3
    obtain ⟨k, rfl⟩ := Int.eq_ofNat_of_zero_le (show 0 ≤ k by omega)
    exact ⟨_, fun w => put_yes n k w (by omega) (by omega) (by simpa using h4)⟩
  · have hf' : fitsB n k = false := by simpa using hf
    rw [hf']
    exact ⟨_, fun w => put_no n k w hf'⟩

set_option maxHeartbeats 800000 in
theorem walk_no (a b k : Int) (w : World) (h : fitsB a k = false ∨ fitsB b k = false) :
    Calls Try.prog 5 #[.int .i64 a, .int .i64 b, .int .i64 k] w fun e w' => e = .returned (.bool true) ∧ Below w.heap.size w w' := by
  obtain ⟨s, P⟩ := put_one a k
  obtain ⟨t, Q⟩ := put_one b k
  generalize fitsB a k = p at *
  generalize fitsB b k = q at *
  go_enter Try.func5, Try.ntmps5
  go_wp2_with fail
  refine (P _).mono ?_
  rintro e w1 ⟨rfl, hb1⟩
  go_wp2_with fail
  refine (Q _).mono ?_
  rintro e w2 ⟨rfl, hb2⟩
  replace hb2 := bcall hb1 hb2
  clear hb1 P Q
  cases p <;> cases q
  · clear h
    go_wp2_with fail
    refine (awake_any _).mono ?_
    rintro e w3 ⟨rfl, hb3⟩
    go_wp2
    go_ret
    exact ⟨rfl, bcall hb2 hb3⟩
  · clear h
    go_wp2_with fail
    refine (awake_any _).mono ?_
    rintro e w3 ⟨rfl, hb3⟩
    go_wp2
    go_ret
    exact ⟨rfl, bcall hb2 hb3⟩
  · clear h
    go_wp2_with fail
    refine (awake_any _).mono ?_
    rintro e w3 ⟨rfl, hb3⟩
    go_wp2
    go_ret
    exact ⟨rfl, bcall hb2 hb3⟩
  · simp at h

theorem same_bool (x y : Int) : (decide (x = y) == (x == y)) = true := by by_cases h : x = y <;> simp [h]

set_option maxHeartbeats 1600000 in
theorem walk_yes (a b k : Nat) (w : World) (h1 : 1 ≤ k) (h7 : k ≤ 7) (ha : a < pw k) (hb : b < pw k) :
    Calls Try.prog 5 #[.int .i64 a, .int .i64 b, .int .i64 k] w fun e w' => e = .returned (.bool true) ∧ Below w.heap.size w w' := by
  obtain ⟨s, t, P, Q, hl, he, hs, hu⟩ := put_two a b k h1 h7 ha hb
  have HL := Lib.hid hl
  have HE := Lib.hid he
  clear hl he ha hb
  by_cases hk : k < 7
  · obtain ⟨u, R, hne⟩ := hu hk
    have HN := Lib.hid hne
    clear hne hu
    go_enter Try.func5, Try.ntmps5
    go_wp2_with fail
    refine (P _).mono ?_
    rintro e w1 ⟨rfl, hb1⟩
    go_wp2_with fail
    refine (Q _).mono ?_
    rintro e w2 ⟨rfl, hb2⟩
    replace hb2 := bcall hb1 hb2
    clear hb1 P Q
    go_wp2_with fail
    refine (R _).mono ?_
    rintro e w3 ⟨rfl, hb3⟩
    replace hb3 := bcall hb2 hb3
    clear hb2 R
    have hn := HN.out
    go_wp2_with fail
    refine (awake_any _).mono ?_
    rintro e w4 ⟨rfl, hb4⟩
    clear hn
    have hl := HL.out
    have he := HE.out
    go_wp2
    go_ret
    exact ⟨bool_eq (same_bool _ _), bcall hb3 hb4⟩
  · clear hu
    go_enter Try.func5, Try.ntmps5
    go_wp2_with fail
    refine (P _).mono ?_
    rintro e w1 ⟨rfl, hb1⟩
    go_wp2_with fail
    refine (Q _).mono ?_
    rintro e w2 ⟨rfl, hb2⟩
    replace hb2 := bcall hb1 hb2
    clear hb1 P Q
    go_wp2_with fail
    refine (awake_any _).mono ?_
    rintro e w4 ⟨rfl, hb4⟩
    have hl := HL.out
    have he := HE.out
    go_wp2
    go_ret
    exact ⟨bool_eq (same_bool _ _), bcall hb2 hb4⟩

theorem walk (a0 : Int) (a1 : Int) (a2 : Int) (w0 : (Lit.int .i64 a0).wf = true) (w1 : (Lit.int .i64 a1).wf = true) (w2 : (Lit.int .i64 a2).wf = true) (w : World) :
    Calls Try.prog 5 #[.int .i64 a0, .int .i64 a1, .int .i64 a2] w fun e w' => e = .returned (.bool true) ∧ Below w.heap.size w w' := by
  by_cases hf : fitsB a0 a2 = true ∧ fitsB a1 a2 = true
  · obtain ⟨h1, h2, h3, h4⟩ := (fitsB_iff a0 a2).1 hf.1
    obtain ⟨_, _, h5, h6⟩ := (fitsB_iff a1 a2).1 hf.2
    obtain ⟨a, rfl⟩ := Int.eq_ofNat_of_zero_le h3
    obtain ⟨b, rfl⟩ := Int.eq_ofNat_of_zero_le h5
    obtain ⟨k, rfl⟩ := Int.eq_ofNat_of_zero_le (show 0 ≤ a2 by omega)
    exact walk_yes a b k w (by omega) (by omega) (by simpa using h4) (by simpa using h6)
  · refine walk_no a0 a1 a2 w ?_
    cases h : fitsB a0 a2
    · exact .inl rfl
    · exact .inr (by simpa [h] using hf)

set_option maxRecDepth 100000 in
theorem lifted (os : Os) (started : os.Started) (H : Type) (enc : TypeId × Value → H) :
    ReturnsInHanded {} Try.checked os 5 .any (Rows.octetRisesSpec.pre6 enc Try.prog Try.f5 Rows.octetRisesRow.domain false) (Rows.octetRisesSpec.post enc Try.prog Try.f5 false true false false) := by
  refine returnsInHanded_of_change (C := Try.checked) own started (by kernel_rfl) Try.func5
    (ChangeSpec.witness6 (enc := enc) (C := Try.checked) false ⟨#[], #[.int .i64 0, .int .i64 0, .int .i64 0], []⟩ 8 (by kernel_rfl) (by kernel_rfl) (by kernel_rfl) (by kernel_rfl)) ?_
  intro W base args ds gs before hval0 hW hcnd _
  have hval : ∀ (j : Nat) t v, Try.f5.params[j]? = some t → args[j]? = some v → Value.okWide Try.prog W .any base t v := hval0
  have hW' := hW
  obtain ⟨p, q, hA0, hV, rfl, hfz, hnd⟩ := hW
  have hA : DataW.TrodAll enc Try.prog W 0 (fun _ => true) true Try.f5.params.toList args.toList ds p := hA0
  rw [Try.params5] at hA hval
  obtain ⟨v0, vs0, d0, ds0, p0, q0, hargs, rfl, rfl, h0, r0⟩ := trodAll_cons hA
  obtain ⟨v1, vs1, d1, ds1, p1, q1, rfl, rfl, rfl, h1, r1⟩ := trodAll_cons r0
  obtain ⟨v2, vs2, d2, ds2, p2, q2, rfl, rfl, rfl, h2, r2⟩ := trodAll_cons r1
  obtain ⟨rfl, rfl, rfl⟩ := trodAll_nil r2
  obtain rfl : args = #[v0, v1, v2] := by cases args; simp_all
  obtain ⟨rfl, rfl⟩ := trodVars_none hV
  obtain ⟨a0, rfl, rfl, rfl, w0⟩ := open_int Try.underlying3 (hval 0 3 v0 rfl rfl) h0
  obtain ⟨a1, rfl, rfl, rfl, w1⟩ := open_int Try.underlying3 (hval 1 3 v1 rfl rfl) h1
  obtain ⟨a2, rfl, rfl, rfl, w2⟩ := open_int Try.underlying3 (hval 2 3 v2 rfl rfl) h2
  clear hA0 hval0
  simp only [List.append_nil] at hW'
  refine (walk a0 a1 a2 w0 w1 w2 W).mono fun e W' ⟨he, hg⟩ => ?_
  subst he
  exact ⟨_, rfl, _, _, _, [], _, [], hW', trodAll_mk1 (shut_bool Try.underlying4 _), (trodAll_cons_mk (shut_int Try.underlying3 w0) (trodAll_cons_mk (shut_int Try.underlying3 w1) (trodAll_cons_mk (shut_int Try.underlying3 w2) trodAll_mk0))), rfl, hg.frame _, fun h => by cases h⟩

theorem over : Rows.octetRisesRow.holds Try.pinned (OpenSpec.ofChange Rows.octetRisesSpec) :=
  OpenClaim.holds_of_wide 5 Try.f5 rfl rfl rfl rfl rfl rfl rfl ⟨rfl, rfl, rfl, rfl, rfl⟩ rfl rfl rfl rfl rfl (by kernel_rfl) Try.func5 (by kernel_rfl)
    (of_decide_eq_true (by kernel_rfl)) (by unfold Func.isWrapper; first | (rw [if_pos (by decide +kernel)]; kernel_rfl) | (rw [if_neg (by decide +kernel)]; exact ⟨rfl, rfl⟩))
    (fun os started H enc _ => lifted os started H enc)

theorem proved : Rows.OctetRisesSaid :=
  over
#print axioms proved
end Go.Proofs.Ytgofhadpoelmiaa.octetRises
