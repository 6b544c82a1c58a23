/-
  A datagram of AODV: whether a message may be, its bytes, and which message bytes are: definitions on values alone, and facts on them. No conditions.
-/
import Derived.Test.YtlelfapmleopaaaQ6
import Derived.Test.YtlelfapmleopaaaZ6
import Derived.Test.YtlelfapmleopaaaY6
namespace Go.Proofs.Ytlelfapmleopaaa.A1
open Go.ChangeShapes Go.WideShapes Go.ChangeAt Go.RowKit
open Go.Proofs.Ytlelfapmleopaaa.Ms
open Go.Proofs.Ytlelfapmleopaaa.Cnt
open Go.Proofs.Ytlelfapmleopaaa.Xv
open Go.Proofs.Ytlelfapmleopaaa.Am
open Go.Proofs.Ytlelfapmleopaaa.Q1 (okQ putQ outQ encQ putQ_yes)
open Go.Proofs.Ytlelfapmleopaaa.Z1 (okP putP outP encP putP_yes)
open Go.Proofs.Ytlelfapmleopaaa.Y1 (okE putE outE encE putE_yes)
set_option linter.unusedVariables false
set_option maxRecDepth 100000

/-- May it be a message of AODV? -/
def okA (m : M) : Bool := okQ m || (okP m || okE m)
/-- The bytes of one that may be. -/
def encA (m : M) : ByteArray := if okQ m then putQ m else if okP m then putP m else putE m
theorem kindQ {m : M} (h : okQ m = true) : m.kind = 3 := ((Q1.ok_iff m).1 h).kind
theorem kindP {m : M} (h : okP m = true) : m.kind = 4 ∨ m.kind = 6 := by
  obtain ⟨_, _, hk⟩ := (Z1.ok_iff m).1 h
  rcases hk with hk | ⟨hk, _⟩
  · exact .inr hk
  · exact .inl hk
theorem kindE {m : M} (h : okE m = true) : m.kind = 5 := by
  obtain ⟨hk, _⟩ := (Y1.ok_iff m).1 h
  exact hk
theorem noQ {m : M} (h : ¬ m.kind = 3) : okQ m = false := Bool.eq_false_iff.2 fun k => h (kindQ k)
theorem noP {m : M} (h : ¬ m.kind = 4) (h' : ¬ m.kind = 6) : okP m = false := Bool.eq_false_iff.2 fun k => (kindP k).elim h h'
theorem noE {m : M} (h : ¬ m.kind = 5) : okE m = false := Bool.eq_false_iff.2 fun k => h (kindE k)
theorem okA_Q {m : M} (h : m.kind = 3) : okA m = okQ m := by
  unfold okA
  rw [noP (by omega) (by omega), noE (by omega), Bool.or_false, Bool.or_false]
theorem okA_P {m : M} (h : m.kind = 4 ∨ m.kind = 6) : okA m = okP m := by
  unfold okA
  rw [noQ (by omega), noE (by omega), Bool.or_false, Bool.false_or]
theorem okA_E {m : M} (h : m.kind = 5) : okA m = okE m := by
  unfold okA
  rw [noQ (by omega), noP (by omega) (by omega), Bool.false_or, Bool.false_or]
theorem okA_no {m : M} (h3 : ¬ m.kind = 3) (h4 : ¬ m.kind = 4) (h5 : ¬ m.kind = 5) (h6 : ¬ m.kind = 6) : okA m = false := by
  unfold okA
  rw [noQ h3, noP h4 h6, noE h5]
  rfl
theorem encA_Q {m : M} (h : okQ m = true) : encA m = putQ m := by unfold encA; rw [if_pos h]
theorem encA_P {m : M} (h : okP m = true) : encA m = putP m := by
  have := kindP h
  unfold encA
  rw [noQ (by omega), if_neg (by decide), if_pos h]
theorem encA_E {m : M} (h : okE m = true) : encA m = putE m := by
  have := kindE h
  unfold encA
  rw [noQ (by omega), if_neg (by decide), noP (by omega) (by omega), if_neg (by decide)]
theorem ok_cases {m : M} (h : okA m = true) : (m.kind = 3 ∧ okQ m = true ∧ encA m = putQ m) ∨ ((m.kind = 4 ∨ m.kind = 6) ∧ okP m = true ∧ encA m = putP m) ∨ (m.kind = 5 ∧ okE m = true ∧ encA m = putE m) := by
  unfold okA at h
  rw [Bool.or_eq_true, Bool.or_eq_true] at h
  rcases h with h | h | h
  · exact .inl ⟨kindQ h, h, encA_Q h⟩
  · exact .inr (.inl ⟨kindP h, h, encA_P h⟩)
  · exact .inr (.inr ⟨kindE h, h, encA_E h⟩)
theorem ok_subs {m : M} (h : okA m = true) : okX m.sl = true := by
  rcases ok_cases h with ⟨_, h, _⟩ | ⟨_, h, _⟩ | ⟨_, h, _⟩
  · exact ((Q1.ok_iff m).1 h).subs
  · exact ((Z1.ok_iff m).1 h).subs
  · exact ((Y1.ok_iff m).1 h).subs
theorem encA_size (m : M) (hl : m.sl.length ≤ 60) : (encA m).size ≤ 20000 := by
  unfold encA
  split
  · exact Q1.putQ_size m hl
  split
  · exact Z1.putP_size m hl
  · exact Y1.putE_size m hl
theorem ok_pl {n m : M} (h : Pl n m) : okA n = okA m := by unfold okA; rw [Q6.ok_pl h, Z6.ok_pl h, Y6.ok_pl h]
theorem enc_pl {n m : M} (h : Pl n m) : encA n = encA m := by unfold encA; rw [Q6.ok_pl h, Z6.ok_pl h, Q6.put_pl h, Z6.put_pl h, Y6.put_pl h]

/-- The message that bytes are, by the first one; the place, the error. -/
def out1 (b : ByteArray) : M × Int × Int := if bt b 0 = 1 then outQ b else if bt b 0 = 3 then outE b else outP b
def outA (b : ByteArray) : List M × Int × Int :=
  if 65535 < b.size then ([], 65535, 10) else if b.size = 0 then ([], 0, 2) else if bt b 0 < 1 ∨ 4 < bt b 0 then ([], 0, 4)
  else if (out1 b).2.2 = 0 then ([(out1 b).1], 0, 0) else ([], (out1 b).2.1, (out1 b).2.2)
theorem out_long {b : ByteArray} (h : 65535 < b.size) : outA b = ([], 65535, 10) := by unfold outA; rw [if_pos h]
theorem out_none {b : ByteArray} (h : b.size = 0) : outA b = ([], 0, 2) := by unfold outA; rw [if_neg (by omega), if_pos h]
theorem out_kind {b : ByteArray} (h : ¬ 65535 < b.size) (h0 : ¬ b.size = 0) (k : bt b 0 < 1 ∨ 4 < bt b 0) : outA b = ([], 0, 4) := by unfold outA; rw [if_neg h, if_neg h0, if_pos k]
theorem out_yes {b : ByteArray} {m : M} {i : Int} (h : ¬ 65535 < b.size) (h0 : ¬ b.size = 0) (k : ¬ (bt b 0 < 1 ∨ 4 < bt b 0)) (o : out1 b = (m, i, 0)) : outA b = ([m], 0, 0) := by
  unfold outA; rw [if_neg h, if_neg h0, if_neg k, o, if_pos rfl]
theorem out_no {b : ByteArray} {m : M} {i e : Int} (h : ¬ 65535 < b.size) (h0 : ¬ b.size = 0) (k : ¬ (bt b 0 < 1 ∨ 4 < bt b 0)) (o : out1 b = (m, i, e)) (he : ¬ e = 0) : outA b = ([], i, e) := by
  unfold outA; rw [if_neg h, if_neg h0, if_neg k, o, if_neg he]
theorem out1_Q {b : ByteArray} (h : bt b 0 = 1) : out1 b = outQ b := by unfold out1; rw [if_pos h]
theorem out1_E {b : ByteArray} (h : bt b 0 = 3) : out1 b = outE b := by unfold out1; rw [if_neg (by omega), if_pos h]
theorem out1_P {b : ByteArray} (h : bt b 0 = 2 ∨ bt b 0 = 4) : out1 b = outP b := by unfold out1; rw [if_neg (by omega), if_neg (by omega)]
theorem bt_some {b : ByteArray} (h : ¬ bt b 0 = 0) : ¬ b.size = 0 := by
  intro k
  apply h
  have : b.data.toList = [] := List.length_eq_zero_iff.1 (by simpa using k)
  unfold bt
  rw [this]
  rfl
/-- A message that may be, its bytes read: itself. -/
theorem enc_out {m : M} (h : okA m = true) (hz : (encA m).size ≤ 65535) : ∃ n, outA (encA m) = ([n], 0, 0) ∧ M.same m n = true ∧ n.ll.length ≤ m.ll.length ∧ n.sl = m.sl := by
  rcases ok_cases h with ⟨_, h, e⟩ | ⟨_, h, e⟩ | ⟨_, h, e⟩
  · rw [e] at hz ⊢
    have h0 : bt (putQ m) 0 = 1 := by rw [putQ_yes h]; rfl
    obtain ⟨h1, h2⟩ := Q6.put_out h
    exact ⟨_, out_yes (by omega) (bt_some (by omega)) (by omega) ((out1_Q h0).trans h1), h2, Nat.zero_le _, rfl⟩
  · rw [e] at hz ⊢
    have h0 := Z6.first_of h
    obtain ⟨h1, h2, h3⟩ := Z6.own_parts h
    exact ⟨_, out_yes (by omega) (bt_some (by omega)) (by omega) ((out1_P h0).trans (Z6.put_out h)), h3, by rw [h1]; exact Nat.zero_le _, h2⟩
  · rw [e] at hz ⊢
    have h0 := Y6.first_of h
    obtain ⟨h1, h2, h3⟩ := Y6.own_parts h
    exact ⟨_, out_yes (by omega) (bt_some (by omega)) (by omega) ((out1_E h0).trans (Y6.put_out h)), h3, by rw [h1]; exact Nat.le_refl _, h2⟩
theorem out1_cases {b : ByteArray} (k : ¬ (bt b 0 < 1 ∨ 4 < bt b 0)) : ((out1 b).2.2 ≠ 0 ∧ 0 ≤ (out1 b).2.1 ∧ (out1 b).2.1 ≤ b.size) ∨
    ((out1 b).2.2 = 0 ∧ okA (out1 b).1 = true ∧ encA (out1 b).1 = b) := by
  rcases (show bt b 0 = 1 ∨ (bt b 0 = 2 ∨ bt b 0 = 4) ∨ bt b 0 = 3 by omega) with h | h | h
  · rw [out1_Q h]
    rcases Q1.out_cases b with ⟨h1, _, h2, h3⟩ | ⟨_, h1, _⟩
    · exact .inl ⟨h1, h2, h3⟩
    · obtain ⟨h2, h3, _⟩ := Q6.out_put h1 h
      exact .inr ⟨h1, by unfold okA; rw [h2]; rfl, by rw [encA_Q h2]; exact h3⟩
  · rw [out1_P h]
    rcases Z1.out_cases b with ⟨h1, _, h2, h3⟩ | ⟨_, h1, _⟩
    · exact .inl ⟨h1, h2, h3⟩
    · obtain ⟨h2, h3, _⟩ := Z6.out_put h1 h
      exact .inr ⟨h1, by unfold okA; rw [h2]; simp, by rw [encA_P h2]; exact h3⟩
  · rw [out1_E h]
    rcases Y1.out_cases b with ⟨h1, _, h2, h3⟩ | ⟨_, h1, _⟩
    · exact .inl ⟨h1, h2, h3⟩
    · obtain ⟨h2, h3, _⟩ := Y6.out_put h1 h
      exact .inr ⟨h1, by unfold okA; rw [h2]; simp, by rw [encA_E h2]; exact h3⟩
/-- How long the lists of what is read are. -/
theorem out1_parts (b : ByteArray) : (out1 b).1.ll.length ≤ 255 ∧ (out1 b).1.sl.length ≤ b.size := by
  unfold out1
  split
  · obtain ⟨h1, h2⟩ := Q6.out_parts b
    exact ⟨by rw [h1]; exact Nat.zero_le _, h2⟩
  split
  · exact Y6.out_parts b
  · obtain ⟨h1, h2⟩ := Z6.out_parts b
    exact ⟨by rw [h1]; exact Nat.zero_le _, h2⟩
/-- What bytes come to. -/
theorem out_cases (b : ByteArray) : (∃ i e, outA b = ([], i, e) ∧ e ≠ 0 ∧ 0 ≤ i ∧ i ≤ b.size) ∨
    (∃ m, outA b = ([m], 0, 0) ∧ okA m = true ∧ encA m = b ∧ b.size ≤ 65535 ∧ m.ll.length ≤ 255 ∧ m.sl.length ≤ b.size) := by
  by_cases h : 65535 < b.size
  · exact .inl ⟨_, _, out_long h, by decide, by decide, by omega⟩
  by_cases h0 : b.size = 0
  · exact .inl ⟨_, _, out_none h0, by decide, by decide, by omega⟩
  by_cases k : bt b 0 < 1 ∨ 4 < bt b 0
  · exact .inl ⟨_, _, out_kind h h0 k, by decide, by decide, by omega⟩
  obtain ⟨p1, p2⟩ := out1_parts b
  have hc := out1_cases k
  obtain ⟨⟨m, i, e⟩, hq⟩ : ∃ p, out1 b = p := ⟨_, rfl⟩
  rw [hq] at hc p1 p2
  rcases hc with ⟨h1, h2, h3⟩ | ⟨h1, h2, h3⟩
  · exact .inl ⟨i, e, out_no h h0 k hq h1, h1, h2, h3⟩
  · simp only [] at h1
    subst h1
    exact .inr ⟨m, out_yes h h0 k hq, h2, h3, by omega, p1, p2⟩

/-- The bytes of a list's only message; the place, the error. -/
def encL (l : List M) : ByteArray × Int × Int :=
  match l.findIdx? (fun m => !okA m) with
  | some i => (⟨#[]⟩, ((i : Nat) : Int), 1)
  | none => if l.length = 0 then (⟨#[]⟩, 0, 8) else if 1 < l.length then (⟨#[]⟩, 1, 8) else if 65535 < (encA (l.headD M.zero)).size then (⟨#[]⟩, 0, 10) else (encA (l.headD M.zero), 0, 0)
/-- The first place whose message may not be; -1, if there is none. -/
def idxA (l : List M) : Int := match l.findIdx? (fun m => !okA m) with | some i => ((i : Nat) : Int) | none => -1
theorem find_some {l : List M} {k : Nat} (hk : k < l.length) (h : ∀ i (hi : i < l.length), i < k → okA l[i] = true) (hn : okA l[k] = false) : l.findIdx? (fun m => !okA m) = some k :=
  List.findIdx?_eq_some_iff_getElem.2 ⟨hk, by rw [hn]; rfl, fun j hj => by rw [h j (by omega) hj]; decide⟩
theorem find_none {l : List M} (h : ∀ i (hi : i < l.length), okA l[i] = true) : l.findIdx? (fun m => !okA m) = none :=
  List.findIdx?_eq_none_iff.2 fun m hm => by
    obtain ⟨i, hi, rfl⟩ := List.getElem_of_mem hm
    rw [h i hi]; rfl
theorem idx_some {l : List M} {k : Nat} (hk : k < l.length) (h : ∀ i (hi : i < l.length), i < k → okA l[i] = true) (hn : okA l[k] = false) : idxA l = ((k : Nat) : Int) := by unfold idxA; rw [find_some hk h hn]
theorem idx_none {l : List M} (h : ∀ i (hi : i < l.length), okA l[i] = true) : idxA l = -1 := by unfold idxA; rw [find_none h]
theorem enc_wrong {l : List M} {k : Nat} (hk : k < l.length) (h : ∀ i (hi : i < l.length), i < k → okA l[i] = true) (hn : okA l[k] = false) : encL l = (⟨#[]⟩, ((k : Nat) : Int), 1) := by unfold encL; rw [find_some hk h hn]
theorem enc_none {l : List M} (h : l.length = 0) : encL l = (⟨#[]⟩, 0, 8) := by
  unfold encL; rw [find_none (fun i hi => absurd hi (by omega))]; simp only []; rw [if_pos h]
theorem enc_more {l : List M} (h : ∀ i (hi : i < l.length), okA l[i] = true) (h1 : 1 < l.length) : encL l = (⟨#[]⟩, 1, 8) := by
  unfold encL; rw [find_none h]; simp only []; rw [if_neg (by omega), if_pos h1]
theorem all_one {m : M} (h : okA m = true) : ∀ i (hi : i < [m].length), okA [m][i] = true := fun i hi => by
  obtain rfl : i = 0 := by (simp at hi; exact hi)
  exact h
theorem enc_long {m : M} (h : okA m = true) (hz : 65535 < (encA m).size) : encL [m] = (⟨#[]⟩, 0, 10) := by
  unfold encL; rw [find_none (all_one h)]
  simp only []; rw [if_neg (by simp), if_neg (by simp), if_pos (by exact hz)]
theorem enc_one {m : M} (h : okA m = true) (hz : ¬ 65535 < (encA m).size) : encL [m] = (encA m, 0, 0) := by
  unfold encL; rw [find_none (all_one h)]
  simp only []; rw [if_neg (by simp), if_neg (by simp), if_neg (by exact hz)]
  rfl
theorem enc_bad {m : M} (h : okA m = false) : encL [m] = (⟨#[]⟩, 0, 1) := enc_wrong (k := 0) (by simp) (fun i _ hi => absurd hi (by omega)) h
/-- Which of the four it is. -/
theorem enc_cases (l : List M) : (∃ k, ∃ (hk : k < l.length), (∀ i (hi : i < l.length), i < k → okA l[i] = true) ∧ okA l[k] = false) ∨
    ((∀ i (hi : i < l.length), okA l[i] = true) ∧ (l.length = 0 ∨ 1 < l.length ∨ l.length = 1)) := by
  cases hf : l.findIdx? (fun m => !okA m) with
  | some k =>
    obtain ⟨hk, h1, h2⟩ := List.findIdx?_eq_some_iff_getElem.1 hf
    exact .inl ⟨k, hk, fun i hi hik => by have := h2 i hik; simpa using this, by simpa using h1⟩
  | none =>
    have := List.findIdx?_eq_none_iff.1 hf
    exact .inr ⟨fun i hi => by have := this _ (List.getElem_mem hi); simpa using this, by omega⟩
end Go.Proofs.Ytlelfapmleopaaa.A1
