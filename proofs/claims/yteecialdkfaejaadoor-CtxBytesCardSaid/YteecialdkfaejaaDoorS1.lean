/-
  Which Subs may be, their bytes, and which Subs bytes hold: definitions on values alone, and facts on them. No conditions.
-/
import Derived.Test.YteecialdkfaejaaDoorF1
import Derived.Test.YteecialdkfaejaaDoorCnt
namespace Go.Proofs.YteecialdkfaejaaDoor.S1
open Go.ChangeShapes Go.WideShapes Go.ChangeAt Go.RowKit
open Go.Proofs.YteecialdkfaejaaDoor.Ms (El)
open Go.Proofs.YteecialdkfaejaaDoor.Cnt (bytesN mayB)
open Go.Proofs.YteecialdkfaejaaDoor.F1 (enc1 encT ok1 okT outT placed cut1 encT_nil encT_cons encT_append encT_snoc enc1_len okT_nil okT_snoc okT_append okT_cons out_yes out_no out_cases size_of len_le placed_len)
set_option linter.unusedVariables false
set_option maxRecDepth 100000
set_option maxRecDepth 100000

/-- Is it kept? -/
def keepB (x : El) : Bool := decide (2 ≤ x.2) && decide (x.2 ≤ 127)
/-- Those that are kept. -/
def keep (l : List El) : List El := l.filter keepB
/-- Need none be known? -/
def knownB (l : List El) : Bool := l.all fun x => decide (x.2 ≤ 127)
/-- May the Subs be? -/
def okS (l : List El) : Bool := mayB l 2 127 && decide (bytesN l ≤ 200)
/-- Their bytes; none. -/
def putS (l : List El) : ByteArray := if okS l then ⟨(encT l).toArray⟩ else ⟨#[]⟩
theorem putS_yes {l : List El} (h : okS l = true) : putS l = ⟨(encT l).toArray⟩ := by unfold putS; rw [if_pos h]
theorem putS_no {l : List El} (h : okS l = false) : putS l = ⟨#[]⟩ := by unfold putS; rw [if_neg (by rw [h]; exact Bool.false_ne_true)]

theorem may_mem {l : List El} {lo hi : Int} (h : mayB l lo hi = true) : ∀ x ∈ l, lo ≤ x.2 ∧ x.2 ≤ hi ∧ x.1.size ≤ 255 := by
  unfold mayB at h
  rw [List.all_eq_true] at h
  intro x hx
  simpa using h x hx
theorem may_of {l : List El} {lo hi : Int} (h : ∀ x ∈ l, lo ≤ x.2 ∧ x.2 ≤ hi ∧ x.1.size ≤ 255) : mayB l lo hi = true := by
  unfold mayB
  rw [List.all_eq_true]
  intro x hx
  simpa using h x hx
theorem okS_may {l : List El} (h : okS l = true) : mayB l 2 127 = true := by unfold okS at h; rw [Bool.and_eq_true] at h; exact h.1
theorem okS_size {l : List El} (h : okS l = true) : bytesN l ≤ 200 := by unfold okS at h; rw [Bool.and_eq_true, decide_eq_true_eq] at h; exact h.2
theorem okS_of {l : List El} (h : mayB l 2 127 = true) (h2 : bytesN l ≤ 200) : okS l = true := by unfold okS; rw [h, decide_eq_true h2]; rfl
theorem bytesN_nil : bytesN [] = 0 := rfl
theorem bytesN_cons (x : El) (l : List El) : bytesN (x :: l) = 2 + x.1.size + bytesN l := by simp [bytesN]
theorem bytesN_append (a b : List El) : bytesN (a ++ b) = bytesN a + bytesN b := by simp [bytesN]
theorem bytesN_len (l : List El) : 2 * l.length ≤ bytesN l := by
  induction l with
  | nil => exact Nat.le_refl _
  | cons x l ih => rw [bytesN_cons, List.length_cons]; omega
theorem bytesN_most {l : List El} {lo hi : Int} (h : mayB l lo hi = true) : bytesN l ≤ 257 * l.length := by
  have hm := may_mem h
  clear h
  induction l with
  | nil => exact Nat.le_refl _
  | cons x l ih =>
    have := ih (fun y hy => hm y (by simp [hy]))
    have := (hm x (by simp)).2.2
    rw [bytesN_cons, List.length_cons]; omega
theorem bytesN_mem {l : List El} {x : El} (h : x ∈ l) : 2 + x.1.size ≤ bytesN l := by
  induction l with
  | nil => exact absurd h (by simp)
  | cons y l ih =>
    rw [bytesN_cons]
    rcases List.mem_cons.1 h with rfl | h
    · omega
    · have := ih h; omega
theorem may_take {l : List El} {lo hi : Int} (h : mayB l lo hi = true) (k : Nat) : mayB (l.take k) lo hi = true := may_of fun x hx => may_mem h x (List.mem_of_mem_take hx)
theorem may_append {a b : List El} {lo hi : Int} (h : mayB a lo hi = true) (h2 : mayB b lo hi = true) : mayB (a ++ b) lo hi = true := may_of fun x hx => by
  rcases List.mem_append.1 hx with h1 | h1
  · exact may_mem h x h1
  · exact may_mem h2 x h1
theorem may_one {x : El} {lo hi : Int} (h0 : lo ≤ x.2) (h1 : x.2 ≤ hi) (h2 : x.1.size ≤ 255) : mayB [x] lo hi = true := may_of fun y hy => by
  rw [List.mem_singleton.1 hy]; exact ⟨h0, h1, h2⟩
theorem may_okT {l : List El} (h : mayB l 2 127 = true) : okT l := fun x hx => by
  obtain ⟨a, b, c⟩ := may_mem h x hx
  exact ⟨by omega, by omega, c, fun h => by omega⟩
theorem keep_self {l : List El} (h : mayB l 2 127 = true) : keep l = l := List.filter_eq_self.2 fun x hx => by
  obtain ⟨a, b, c⟩ := may_mem h x hx
  unfold keepB
  simp [a, b]
theorem known_self {l : List El} (h : mayB l 2 127 = true) : knownB l = true := List.all_eq_true.2 fun x hx => by
  obtain ⟨a, b, c⟩ := may_mem h x hx
  simpa using b
theorem keep_may {l : List El} (h : okT l) : mayB (keep l) 2 127 = true := may_of fun x hx => by
  obtain ⟨h1, h2⟩ := List.mem_filter.1 hx
  unfold keepB at h2
  rw [Bool.and_eq_true, decide_eq_true_eq, decide_eq_true_eq] at h2
  exact ⟨h2.1, h2.2, (h x h1).2.2.1⟩
theorem keep_nil : keep [] = [] := rfl
theorem keep_append (a b : List El) : keep (a ++ b) = keep a ++ keep b := List.filter_append ..
theorem keep_yes {x : El} (h : keepB x = true) (l : List El) : keep (l ++ [x]) = keep l ++ [x] := by rw [keep_append]; unfold keep; simp [h]
theorem keep_no {x : El} (h : keepB x = false) (l : List El) : keep (l ++ [x]) = keep l := by rw [keep_append]; unfold keep; simp [h]
theorem known_append (a b : List El) : knownB (a ++ b) = (knownB a && knownB b) := List.all_append ..
theorem known_one (x : El) : knownB [x] = decide (x.2 ≤ 127) := by unfold knownB; simp
theorem known_snoc (l : List El) (x : El) : knownB (l ++ [x]) = (knownB l && decide (x.2 ≤ 127)) := by rw [known_append, known_one]
theorem enc_len {l : List El} (h : mayB l 2 127 = true) : (encT l).length = bytesN l := by
  have hm := may_mem h
  clear h
  induction l with
  | nil => rfl
  | cons x l ih =>
    have h1 := hm x (by simp)
    rw [encT_cons, List.length_append, enc1_len, if_neg (by omega), ih (fun y hy => hm y (by simp [hy])), bytesN_cons]
theorem keep_size (l : List El) : bytesN (keep l) ≤ (encT l).length := by
  induction l with
  | nil => exact Nat.le_refl _
  | cons x l ih =>
    rw [encT_cons, List.length_append, enc1_len]
    unfold keep at *
    rw [List.filter_cons]
    cases hk : keepB x
    · simp only [Bool.false_eq_true, if_false]
      split <;> omega
    · have : ¬ x.2 = 0 := by unfold keepB at hk; simp at hk; omega
      rw [if_pos rfl, bytesN_cons, if_neg this]
      omega
theorem keep_len (l : List El) : (keep l).length ≤ l.length := List.length_filter_le ..
theorem okS_take {l : List El} (h : okS l = true) (k : Nat) : okS (l.take k) = true :=
  okS_of (may_take (okS_may h) k) (Nat.le_trans (Cnt.bytes_le l k) (okS_size h))
theorem okS_one {l : List El} {x : El} (h : okS l = true) (hx : x ∈ l) : okS [x] = true := by
  obtain ⟨a, b, c⟩ := may_mem (okS_may h) x hx
  have := bytesN_mem hx
  have := okS_size h
  exact okS_of (may_one a b c) (by rw [bytesN_cons, bytesN_nil]; omega)
theorem okS_mem {l : List El} (h : okS l = true) : ∀ x ∈ l, x.1.size ≤ 1099511627776 := fun x hx => by
  have := (may_mem (okS_may h) x hx).2.2
  omega
theorem okS_len {l : List El} (h : okS l = true) : l.length ≤ 100 := by
  have := okS_size h
  have := bytesN_len l
  omega
theorem putS_size {l : List El} (h : okS l = true) : (putS l).size = bytesN l := by
  rw [putS_yes h, ← enc_len (okS_may h)]
  exact List.size_toArray ..
theorem putS_le (l : List El) : (putS l).size ≤ 200 := by
  cases h : okS l
  · rw [putS_no h]; exact Nat.zero_le _
  · rw [putS_size h]; exact okS_size h

/-- Those that are kept, whether none must be known, and the error. -/
noncomputable def outS (s : ByteArray) : List El × Bool × Int :=
  if (outT 0 s).2.2 = 0 then (if bytesN (keep ((outT 0 s).1.map Prod.snd)) ≤ 200 then (keep ((outT 0 s).1.map Prod.snd), knownB ((outT 0 s).1.map Prod.snd), 0) else ([], false, 10)) else ([], false, (outT 0 s).2.2)
theorem placed_snd : ∀ (l : List El) (p : Int), (placed p l).map Prod.snd = l
  | [], _ => rfl
  | x :: l, p => by rw [placed, List.map_cons, placed_snd]
theorem outS_of {s : ByteArray} {l : List El} (h : outT 0 s = (placed 0 l, 0, 0)) : outS s = if bytesN (keep l) ≤ 200 then (keep l, knownB l, 0) else ([], false, 10) := by
  unfold outS
  rw [h, placed_snd, if_pos rfl]
theorem outS_bad {s : ByteArray} {p : Int} (h : outT 0 s = ([], p, 2)) : outS s = ([], false, 2) := by
  unfold outS
  rw [h, if_neg (show ¬ (2 : Int) = 0 by decide)]
theorem outS_yes {s : ByteArray} {l : List El} (ho : okT l) (hs : s.data.toList = encT l) (hb : bytesN (keep l) ≤ 200) : outS s = (keep l, knownB l, 0) := by
  rw [outS_of (out_yes ho hs), if_pos hb]
theorem outS_cases (s : ByteArray) : (∃ l, okT l ∧ s.data.toList = encT l ∧ outT 0 s = (placed 0 l, 0, 0) ∧ ((bytesN (keep l) ≤ 200 ∧ outS s = (keep l, knownB l, 0)) ∨ (200 < bytesN (keep l) ∧ outS s = ([], false, 10)))) ∨
    ∃ p, outT 0 s = ([], p, 2) ∧ outS s = ([], false, 2) := by
  rcases out_cases 0 s with ⟨l, ho, hs, e⟩ | ⟨l, r, _, _, _, _, e⟩
  · refine .inl ⟨l, ho, hs, e, ?_⟩
    by_cases hb : bytesN (keep l) ≤ 200
    · exact .inl ⟨hb, outS_yes ho hs hb⟩
    · exact .inr ⟨by omega, by rw [outS_of e, if_neg hb]⟩
  · exact .inr ⟨_, e, outS_bad e⟩
theorem put_out {l : List El} (h : okS l = true) : outS (putS l) = (l, true, 0) := by
  have hm := okS_may h
  rw [putS_yes h, outS_yes (may_okT hm) rfl (by rw [keep_self hm]; exact okS_size h), keep_self hm, known_self hm]
/-- What is told of bytes may be, and has no more of them. -/
theorem outS_ok (s : ByteArray) : okS (outS s).1 = true ∧ (putS (outS s).1).size ≤ s.size := by
  rcases outS_cases s with ⟨l, ho, hs, _, ⟨hb, e⟩ | ⟨_, e⟩⟩ | ⟨p, _, e⟩
  · rw [e]
    have hk := okS_of (keep_may ho) hb
    refine ⟨hk, ?_⟩
    rw [putS_size hk, size_of hs]
    exact keep_size l
  · rw [e]; exact ⟨rfl, by rw [putS_yes rfl]; exact Nat.zero_le _⟩
  · rw [e]; exact ⟨rfl, by rw [putS_yes rfl]; exact Nat.zero_le _⟩
theorem outS_len (s : ByteArray) : (outS s).1.length ≤ 100 := okS_len (outS_ok s).1
theorem outS_err {s : ByteArray} (h : ¬ (outS s).2.2 = 0) : (outS s).1 = [] := by
  rcases outS_cases s with ⟨l, ho, hs, _, ⟨hb, e⟩ | ⟨_, e⟩⟩ | ⟨p, _, e⟩
  · rw [e] at h; exact absurd rfl h
  · rw [e]
  · rw [e]

/-- Five paddings: their TLVs, and their bytes. -/
def padE (n : Nat) : List El := match n with
  | 1 => [(⟨#[]⟩, 0)]
  | 2 => [(⟨#[]⟩, 1)]
  | 3 => [(⟨#[0, 0]⟩, 1)]
  | 4 => [(⟨#[]⟩, 0), (⟨#[]⟩, 0)]
  | _ => []
def padB (n : Nat) : ByteArray := match n with
  | 1 => ⟨#[0]⟩
  | 2 => ⟨#[1, 0]⟩
  | 3 => ⟨#[1, 2, 0, 0]⟩
  | 4 => ⟨#[0, 0]⟩
  | _ => ⟨#[]⟩
theorem pad_cases {n : Nat} (h : n < 5) : n = 0 ∨ n = 1 ∨ n = 2 ∨ n = 3 ∨ n = 4 := by omega
theorem pad_facts {n : Nat} (h : n < 5) : okT (padE n) ∧ (padB n).data.toList = encT (padE n) ∧ keep (padE n) = [] ∧ knownB (padE n) = true ∧ (padB n).size ≤ 4 := by
  rcases pad_cases h with rfl | rfl | rfl | rfl | rfl
  · exact ⟨okT_nil, rfl, rfl, rfl, by decide⟩
  · refine ⟨fun x hx => ?_, rfl, rfl, rfl, by decide⟩
    rw [List.mem_singleton.1 hx]
    exact ⟨by decide, by decide, by decide, fun _ => rfl⟩
  · refine ⟨fun x hx => ?_, rfl, rfl, rfl, by decide⟩
    rw [List.mem_singleton.1 hx]
    exact ⟨by decide, by decide, by decide, fun h => absurd h (by decide)⟩
  · refine ⟨fun x hx => ?_, rfl, rfl, rfl, by decide⟩
    rw [List.mem_singleton.1 hx]
    exact ⟨by decide, by decide, by decide, fun h => absurd h (by decide)⟩
  · refine ⟨fun x hx => ?_, rfl, rfl, rfl, by decide⟩
    simp only [padE, List.mem_cons, List.not_mem_nil, or_false, or_self] at hx
    rw [hx]
    exact ⟨by decide, by decide, by decide, fun _ => rfl⟩
end Go.Proofs.YteecialdkfaejaaDoor.S1
