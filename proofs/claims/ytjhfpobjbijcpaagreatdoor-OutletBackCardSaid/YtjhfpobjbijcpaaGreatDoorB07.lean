/-
  Which Subs may be, their bytes, and which Subs bytes hold: definitions on values alone, and facts on them. No conditions.
  addr's Link, Short and Long, and the document's: each by one function of the bytes. No condition.
-/
import Derived.Test.YtjhfpobjbijcpaaGreatDoorB01
import Derived.Test.YtjhfpobjbijcpaaGreatDoorB02
import Derived.Test.YtjhfpobjbijcpaaGreatDoorB06
namespace Go.Proofs.YtjhfpobjbijcpaaGreatDoor.S1
open Go.ChangeShapes Go.WideShapes Go.ChangeAt Go.RowKit
open Go.Proofs.YtjhfpobjbijcpaaGreatDoor.Ms (El)
open Go.Proofs.YtjhfpobjbijcpaaGreatDoor.Cnt (bytesN mayB)
open Go.Proofs.YtjhfpobjbijcpaaGreatDoor.F1 (enc1 encT ok1 okT outT placed cut1 encT_nil encT_cons encT_append encT_snoc enc1_len okT_nil okT_snoc okT_append okT_cons out_yes out_no out_cases size_of len_le placed_len)
set_option linter.unusedVariables false
set_option maxRecDepth 100000
set_option maxRecDepth 100000

/-- Is it kept? -/
def keepB (x : El) : Bool := decide (2 ≤ x.2) && decide (x.2 ≤ 127)
/-- Those that are kept. -/
def keep (l : List El) : List El := l.filter keepB
/-- Need none be known? -/
def knownB (l : List El) : Bool := l.all fun x => decide (x.2 ≤ 127)
/-- May the Subs be? -/
def okS (l : List El) : Bool := mayB l 2 127 && decide (bytesN l ≤ 200)
/-- Their bytes; none. -/
def putS (l : List El) : ByteArray := if okS l then ⟨(encT l).toArray⟩ else ⟨#[]⟩
theorem putS_yes {l : List El} (h : okS l = true) : putS l = ⟨(encT l).toArray⟩ := by unfold putS; rw [if_pos h]
theorem putS_no {l : List El} (h : okS l = false) : putS l = ⟨#[]⟩ := by unfold putS; rw [if_neg (by rw [h]; exact Bool.false_ne_true)]

theorem may_mem {l : List El} {lo hi : Int} (h : mayB l lo hi = true) : ∀ x ∈ l, lo ≤ x.2 ∧ x.2 ≤ hi ∧ x.1.size ≤ 255 := by
  unfold mayB at h
  rw [List.all_eq_true] at h
  intro x hx
  simpa using h x hx
theorem may_of {l : List El} {lo hi : Int} (h : ∀ x ∈ l, lo ≤ x.2 ∧ x.2 ≤ hi ∧ x.1.size ≤ 255) : mayB l lo hi = true := by
  unfold mayB
  rw [List.all_eq_true]
  intro x hx
  simpa using h x hx
theorem okS_may {l : List El} (h : okS l = true) : mayB l 2 127 = true := by unfold okS at h; rw [Bool.and_eq_true] at h; exact h.1
theorem okS_size {l : List El} (h : okS l = true) : bytesN l ≤ 200 := by unfold okS at h; rw [Bool.and_eq_true, decide_eq_true_eq] at h; exact h.2
theorem okS_of {l : List El} (h : mayB l 2 127 = true) (h2 : bytesN l ≤ 200) : okS l = true := by unfold okS; rw [h, decide_eq_true h2]; rfl
theorem bytesN_cons (x : El) (l : List El) : bytesN (x :: l) = 2 + x.1.size + bytesN l := by simp [bytesN]
theorem bytesN_len (l : List El) : 2 * l.length ≤ bytesN l := by
  induction l with
  | nil => exact Nat.le_refl _
  | cons x l ih => rw [bytesN_cons, List.length_cons]; omega
theorem bytesN_most {l : List El} {lo hi : Int} (h : mayB l lo hi = true) : bytesN l ≤ 257 * l.length := by
  have hm := may_mem h
  clear h
  induction l with
  | nil => exact Nat.le_refl _
  | cons x l ih =>
    have := ih (fun y hy => hm y (by simp [hy]))
    have := (hm x (by simp)).2.2
    rw [bytesN_cons, List.length_cons]; omega
theorem may_take {l : List El} {lo hi : Int} (h : mayB l lo hi = true) (k : Nat) : mayB (l.take k) lo hi = true := may_of fun x hx => may_mem h x (List.mem_of_mem_take hx)
theorem may_okT {l : List El} (h : mayB l 2 127 = true) : okT l := fun x hx => by
  obtain ⟨a, b, c⟩ := may_mem h x hx
  exact ⟨by omega, by omega, c, fun h => by omega⟩
theorem keep_self {l : List El} (h : mayB l 2 127 = true) : keep l = l := List.filter_eq_self.2 fun x hx => by
  obtain ⟨a, b, c⟩ := may_mem h x hx
  unfold keepB
  simp [a, b]
theorem known_self {l : List El} (h : mayB l 2 127 = true) : knownB l = true := List.all_eq_true.2 fun x hx => by
  obtain ⟨a, b, c⟩ := may_mem h x hx
  simpa using b
theorem keep_may {l : List El} (h : okT l) : mayB (keep l) 2 127 = true := may_of fun x hx => by
  obtain ⟨h1, h2⟩ := List.mem_filter.1 hx
  unfold keepB at h2
  rw [Bool.and_eq_true, decide_eq_true_eq, decide_eq_true_eq] at h2
  exact ⟨h2.1, h2.2, (h x h1).2.2.1⟩
theorem keep_append (a b : List El) : keep (a ++ b) = keep a ++ keep b := List.filter_append ..
theorem keep_yes {x : El} (h : keepB x = true) (l : List El) : keep (l ++ [x]) = keep l ++ [x] := by rw [keep_append]; unfold keep; simp [h]
theorem keep_no {x : El} (h : keepB x = false) (l : List El) : keep (l ++ [x]) = keep l := by rw [keep_append]; unfold keep; simp [h]
theorem known_append (a b : List El) : knownB (a ++ b) = (knownB a && knownB b) := List.all_append ..
theorem known_one (x : El) : knownB [x] = decide (x.2 ≤ 127) := by unfold knownB; simp
theorem known_snoc (l : List El) (x : El) : knownB (l ++ [x]) = (knownB l && decide (x.2 ≤ 127)) := by rw [known_append, known_one]
theorem enc_len {l : List El} (h : mayB l 2 127 = true) : (encT l).length = bytesN l := by
  have hm := may_mem h
  clear h
  induction l with
  | nil => rfl
  | cons x l ih =>
    have h1 := hm x (by simp)
    rw [encT_cons, List.length_append, enc1_len, if_neg (by omega), ih (fun y hy => hm y (by simp [hy])), bytesN_cons]
theorem keep_size (l : List El) : bytesN (keep l) ≤ (encT l).length := by
  induction l with
  | nil => exact Nat.le_refl _
  | cons x l ih =>
    rw [encT_cons, List.length_append, enc1_len]
    unfold keep at *
    rw [List.filter_cons]
    cases hk : keepB x
    · simp only [Bool.false_eq_true, if_false]
      split <;> omega
    · have : ¬ x.2 = 0 := by unfold keepB at hk; simp at hk; omega
      rw [if_pos rfl, bytesN_cons, if_neg this]
      omega
theorem keep_len (l : List El) : (keep l).length ≤ l.length := List.length_filter_le ..
theorem okS_take {l : List El} (h : okS l = true) (k : Nat) : okS (l.take k) = true :=
  okS_of (may_take (okS_may h) k) (Nat.le_trans (Cnt.bytes_le l k) (okS_size h))
theorem okS_mem {l : List El} (h : okS l = true) : ∀ x ∈ l, x.1.size ≤ 1099511627776 := fun x hx => by
  have := (may_mem (okS_may h) x hx).2.2
  omega
theorem okS_len {l : List El} (h : okS l = true) : l.length ≤ 100 := by
  have := okS_size h
  have := bytesN_len l
  omega
theorem putS_size {l : List El} (h : okS l = true) : (putS l).size = bytesN l := by
  rw [putS_yes h, ← enc_len (okS_may h)]
  exact List.size_toArray ..
theorem putS_le (l : List El) : (putS l).size ≤ 200 := by
  cases h : okS l
  · rw [putS_no h]; exact Nat.zero_le _
  · rw [putS_size h]; exact okS_size h

/-- Those that are kept, whether none must be known, and the error. -/
noncomputable def outS (s : ByteArray) : List El × Bool × Int :=
  if (outT 0 s).2.2 = 0 then (if bytesN (keep ((outT 0 s).1.map Prod.snd)) ≤ 200 then (keep ((outT 0 s).1.map Prod.snd), knownB ((outT 0 s).1.map Prod.snd), 0) else ([], false, 10)) else ([], false, (outT 0 s).2.2)
theorem placed_snd : ∀ (l : List El) (p : Int), (placed p l).map Prod.snd = l
  | [], _ => rfl
  | x :: l, p => by rw [placed, List.map_cons, placed_snd]
theorem outS_of {s : ByteArray} {l : List El} (h : outT 0 s = (placed 0 l, 0, 0)) : outS s = if bytesN (keep l) ≤ 200 then (keep l, knownB l, 0) else ([], false, 10) := by
  unfold outS
  rw [h, placed_snd, if_pos rfl]
theorem outS_bad {s : ByteArray} {p : Int} (h : outT 0 s = ([], p, 2)) : outS s = ([], false, 2) := by
  unfold outS
  rw [h, if_neg (show ¬ (2 : Int) = 0 by decide)]
theorem outS_yes {s : ByteArray} {l : List El} (ho : okT l) (hs : s.data.toList = encT l) (hb : bytesN (keep l) ≤ 200) : outS s = (keep l, knownB l, 0) := by
  rw [outS_of (out_yes ho hs), if_pos hb]
theorem outS_cases (s : ByteArray) : (∃ l, okT l ∧ s.data.toList = encT l ∧ outT 0 s = (placed 0 l, 0, 0) ∧ ((bytesN (keep l) ≤ 200 ∧ outS s = (keep l, knownB l, 0)) ∨ (200 < bytesN (keep l) ∧ outS s = ([], false, 10)))) ∨
    ∃ p, outT 0 s = ([], p, 2) ∧ outS s = ([], false, 2) := by
  rcases out_cases 0 s with ⟨l, ho, hs, e⟩ | ⟨l, r, _, _, _, _, e⟩
  · refine .inl ⟨l, ho, hs, e, ?_⟩
    by_cases hb : bytesN (keep l) ≤ 200
    · exact .inl ⟨hb, outS_yes ho hs hb⟩
    · exact .inr ⟨by omega, by rw [outS_of e, if_neg hb]⟩
  · exact .inr ⟨_, e, outS_bad e⟩
theorem put_out {l : List El} (h : okS l = true) : outS (putS l) = (l, true, 0) := by
  have hm := okS_may h
  rw [putS_yes h, outS_yes (may_okT hm) rfl (by rw [keep_self hm]; exact okS_size h), keep_self hm, known_self hm]
/-- What is told of bytes may be, and has no more of them. -/
theorem outS_ok (s : ByteArray) : okS (outS s).1 = true ∧ (putS (outS s).1).size ≤ s.size := by
  rcases outS_cases s with ⟨l, ho, hs, _, ⟨hb, e⟩ | ⟨_, e⟩⟩ | ⟨p, _, e⟩
  · rw [e]
    have hk := okS_of (keep_may ho) hb
    refine ⟨hk, ?_⟩
    rw [putS_size hk, size_of hs]
    exact keep_size l
  · rw [e]; exact ⟨rfl, by rw [putS_yes rfl]; exact Nat.zero_le _⟩
  · rw [e]; exact ⟨rfl, by rw [putS_yes rfl]; exact Nat.zero_le _⟩
end Go.Proofs.YtjhfpobjbijcpaaGreatDoor.S1
namespace Go.Proofs.YtjhfpobjbijcpaaGreatDoor.Lk
open Go.ChangeShapes Go.WideShapes Go.ChangeAt Go.RowKit
open Go.Proofs.YtjhfpobjbijcpaaGreatDoor.Nu (text_eq)
set_option linter.unusedVariables false
set_option maxRecDepth 100000
set_option maxRecDepth 100000

def lkH : ByteArray := ⟨#[254, 128, 0, 0, 0, 0, 0, 0]⟩
def lkB (s : ByteArray) : Bool := (s.extract 0 8).toList == [254, 128, 0, 0, 0, 0, 0, 0]
def link (s : ByteArray) : Bool := decide (s.size = 16) && lkB s
theorem link_yes {s : ByteArray} (h : s.size = 16) : link s = lkB s := by unfold link; rw [decide_eq_true h]; rfl
theorem link_no {s : ByteArray} (h : s.size ≠ 16) : link s = false := by unfold link; rw [decide_eq_false h]; rfl
/-- The short form, the long one. -/
def shA (a : ByteArray) : ByteArray := if link a then a.extract 8 a.size else ⟨#[]⟩
def lgO (a : ByteArray) : Bool := decide (a.size = 8)
def lgA (a : ByteArray) : ByteArray := if a.size = 8 then lkH ++ a else ⟨#[]⟩
theorem link_size {a : ByteArray} (h : link a = true) : a.size = 16 := by unfold link at h; simp at h; exact h.1
theorem link_head {a : ByteArray} (h : link a = true) : a.extract 0 8 = lkH := by
  unfold link lkB at h
  simp only [Bool.and_eq_true, beq_iff_eq] at h
  refine text_eq ?_
  rw [← ByteArray.toList_eq, h.2]
  rfl
theorem sh_yes {a : ByteArray} (h : link a = true) : shA a = a.extract 8 a.size := by unfold shA; rw [if_pos h]
theorem sh_size {a : ByteArray} (h : link a = true) : (shA a).size = 8 := by
  have := link_size h
  rw [sh_yes h]; simp; omega
theorem lg_sh {a : ByteArray} (h : link a = true) : lgA (shA a) = a := by
  unfold lgA
  rw [if_pos (sh_size h), sh_yes h, ← link_head h]
  have := link_size h
  rw [ByteArray.extract_append_extract]
  refine text_eq ?_
  simp
theorem link_lg {s : ByteArray} (h : s.size = 8) : link (lgA s) = true ∧ shA (lgA s) = s := by
  have e : lgA s = lkH ++ s := by unfold lgA; rw [if_pos h]
  have hz : (lkH ++ s).size = 16 := by rw [ByteArray.size_append, h]; rfl
  have h1 : link (lkH ++ s) = true := by
    rw [link_yes hz]
    unfold lkB
    rw [show (lkH ++ s).extract 0 8 = lkH from ByteArray.extract_append_eq_left rfl]
    rw [ByteArray.toList_eq]
    rfl
  rw [e]
  refine ⟨h1, ?_⟩
  rw [sh_yes h1]
  exact ByteArray.extract_append_eq_right rfl (by rw [ByteArray.size_append])

/- What the library's HasPrefix answers of sixteen bytes. -/
theorem lite_any (s : ByteArray) (h : s.size = 16) (w : World) :
    Calls Tryz.prog 163 #[.string s, .string ⟨#[254, 128, 0, 0, 0, 0, 0, 0]⟩] w fun e w' => e = .returned (.bool (lkB s)) ∧ w' = w := by
  unfold lkB
  go_enter Tryz.func163, Tryz.ntmps163
  go_wp2
  go_ret
  exact ⟨rfl, rfl⟩
theorem pre_any (s : ByteArray) (h : s.size = 16) (w : World) :
    Calls Tryz.prog 157 #[.string s, .string ⟨#[254, 128, 0, 0, 0, 0, 0, 0]⟩] w fun e w' => e = .returned (.bool (lkB s)) ∧ w' = w := by
  have P1 := Lib.hid (fun w => lite_any s h w)
  go_enter Tryz.func157, Tryz.ntmps157
  go_wp2_with fail
  refine (P1.out _).mono ?_
  rintro e w' ⟨rfl, rfl⟩
  go_wp2
  go_ret
  exact ⟨rfl, rfl⟩
theorem family_yes (s : ByteArray) (h : s.size = 16) (w : World) :
    Calls Tryz.prog 123 #[.string s] w fun e w' => e = .returned (.int .i64 1) ∧ w' = w := by
  have e0 : ((s.size : Int) == 4) = false := by rw [beq_eq_false_iff_ne]; omega
  have e1 : ((s.size : Int) == 16) = true := by rw [beq_iff_eq]; omega
  clear h
  go_enter Tryz.func123, Tryz.ntmps123
  go_wp2
  go_ret
  exact ⟨rfl, rfl⟩
theorem family_no (s : ByteArray) (h : s.size ≠ 16) (w : World) :
    Calls Tryz.prog 123 #[.string s] w fun e w' => (e = .returned (.int .i64 0) ∨ e = .returned (.int .i64 (-1))) ∧ w' = w := by
  have e1 : ((s.size : Int) == 16) = false := by rw [beq_eq_false_iff_ne]; omega
  by_cases h4 : s.size = 4
  · have e0 : ((s.size : Int) == 4) = true := by rw [beq_iff_eq]; omega
    clear h h4
    go_enter Tryz.func123, Tryz.ntmps123
    go_wp2
    go_ret
    exact ⟨.inl rfl, rfl⟩
  · have e0 : ((s.size : Int) == 4) = false := by rw [beq_eq_false_iff_ne]; omega
    clear h h4
    go_enter Tryz.func123, Tryz.ntmps123
    go_wp2
    go_ret
    exact ⟨.inr rfl, rfl⟩
theorem link_any (s : ByteArray) (w : World) :
    Calls Tryz.prog 142 #[.string s] w fun e w' => e = .returned (.bool (link s)) ∧ w' = w := by
  by_cases h : s.size = 16
  · rw [link_yes h]
    have P1 := Lib.hid (fun w => family_yes s h w)
    have P2 := Lib.hid (fun w => pre_any s h w)
    clear h
    generalize lkB s = x at *
    go_enter Tryz.func142, Tryz.ntmps142
    go_wp2_with fail
    refine (P1.out _).mono ?_
    rintro e w' ⟨rfl, rfl⟩
    go_wp2_with fail
    refine (P2.out _).mono ?_
    rintro e w' ⟨rfl, rfl⟩
    go_wp2
    go_ret
    exact ⟨rfl, rfl⟩
  · rw [link_no h]
    have P1 := Lib.hid (fun w => family_no s h w)
    clear h
    go_enter Tryz.func142, Tryz.ntmps142
    go_wp2_with fail
    refine (P1.out _).mono ?_
    rintro e w' ⟨rfl | rfl, rfl⟩
    all_goals
      go_wp2
      go_ret
      exact ⟨rfl, rfl⟩
theorem short_any (a : ByteArray) (w : World) :
    Calls Tryz.prog 140 #[.string a] w fun e w' => e = .returned (.tuple #[.string (shA a), .bool (link a)]) ∧ w = w' := by
  have P1 := Lib.hid (fun w => link_any a w)
  cases hl : link a with
  | false =>
    have e : shA a = ⟨#[]⟩ := by unfold shA; rw [hl]; rfl
    rw [e]
    rw [hl] at P1
    clear hl e
    go_enter Tryz.func140, Tryz.ntmps140
    go_wp2_with fail
    refine (P1.out _).mono ?_
    rintro e w' ⟨rfl, rfl⟩
    go_wp2
    go_ret2
    exact ⟨rfl, rfl⟩
  | true =>
    have e : shA a = a.extract 8 a.size := sh_yes hl
    have hs : (8 : Int) ≤ (a.size : Int) := by have := link_size hl; omega
    rw [e]
    rw [hl] at P1
    clear hl e
    go_enter Tryz.func140, Tryz.ntmps140
    go_wp2_with fail
    refine (P1.out _).mono ?_
    rintro e w' ⟨rfl, rfl⟩
    go_wp2
    go_ret2
    exact ⟨rfl, rfl⟩
theorem rlong_any (a : ByteArray) (w : World) :
    Calls Tryz.prog 92 #[.string a] w fun e w' => e = .returned (.tuple #[.string (lgA a), .bool (lgO a)]) ∧ Below w.heap.size w w' := by
  by_cases h : a.size = 8
  · have e1 : lgA a = lkH ++ a := if_pos h
    have e2 : lgO a = true := decide_eq_true h
    have hne : ((a.size : Int) != 8) = false := by rw [h]; rfl
    rw [e1, e2]
    clear e1 e2
    go_enter Tryz.func92, Tryz.ntmps92
    go_wp2
    go_ret2
    exact ⟨rfl, Below.refl _ _⟩
  · have e1 : lgA a = ⟨#[]⟩ := if_neg h
    have e2 : lgO a = false := decide_eq_false h
    have hne : ((a.size : Int) != 8) = true := by rw [bne_iff_ne]; omega
    rw [e1, e2]
    clear e1 e2
    go_enter Tryz.func92, Tryz.ntmps92
    go_wp2
    go_ret2
    exact ⟨rfl, Below.refl _ _⟩
end Go.Proofs.YtjhfpobjbijcpaaGreatDoor.Lk
