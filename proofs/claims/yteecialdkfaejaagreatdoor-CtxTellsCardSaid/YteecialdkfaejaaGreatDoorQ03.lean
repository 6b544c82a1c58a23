/-
  The bytes of Subs, and whether they may be: the program's answers and the document's. Conditions: lists of at most 2^20 elements, of at most 2^40 bytes together.
  Which Subs may be, their bytes, and which Subs bytes hold: definitions on values alone, and facts on them. No conditions.
  addr's Link, Short and Long, and the document's: each by one function of the bytes. No condition.
  A message with the fields of its kind alone: what the program makes of it.
  Bits of bytes, as numbers: which are 1, which are kept, how many two texts have alike from the first one on. Contracts of the calls that only reckon: Bit, its bounds, a byte's mask and its noughts ahead, Alike; and the document's own. The calls that make bytes: Keep, and Clean, which asks it; and the document's own. The document's example holds, in whatever world it is asked. The calls of layer 4, and the document's own: Least, Right, Cut, Fill, Lead.
-/
import Derived.Test.YteecialdkfaejaaGreatDoorQ01
import Derived.Test.YteecialdkfaejaaGreatDoorQ02
import Derived.Test.YteecialdkfaejaaGreatDoorRows
import Derived.WalkKit
import Derived.ProofKit
import Derived.OpenShut
import Derived.ShutString
import Derived.Below
import Derived.Lib.Hide
import Derived.WalkLawsBesides
import Derived.Outline
import Derived.RegionTactic
import Derived.Deep.RegionWith
import Derived.StillTailTactics
import Derived.Deep.RegionHeld3
import Derived.Deep.QuietTactic
import Derived.BigQuiet
import Derived.IntWalk
import Derived.LoopTactic
import Derived.Laws.IdiomStrings
import Derived.OwnWalk
import Derived.Laws.CopyOwn
import Derived.Lib.BufferWrite
import Derived.Lib.MinMax
namespace Go.Proofs.YteecialdkfaejaaGreatDoor.Cnt
open Go.ChangeShapes Go.WideShapes Go.ChangeAt Go.RowKit
open Go.Proofs.YteecialdkfaejaaGreatDoor.Ms
open Go.Proofs.YteecialdkfaejaaGreatDoor.Box
open Go.Proofs.YteecialdkfaejaaGreatDoor.Same
set_option linter.unusedVariables false
set_option maxRecDepth 100000

/-- The bytes of Subs. -/
def bytesN (l : List El) : Nat := (l.map fun x => 2 + x.1.size).sum
theorem bytes_take (l : List El) (k : Nat) (h : k < l.length) : bytesN (l.take (k + 1)) = bytesN (l.take k) + (2 + l[k].1.size) := by
  unfold bytesN
  rw [List.take_succ_eq_append_getElem h, List.map_append, List.sum_append]
  simp only [List.map_cons, List.map_nil, List.sum_cons, List.sum_nil, Nat.add_zero]
theorem bytes_le (l : List El) (k : Nat) : bytesN (l.take k) ≤ bytesN l := by
  conv => rhs; rw [← List.take_append_drop k l]
  unfold bytesN
  rw [List.map_append, List.sum_append]
  omega
theorem int_eq {k : IntKind} {a b : Int} (h : a = b) : Ending.returned (.int k a) = .returned (.int k b) := by rw [h]

set_option maxHeartbeats 1600000 in
theorem bytes_any (a : Option Addr) (c : Nat) (l : List El) (w : World) (hl : SRow w a l) (ln : l.length ≤ 1048576) (lb : bytesN l ≤ 1099511627776) :
    Calls Tryz.prog 38 #[.slice a l.length c] w fun e w' => e = .returned (.int .i64 (bytesN l : Nat)) ∧ Below w.heap.size w w' := by
  have LB := Lib.hid lb
  clear lb
  go_enter Tryz.func38, Tryz.ntmps38
  go_wp2
  go_loopw [3, 8] (fun n i wr => ∃ k : Nat, k ≤ l.length ∧ i = .int .i64 k ∧ n = .int .i64 (bytesN (l.take k) : Nat) ∧ Hid (Below w.heap.size w wr)) (fun _ i _ => l.length - (intOf i).toNat)
  case atStart => exact ⟨0, Nat.zero_le _, rfl, rfl, Lib.hid (Below.refl _ _)⟩
  case round =>
    obtain ⟨k, hk, rfl, rfl, HB⟩ := hrel
    by_cases hlt : k < l.length
    · obtain ⟨p, rfl, hp, c0, c1⟩ := (hl.below HB.out) k hlt
      have HT := Lib.hid (bytes_take l k hlt)
      have HM := Lib.hid (bytes_le l (k + 1))
      have hs : l[k].1.size ≤ 1099511627776 ∧ bytesN (l.take k) ≤ 1099511627776 := by have := HT.out; have := HM.out; have := LB.out; omega
      obtain ⟨hs, hs2⟩ := hs
      clear hl
      rw [add_one] at c1
      generalize l[k] = u at *
      generalize hq : bytesN (l.take k) = q at *
      clear hq
      go_wp2
      go_roundw
      case rel => exact ⟨k + 1, hlt, by go_num, by rw [HT.out]; congr 1, Lib.hid ((HB.out.alloc HB.out.size _))⟩
      case measure => simp [intOf]; omega
    · obtain rfl : k = l.length := by omega
      go_wp2
      go_ret
      exact ⟨int_eq (by rw [List.take_length]), HB.out⟩
set_option maxHeartbeats 1600000 in
theorem rbytes_any (a : Option Addr) (c : Nat) (l : List El) (w : World) (hl : SRow w a l) (ln : l.length ≤ 1048576) (lb : bytesN l ≤ 1099511627776) :
    Calls Tryz.prog 44 #[.slice a l.length c] w fun e w' => e = .returned (.int .i64 (bytesN l : Nat)) ∧ Below w.heap.size w w' := by
  have LB := Lib.hid lb
  clear lb
  go_enter Tryz.func44, Tryz.ntmps44
  go_wp2
  go_loopw [3, 4] (fun n i wr => ∃ k : Nat, k ≤ l.length ∧ i = .int .i64 k ∧ n = .int .i64 (bytesN (l.take k) : Nat) ∧ Hid (Below w.heap.size w wr)) (fun _ i _ => l.length - (intOf i).toNat)
  case atStart => exact ⟨0, Nat.zero_le _, rfl, rfl, Lib.hid (Below.refl _ _)⟩
  case round =>
    obtain ⟨k, hk, rfl, rfl, HB⟩ := hrel
    by_cases hlt : k < l.length
    · obtain ⟨p, rfl, hp, c0, c1⟩ := (hl.below HB.out) k hlt
      have HT := Lib.hid (bytes_take l k hlt)
      have HM := Lib.hid (bytes_le l (k + 1))
      have hs : l[k].1.size ≤ 1099511627776 ∧ bytesN (l.take k) ≤ 1099511627776 := by have := HT.out; have := HM.out; have := LB.out; omega
      obtain ⟨hs, hs2⟩ := hs
      clear hl
      rw [add_one] at c1
      generalize l[k] = u at *
      generalize hq : bytesN (l.take k) = q at *
      clear hq
      go_wp2
      go_roundw
      case rel => exact ⟨k + 1, hlt, by go_num, by rw [HT.out]; congr 1; push_cast; omega, HB⟩
      case measure => simp [intOf]; omega
    · obtain rfl : k = l.length := by omega
      go_wp2
      go_ret
      exact ⟨int_eq (by rw [List.take_length]), HB.out⟩
/-- May the Subs be? -/
def mayB (l : List El) (lo hi : Int) : Bool := l.all fun x => decide (lo ≤ x.2) && (decide (x.2 ≤ hi) && decide (x.1.size ≤ 255))
theorem may_take (l : List El) (lo hi : Int) (k : Nat) (h : k < l.length) : mayB (l.take (k + 1)) lo hi = (mayB (l.take k) lo hi && (decide (lo ≤ l[k].2) && (decide (l[k].2 ≤ hi) && decide (l[k].1.size ≤ 255)))) := by
  unfold mayB
  rw [List.take_succ_eq_append_getElem h, List.all_append]
  simp
theorem may_not (l : List El) (lo hi : Int) (k : Nat) (h : k < l.length) (hn : (decide (lo ≤ l[k].2) && (decide (l[k].2 ≤ hi) && decide (l[k].1.size ≤ 255))) = false) : mayB l lo hi = false := by
  unfold mayB
  rw [List.all_eq_false]
  exact ⟨l[k], List.getElem_mem h, by rw [hn]; simp⟩

set_option maxHeartbeats 1600000 in
theorem may_any (a : Option Addr) (c : Nat) (l : List El) (lo hi : Int) (w : World) (hl : SRow w a l) (ln : l.length ≤ 1048576) (lb : ∀ x ∈ l, x.1.size ≤ 1099511627776) :
    Calls Tryz.prog 37 #[.slice a l.length c, .int .i64 lo, .int .i64 hi] w fun e w' => e = .returned (.bool (mayB l lo hi)) ∧ Below w.heap.size w w' := by
  have LB := Lib.hid lb
  clear lb
  go_enter Tryz.func37, Tryz.ntmps37
  go_wp2
  go_loopw [11] (fun i wr => ∃ k : Nat, k ≤ l.length ∧ i = .int .i64 k ∧ Hid (mayB (l.take k) lo hi = true) ∧ Hid (Below w.heap.size w wr)) (fun i _ => l.length - (intOf i).toNat)
  case atStart => exact ⟨0, Nat.zero_le _, rfl, Lib.hid rfl, Lib.hid (Below.refl _ _)⟩
  case round =>
    obtain ⟨k, hk, rfl, HN, HB⟩ := hrel
    by_cases hlt : k < l.length
    · obtain ⟨p, rfl, hp, c0, c1⟩ := (hl.below HB.out) k hlt
      have HT := Lib.hid (may_take l lo hi k hlt)
      have HF := Lib.hid (may_not l lo hi k hlt)
      have hs := LB.out _ (List.getElem_mem hlt)
      have HBA := Lib.hid (fun o => HB.out.alloc HB.out.size o)
      clear hl
      rw [add_one] at c1
      generalize l[k] = u at *
      obtain ⟨s, n⟩ := u
      by_cases h1 : n < lo
      · go_wp2
        go_ret
        exact ⟨bool_eq (by symm; apply HF.out; simp; omega), HBA.out _⟩
      · by_cases h2 : hi < n
        · go_wp2
          go_ret
          exact ⟨bool_eq (by symm; apply HF.out; simp; omega), HBA.out _⟩
        · by_cases h3 : 255 < s.size
          · go_wp2
            go_ret
            exact ⟨bool_eq (by symm; apply HF.out; simp; omega), HBA.out _⟩
          · go_wp2
            go_roundw
            case rel => exact ⟨k + 1, hlt, by go_num, Lib.hid (by rw [HT.out, HN.out]; simp; omega), Lib.hid (HBA.out _)⟩
            case measure => simp [intOf]; omega
    · obtain rfl : k = l.length := by omega
      go_wp2
      go_ret
      exact ⟨bool_eq (by have := HN.out; rw [List.take_length] at this; exact this.symm), HB.out⟩

set_option maxHeartbeats 1600000 in
theorem rmay_any (a : Option Addr) (c : Nat) (l : List El) (lo hi : Int) (w : World) (hl : SRow w a l) (ln : l.length ≤ 1048576) (lb : ∀ x ∈ l, x.1.size ≤ 1099511627776) :
    Calls Tryz.prog 43 #[.slice a l.length c, .int .i64 lo, .int .i64 hi] w fun e w' => e = .returned (.bool (mayB l lo hi)) ∧ Below w.heap.size w w' := by
  have LB := Lib.hid lb
  clear lb
  go_enter Tryz.func43, Tryz.ntmps43
  go_wp2
  go_loopw [7] (fun i wr => ∃ k : Nat, k ≤ l.length ∧ i = .int .i64 k ∧ Hid (mayB (l.take k) lo hi = true) ∧ Hid (Below w.heap.size w wr)) (fun i _ => l.length - (intOf i).toNat)
  case atStart => exact ⟨0, Nat.zero_le _, rfl, Lib.hid rfl, Lib.hid (Below.refl _ _)⟩
  case round =>
    obtain ⟨k, hk, rfl, HN, HB⟩ := hrel
    by_cases hlt : k < l.length
    · obtain ⟨p, rfl, hp, c0, c1⟩ := (hl.below HB.out) k hlt
      have HT := Lib.hid (may_take l lo hi k hlt)
      have HF := Lib.hid (may_not l lo hi k hlt)
      have hs := LB.out _ (List.getElem_mem hlt)
      clear hl
      rw [add_one] at c1
      generalize l[k] = u at *
      obtain ⟨s, n⟩ := u
      by_cases h1 : n < lo
      · go_wp2
        go_ret
        exact ⟨bool_eq (by symm; apply HF.out; simp; omega), HB.out⟩
      · by_cases h2 : hi < n
        · go_wp2
          go_ret
          exact ⟨bool_eq (by symm; apply HF.out; simp; omega), HB.out⟩
        · by_cases h3 : 255 < s.size
          · go_wp2
            go_ret
            exact ⟨bool_eq (by symm; apply HF.out; simp; omega), HB.out⟩
          · go_wp2
            go_roundw
            case rel => exact ⟨k + 1, hlt, by go_num, Lib.hid (by rw [HT.out, HN.out]; simp; omega), HB⟩
            case measure => simp [intOf]; omega
    · obtain rfl : k = l.length := by omega
      go_wp2
      go_ret
      exact ⟨bool_eq (by have := HN.out; rw [List.take_length] at this; exact this.symm), HB.out⟩

end Go.Proofs.YteecialdkfaejaaGreatDoor.Cnt
namespace Go.Proofs.YteecialdkfaejaaGreatDoor.S1
open Go.ChangeShapes Go.WideShapes Go.ChangeAt Go.RowKit
open Go.Proofs.YteecialdkfaejaaGreatDoor.Ms (El)
open Go.Proofs.YteecialdkfaejaaGreatDoor.Cnt (bytesN mayB)
open Go.Proofs.YteecialdkfaejaaGreatDoor.F1 (enc1 encT ok1 okT outT placed cut1 encT_nil encT_cons encT_snoc enc1_len okT_nil okT_snoc okT_cons out_yes out_no out_cases size_of len_le placed_len)
set_option linter.unusedVariables false
set_option maxRecDepth 100000
set_option maxRecDepth 100000

/-- Is it kept? -/
def keepB (x : El) : Bool := decide (2 ≤ x.2) && decide (x.2 ≤ 127)
/-- Those that are kept. -/
def keep (l : List El) : List El := l.filter keepB
/-- Need none be known? -/
def knownB (l : List El) : Bool := l.all fun x => decide (x.2 ≤ 127)
/-- May the Subs be? -/
def okS (l : List El) : Bool := mayB l 2 127 && decide (bytesN l ≤ 200)
/-- Their bytes; none. -/
def putS (l : List El) : ByteArray := if okS l then ⟨(encT l).toArray⟩ else ⟨#[]⟩
theorem putS_yes {l : List El} (h : okS l = true) : putS l = ⟨(encT l).toArray⟩ := by unfold putS; rw [if_pos h]
theorem may_mem {l : List El} {lo hi : Int} (h : mayB l lo hi = true) : ∀ x ∈ l, lo ≤ x.2 ∧ x.2 ≤ hi ∧ x.1.size ≤ 255 := by
  unfold mayB at h
  rw [List.all_eq_true] at h
  intro x hx
  simpa using h x hx
theorem may_of {l : List El} {lo hi : Int} (h : ∀ x ∈ l, lo ≤ x.2 ∧ x.2 ≤ hi ∧ x.1.size ≤ 255) : mayB l lo hi = true := by
  unfold mayB
  rw [List.all_eq_true]
  intro x hx
  simpa using h x hx
theorem okS_may {l : List El} (h : okS l = true) : mayB l 2 127 = true := by unfold okS at h; rw [Bool.and_eq_true] at h; exact h.1
theorem okS_size {l : List El} (h : okS l = true) : bytesN l ≤ 200 := by unfold okS at h; rw [Bool.and_eq_true, decide_eq_true_eq] at h; exact h.2
theorem okS_of {l : List El} (h : mayB l 2 127 = true) (h2 : bytesN l ≤ 200) : okS l = true := by unfold okS; rw [h, decide_eq_true h2]; rfl
theorem bytesN_cons (x : El) (l : List El) : bytesN (x :: l) = 2 + x.1.size + bytesN l := by simp [bytesN]
theorem bytesN_len (l : List El) : 2 * l.length ≤ bytesN l := by
  induction l with
  | nil => exact Nat.le_refl _
  | cons x l ih => rw [bytesN_cons, List.length_cons]; omega
theorem bytesN_most {l : List El} {lo hi : Int} (h : mayB l lo hi = true) : bytesN l ≤ 257 * l.length := by
  have hm := may_mem h
  clear h
  induction l with
  | nil => exact Nat.le_refl _
  | cons x l ih =>
    have := ih (fun y hy => hm y (by simp [hy]))
    have := (hm x (by simp)).2.2
    rw [bytesN_cons, List.length_cons]; omega
theorem keep_may {l : List El} (h : okT l) : mayB (keep l) 2 127 = true := may_of fun x hx => by
  obtain ⟨h1, h2⟩ := List.mem_filter.1 hx
  unfold keepB at h2
  rw [Bool.and_eq_true, decide_eq_true_eq, decide_eq_true_eq] at h2
  exact ⟨h2.1, h2.2, (h x h1).2.2.1⟩
theorem keep_append (a b : List El) : keep (a ++ b) = keep a ++ keep b := List.filter_append ..
theorem keep_yes {x : El} (h : keepB x = true) (l : List El) : keep (l ++ [x]) = keep l ++ [x] := by rw [keep_append]; unfold keep; simp [h]
theorem keep_no {x : El} (h : keepB x = false) (l : List El) : keep (l ++ [x]) = keep l := by rw [keep_append]; unfold keep; simp [h]
theorem known_append (a b : List El) : knownB (a ++ b) = (knownB a && knownB b) := List.all_append ..
theorem known_one (x : El) : knownB [x] = decide (x.2 ≤ 127) := by unfold knownB; simp
theorem known_snoc (l : List El) (x : El) : knownB (l ++ [x]) = (knownB l && decide (x.2 ≤ 127)) := by rw [known_append, known_one]
theorem enc_len {l : List El} (h : mayB l 2 127 = true) : (encT l).length = bytesN l := by
  have hm := may_mem h
  clear h
  induction l with
  | nil => rfl
  | cons x l ih =>
    have h1 := hm x (by simp)
    rw [encT_cons, List.length_append, enc1_len, if_neg (by omega), ih (fun y hy => hm y (by simp [hy])), bytesN_cons]
theorem keep_size (l : List El) : bytesN (keep l) ≤ (encT l).length := by
  induction l with
  | nil => exact Nat.le_refl _
  | cons x l ih =>
    rw [encT_cons, List.length_append, enc1_len]
    unfold keep at *
    rw [List.filter_cons]
    cases hk : keepB x
    · simp only [Bool.false_eq_true, if_false]
      split <;> omega
    · have : ¬ x.2 = 0 := by unfold keepB at hk; simp at hk; omega
      rw [if_pos rfl, bytesN_cons, if_neg this]
      omega
theorem keep_len (l : List El) : (keep l).length ≤ l.length := List.length_filter_le ..
theorem okS_mem {l : List El} (h : okS l = true) : ∀ x ∈ l, x.1.size ≤ 1099511627776 := fun x hx => by
  have := (may_mem (okS_may h) x hx).2.2
  omega
theorem okS_len {l : List El} (h : okS l = true) : l.length ≤ 100 := by
  have := okS_size h
  have := bytesN_len l
  omega
theorem putS_size {l : List El} (h : okS l = true) : (putS l).size = bytesN l := by
  rw [putS_yes h, ← enc_len (okS_may h)]
  exact List.size_toArray ..
/-- Those that are kept, whether none must be known, and the error. -/
noncomputable def outS (s : ByteArray) : List El × Bool × Int :=
  if (outT 0 s).2.2 = 0 then (if bytesN (keep ((outT 0 s).1.map Prod.snd)) ≤ 200 then (keep ((outT 0 s).1.map Prod.snd), knownB ((outT 0 s).1.map Prod.snd), 0) else ([], false, 10)) else ([], false, (outT 0 s).2.2)
theorem placed_snd : ∀ (l : List El) (p : Int), (placed p l).map Prod.snd = l
  | [], _ => rfl
  | x :: l, p => by rw [placed, List.map_cons, placed_snd]
theorem outS_of {s : ByteArray} {l : List El} (h : outT 0 s = (placed 0 l, 0, 0)) : outS s = if bytesN (keep l) ≤ 200 then (keep l, knownB l, 0) else ([], false, 10) := by
  unfold outS
  rw [h, placed_snd, if_pos rfl]
theorem outS_bad {s : ByteArray} {p : Int} (h : outT 0 s = ([], p, 2)) : outS s = ([], false, 2) := by
  unfold outS
  rw [h, if_neg (show ¬ (2 : Int) = 0 by decide)]
theorem outS_yes {s : ByteArray} {l : List El} (ho : okT l) (hs : s.data.toList = encT l) (hb : bytesN (keep l) ≤ 200) : outS s = (keep l, knownB l, 0) := by
  rw [outS_of (out_yes ho hs), if_pos hb]
theorem outS_cases (s : ByteArray) : (∃ l, okT l ∧ s.data.toList = encT l ∧ outT 0 s = (placed 0 l, 0, 0) ∧ ((bytesN (keep l) ≤ 200 ∧ outS s = (keep l, knownB l, 0)) ∨ (200 < bytesN (keep l) ∧ outS s = ([], false, 10)))) ∨
    ∃ p, outT 0 s = ([], p, 2) ∧ outS s = ([], false, 2) := by
  rcases out_cases 0 s with ⟨l, ho, hs, e⟩ | ⟨l, r, _, _, _, _, e⟩
  · refine .inl ⟨l, ho, hs, e, ?_⟩
    by_cases hb : bytesN (keep l) ≤ 200
    · exact .inl ⟨hb, outS_yes ho hs hb⟩
    · exact .inr ⟨by omega, by rw [outS_of e, if_neg hb]⟩
  · exact .inr ⟨_, e, outS_bad e⟩
/-- What is told of bytes may be, and has no more of them. -/
theorem outS_ok (s : ByteArray) : okS (outS s).1 = true ∧ (putS (outS s).1).size ≤ s.size := by
  rcases outS_cases s with ⟨l, ho, hs, _, ⟨hb, e⟩ | ⟨_, e⟩⟩ | ⟨p, _, e⟩
  · rw [e]
    have hk := okS_of (keep_may ho) hb
    refine ⟨hk, ?_⟩
    rw [putS_size hk, size_of hs]
    exact keep_size l
  · rw [e]; exact ⟨rfl, by rw [putS_yes rfl]; exact Nat.zero_le _⟩
  · rw [e]; exact ⟨rfl, by rw [putS_yes rfl]; exact Nat.zero_le _⟩
end Go.Proofs.YteecialdkfaejaaGreatDoor.S1
namespace Go.Proofs.YteecialdkfaejaaGreatDoor.Lk
open Go.ChangeShapes Go.WideShapes Go.ChangeAt Go.RowKit
open Go.Proofs.YteecialdkfaejaaGreatDoor.Nu (text_eq)
set_option linter.unusedVariables false
set_option maxRecDepth 100000
set_option maxRecDepth 100000

theorem below_drewN {B : Nat} {a w : World} (h : Below B a w) (n : Nat) : Below B a (w.drewN n) := ⟨h.os, h.tape, h.output, h.size, h.block⟩
theorem bool_eq {a b : Bool} (h : a = b) : Ending.returned (.bool a) = .returned (.bool b) := by rw [h]
def lkH : ByteArray := ⟨#[254, 128, 0, 0, 0, 0, 0, 0]⟩
def lkB (s : ByteArray) : Bool := (s.extract 0 8).toList == [254, 128, 0, 0, 0, 0, 0, 0]
def link (s : ByteArray) : Bool := decide (s.size = 16) && lkB s
theorem link_yes {s : ByteArray} (h : s.size = 16) : link s = lkB s := by unfold link; rw [decide_eq_true h]; rfl
theorem link_no {s : ByteArray} (h : s.size ≠ 16) : link s = false := by unfold link; rw [decide_eq_false h]; rfl
/-- The short form, the long one. -/
def shA (a : ByteArray) : ByteArray := if link a then a.extract 8 a.size else ⟨#[]⟩
def lgO (a : ByteArray) : Bool := decide (a.size = 8)
def lgA (a : ByteArray) : ByteArray := if a.size = 8 then lkH ++ a else ⟨#[]⟩
theorem link_size {a : ByteArray} (h : link a = true) : a.size = 16 := by unfold link at h; simp at h; exact h.1
theorem sh_yes {a : ByteArray} (h : link a = true) : shA a = a.extract 8 a.size := by unfold shA; rw [if_pos h]
theorem link_lg {s : ByteArray} (h : s.size = 8) : link (lgA s) = true ∧ shA (lgA s) = s := by
  have e : lgA s = lkH ++ s := by unfold lgA; rw [if_pos h]
  have hz : (lkH ++ s).size = 16 := by rw [ByteArray.size_append, h]; rfl
  have h1 : link (lkH ++ s) = true := by
    rw [link_yes hz]
    unfold lkB
    rw [show (lkH ++ s).extract 0 8 = lkH from ByteArray.extract_append_eq_left rfl]
    rw [ByteArray.toList_eq]
    rfl
  rw [e]
  refine ⟨h1, ?_⟩
  rw [sh_yes h1]
  exact ByteArray.extract_append_eq_right rfl (by rw [ByteArray.size_append])

/- What the library's HasPrefix answers of sixteen bytes. -/
theorem lite_any (s : ByteArray) (h : s.size = 16) (w : World) :
    Calls Tryz.prog 79 #[.string s, .string ⟨#[254, 128, 0, 0, 0, 0, 0, 0]⟩] w fun e w' => e = .returned (.bool (lkB s)) ∧ w' = w := by
  unfold lkB
  go_enter Tryz.func79, Tryz.ntmps79
  go_wp2
  go_ret
  exact ⟨rfl, rfl⟩
theorem pre_any (s : ByteArray) (h : s.size = 16) (w : World) :
    Calls Tryz.prog 59 #[.string s, .string ⟨#[254, 128, 0, 0, 0, 0, 0, 0]⟩] w fun e w' => e = .returned (.bool (lkB s)) ∧ w' = w := by
  have P1 := Lib.hid (fun w => lite_any s h w)
  go_enter Tryz.func59, Tryz.ntmps59
  go_wp2_with fail
  refine (P1.out _).mono ?_
  rintro e w' ⟨rfl, rfl⟩
  go_wp2
  go_ret
  exact ⟨rfl, rfl⟩
theorem family_yes (s : ByteArray) (h : s.size = 16) (w : World) :
    Calls Tryz.prog 16 #[.string s] w fun e w' => e = .returned (.int .i64 1) ∧ w' = w := by
  have e0 : ((s.size : Int) == 4) = false := by rw [beq_eq_false_iff_ne]; omega
  have e1 : ((s.size : Int) == 16) = true := by rw [beq_iff_eq]; omega
  clear h
  go_enter Tryz.func16, Tryz.ntmps16
  go_wp2
  go_ret
  exact ⟨rfl, rfl⟩
theorem family_no (s : ByteArray) (h : s.size ≠ 16) (w : World) :
    Calls Tryz.prog 16 #[.string s] w fun e w' => (e = .returned (.int .i64 0) ∨ e = .returned (.int .i64 (-1))) ∧ w' = w := by
  have e1 : ((s.size : Int) == 16) = false := by rw [beq_eq_false_iff_ne]; omega
  by_cases h4 : s.size = 4
  · have e0 : ((s.size : Int) == 4) = true := by rw [beq_iff_eq]; omega
    clear h h4
    go_enter Tryz.func16, Tryz.ntmps16
    go_wp2
    go_ret
    exact ⟨.inl rfl, rfl⟩
  · have e0 : ((s.size : Int) == 4) = false := by rw [beq_eq_false_iff_ne]; omega
    clear h h4
    go_enter Tryz.func16, Tryz.ntmps16
    go_wp2
    go_ret
    exact ⟨.inr rfl, rfl⟩
theorem link_any (s : ByteArray) (w : World) :
    Calls Tryz.prog 33 #[.string s] w fun e w' => e = .returned (.bool (link s)) ∧ w' = w := by
  by_cases h : s.size = 16
  · rw [link_yes h]
    have P1 := Lib.hid (fun w => family_yes s h w)
    have P2 := Lib.hid (fun w => pre_any s h w)
    clear h
    generalize lkB s = x at *
    go_enter Tryz.func33, Tryz.ntmps33
    go_wp2_with fail
    refine (P1.out _).mono ?_
    rintro e w' ⟨rfl, rfl⟩
    go_wp2_with fail
    refine (P2.out _).mono ?_
    rintro e w' ⟨rfl, rfl⟩
    go_wp2
    go_ret
    exact ⟨rfl, rfl⟩
  · rw [link_no h]
    have P1 := Lib.hid (fun w => family_no s h w)
    clear h
    go_enter Tryz.func33, Tryz.ntmps33
    go_wp2_with fail
    refine (P1.out _).mono ?_
    rintro e w' ⟨rfl | rfl, rfl⟩
    all_goals
      go_wp2
      go_ret
      exact ⟨rfl, rfl⟩
theorem rl_any (w : World) : Calls Tryz.prog 34 #[] w fun e w' => e = .returned (.string lkH) ∧ w' = w := by
  go_enter Tryz.func34, Tryz.ntmps34
  go_wp2
  go_ret
  exact ⟨rfl, rfl⟩
theorem lkB_eq (s : ByteArray) : ((s.extract 0 8).toList == lkH.toList) = lkB s := by
  unfold lkB
  rw [show lkH.toList = [254, 128, 0, 0, 0, 0, 0, 0] by rw [ByteArray.toList_eq]; rfl]
theorem rlink_any (s : ByteArray) (w : World) :
    Calls Tryz.prog 17 #[.string s] w fun e w' => e = .returned (.bool (link s)) ∧ ∃ n, w' = w.drewN n := by
  by_cases h6 : s.size = 16
  · have hs : (8 : Int) ≤ (s.size : Int) := by omega
    have e1 : ((s.size : Int) == 16) = true := by rw [beq_iff_eq]; omega
    have HH := Lib.hid (link_yes h6)
    have HP := Lib.hid (lkB_eq s)
    clear h6
    go_enter Tryz.func17, Tryz.ntmps17
    go_wp2
    go_quiet ((go_at_call 34; exact Calls.quiet_of_same (rl_any _)))
    go_wp2
    go_ret
    refine ⟨bool_eq ?_, _, rfl⟩
    rw [HP.out]
    exact HH.out.symm
  · have e : link s = false := link_no h6
    have e1 : ((s.size : Int) == 16) = false := by rw [beq_eq_false_iff_ne]; omega
    rw [e]
    clear h6 e
    go_enter Tryz.func17, Tryz.ntmps17
    go_wp2
    go_quiet ((go_at_call 34; exact Calls.quiet_of_same (rl_any _)))
    go_wp2
    go_ret
    exact ⟨rfl, _, rfl⟩
theorem rlink_bel (s : ByteArray) (w : World) :
    Calls Tryz.prog 17 #[.string s] w fun e w' => e = .returned (.bool (link s)) ∧ Below w.heap.size w w' := by
  refine (rlink_any s w).mono ?_
  rintro e w' ⟨rfl, n, rfl⟩
  exact ⟨rfl, below_drewN (Below.refl _ _) n⟩
theorem short_any (a : ByteArray) (w : World) :
    Calls Tryz.prog 101 #[.string a] w fun e w' => e = .returned (.tuple #[.string (shA a), .bool (link a)]) ∧ w = w' := by
  have P1 := Lib.hid (fun w => link_any a w)
  cases hl : link a with
  | false =>
    have e : shA a = ⟨#[]⟩ := by unfold shA; rw [hl]; rfl
    rw [e]
    rw [hl] at P1
    clear hl e
    go_enter Tryz.func101, Tryz.ntmps101
    go_wp2_with fail
    refine (P1.out _).mono ?_
    rintro e w' ⟨rfl, rfl⟩
    go_wp2
    go_ret2
    exact ⟨rfl, rfl⟩
  | true =>
    have e : shA a = a.extract 8 a.size := sh_yes hl
    have hs : (8 : Int) ≤ (a.size : Int) := by have := link_size hl; omega
    rw [e]
    rw [hl] at P1
    clear hl e
    go_enter Tryz.func101, Tryz.ntmps101
    go_wp2_with fail
    refine (P1.out _).mono ?_
    rintro e w' ⟨rfl, rfl⟩
    go_wp2
    go_ret2
    exact ⟨rfl, rfl⟩
theorem long_any (a : ByteArray) (w : World) :
    Calls Tryz.prog 83 #[.string a] w fun e w' => e = .returned (.tuple #[.string (lgA a), .bool (lgO a)]) ∧ w = w' := by
  by_cases h : a.size = 8
  · have e1 : lgA a = lkH ++ a := if_pos h
    have e2 : lgO a = true := decide_eq_true h
    have hne : ((a.size : Int) != 8) = false := by rw [h]; rfl
    rw [e1, e2]
    clear e1 e2
    go_enter Tryz.func83, Tryz.ntmps83
    go_wp2
    go_ret2
    exact ⟨rfl, rfl⟩
  · have e1 : lgA a = ⟨#[]⟩ := if_neg h
    have e2 : lgO a = false := decide_eq_false h
    have hne : ((a.size : Int) != 8) = true := by rw [bne_iff_ne]; omega
    rw [e1, e2]
    clear e1 e2
    go_enter Tryz.func83, Tryz.ntmps83
    go_wp2
    go_ret2
    exact ⟨rfl, rfl⟩
theorem rlong_any (a : ByteArray) (w : World) :
    Calls Tryz.prog 52 #[.string a] w fun e w' => e = .returned (.tuple #[.string (lgA a), .bool (lgO a)]) ∧ Below w.heap.size w w' := by
  by_cases h : a.size = 8
  · have e1 : lgA a = lkH ++ a := if_pos h
    have e2 : lgO a = true := decide_eq_true h
    have hne : ((a.size : Int) != 8) = false := by rw [h]; rfl
    rw [e1, e2]
    clear e1 e2
    go_enter Tryz.func52, Tryz.ntmps52
    go_wp2
    go_ret2
    exact ⟨rfl, Below.refl _ _⟩
  · have e1 : lgA a = ⟨#[]⟩ := if_neg h
    have e2 : lgO a = false := decide_eq_false h
    have hne : ((a.size : Int) != 8) = true := by rw [bne_iff_ne]; omega
    rw [e1, e2]
    clear e1 e2
    go_enter Tryz.func52, Tryz.ntmps52
    go_wp2
    go_ret2
    exact ⟨rfl, Below.refl _ _⟩
end Go.Proofs.YteecialdkfaejaaGreatDoor.Lk
namespace Go.Proofs.YteecialdkfaejaaGreatDoor.Own
open Go.ChangeShapes Go.WideShapes Go.ChangeAt Go.RowKit
open Go.Proofs.YteecialdkfaejaaGreatDoor.Ms
open Go.Proofs.YteecialdkfaejaaGreatDoor.Box
open Go.Proofs.YteecialdkfaejaaGreatDoor.Same
open Go.Proofs.YteecialdkfaejaaGreatDoor.Or
set_option linter.unusedVariables false
set_option maxRecDepth 100000

def k1 (m : M) : M := { M.zero with cmd := m.cmd, ver := m.ver, auth := m.auth, family := m.family, tag := m.tag, pfx := m.pfx, plen := m.plen, next := m.next, metric := m.metric }
def k2 (m : M) : M := { M.zero with cmd := m.cmd, tag := m.tag, pfx := m.pfx, plen := m.plen, next := m.next, metric := m.metric }
def k3 (m : M) : M := { M.zero with flags := m.flags, hops := m.hops, nonce := m.nonce, addr := m.addr, seq := m.seq, orig := m.orig, seq2 := m.seq2, sa := m.sa, sl := m.sl, sc := m.sc }
def k4 (m : M) : M := { M.zero with flags := m.flags, plen := m.plen, hops := m.hops, addr := m.addr, seq := m.seq, orig := m.orig, interval := m.interval, sa := m.sa, sl := m.sl, sc := m.sc }
def k5 (m : M) : M := { M.zero with flags := m.flags, la := m.la, ll := m.ll, lc := m.lc, sa := m.sa, sl := m.sl, sc := m.sc }
def k6 (m : M) : M := { M.zero with sa := m.sa, sl := m.sl, sc := m.sc }
def k7 (m : M) : M := { M.zero with nonce := m.nonce, interval := m.interval, sa := m.sa, sl := m.sl, sc := m.sc }
def k8 (m : M) : M := { M.zero with nonce := m.nonce, sa := m.sa, sl := m.sl, sc := m.sc }
def k9 (m : M) : M := { M.zero with flags := m.flags, seq := m.seq, interval := m.interval, sa := m.sa, sl := m.sl, sc := m.sc }
def k10 (m : M) : M := { M.zero with ae := m.ae, cost := m.cost, interval := m.interval, addr := m.addr, sa := m.sa, sl := m.sl, sc := m.sc }
def k11 (m : M) : M := { M.zero with ae := m.ae, pfx := m.pfx, plen := m.plen, interval := m.interval, seq := m.seq, metric := m.metric, id := m.id, next := m.next, sa := m.sa, sl := m.sl, sc := m.sc }
def k12 (m : M) : M := { M.zero with ae := m.ae, pfx := m.pfx, plen := m.plen, sa := m.sa, sl := m.sl, sc := m.sc }
def k13 (m : M) : M := { M.zero with ae := m.ae, pfx := m.pfx, plen := m.plen, seq := m.seq, hops := m.hops, id := m.id, sa := m.sa, sl := m.sl, sc := m.sc }
def k14 (m : M) : M := { M.zero with typ := m.typ, data := m.data }
/-- The fields that it has by its kind, without the kind. -/
def fieldsOf (m : M) : M := if m.kind = 1 then k1 m else if m.kind = 2 then k2 m else if m.kind = 3 then k3 m else if m.kind = 4 then k4 m else if m.kind = 5 then k5 m else if m.kind = 6 then k6 m else if m.kind = 7 then k7 m else if m.kind = 8 then k8 m else if m.kind = 9 then k9 m else if m.kind = 10 then k10 m else if m.kind = 11 then k11 m else if m.kind = 12 then k12 m else if m.kind = 13 then k13 m else if m.kind = 14 then k14 m else M.zero
def isKind (m : M) : Bool := decide (1 ≤ m.kind ∧ m.kind ≤ 14)
def ownM (m : M) : M := if isKind m then { fieldsOf m with kind := m.kind } else M.zero

theorem results_pair {fn : Func} {p q : Nat} {ty : TypeId} (h : fn.results = #[.cell p ty, .tmp q]) {P : Program} (tmps : Array Value) (w : World) (g : Nat) (u : Value)
    (hp : tmps.getD p undef = .pointer (some ⟨g, 0, none⟩)) (hl : (loadVar ty ⟨g, 0, none⟩).run P w = .ok u w) (v : Value) (hv : tmps.getD q undef = v) :
    (results fn tmps).run P w = .ok (.tuple #[u, v]) w := by
  have hp' : tmps[p]?.getD undef = .pointer (some ⟨g, 0, none⟩) := by simpa using hp
  have hv' : tmps[q]?.getD undef = v := by simpa using hv
  simp [results, h, hp', hv', asAddr, hl]
theorem loadVarM {w : World} {b : Nat} {m : M} (h : Bx w b m) : (loadVar 31 ⟨b, 0, none⟩).run Tryz.prog w = .ok (.agg m.cells) w :=
  run_loadVar_row w b 31 31 m.cells (0, 0) _ h Tryz.underlying31 rfl infoM

/-- Three variables: the message, and two without anything. -/
theorem start3 (w : World) (m : M) : Bx (((w.alloc (.cells m.cells 31)).alloc (.cells M.zero.cells 31)).alloc (.cells M.zero.cells 31)) w.heap.size m ∧
    Bx (((w.alloc (.cells m.cells 31)).alloc (.cells M.zero.cells 31)).alloc (.cells M.zero.cells 31)) (w.heap.size + 1) M.zero ∧
    Bx (((w.alloc (.cells m.cells 31)).alloc (.cells M.zero.cells 31)).alloc (.cells M.zero.cells 31)) (w.heap.size + 1 + 1) M.zero ∧
    Below w.heap.size w (((w.alloc (.cells m.cells 31)).alloc (.cells M.zero.cells 31)).alloc (.cells M.zero.cells 31)) := by
  refine ⟨((Bx.new w m).old _).old _, ?_, ?_, balloc (balloc (balloc (Below.refl _ _) _) _) _⟩
  · have := (Bx.new (w.alloc (.cells m.cells 31)) M.zero).old (.cells M.zero.cells 31)
    rwa [alloc_size] at this
  · have := Bx.new ((w.alloc (.cells m.cells 31)).alloc (.cells M.zero.cells 31)) M.zero
    rwa [alloc_size, alloc_size] at this

end Go.Proofs.YteecialdkfaejaaGreatDoor.Own
namespace Go.Proofs.YteecialdkfaejaaGreatDoor.Bits
set_option linter.unusedVariables false
set_option maxRecDepth 100000

/-- the i-th bit of a byte's number, the highest first -/
def bitN (b p : Nat) : Bool := b.testBit (7 - p)

theorem bitN_eq (b p : Nat) : bitN b p = (b / 2 ^ (7 - p) % 2 == 1) := by
  unfold bitN
  rw [Nat.testBit_eq_decide_div_mod_eq]
  by_cases h : b / 2 ^ (7 - p) % 2 = 1 <;> simp [h]

theorem getD_in (l : List UInt8) (k : Nat) (h : k < l.length) : l.getD k 0 = l[k] := by simp [List.getD, h]
theorem getD_out (l : List UInt8) (k : Nat) (h : l.length ≤ k) : l.getD k 0 = 0 := by simp [List.getD, h]

def bitL (l : List UInt8) (i : Nat) : Bool := bitN (l.getD (i / 8) 0).toNat (i % 8)

theorem bitL_out (l : List UInt8) (i : Nat) (h : 8 * l.length ≤ i) : bitL l i = false := by
  unfold bitL
  rw [getD_out _ _ (by omega)]
  simp [bitN]

/-- the first m bits of a byte's number -/
def mask (b m : Nat) : Nat := (b >>> (8 - m)) <<< (8 - m)

theorem mask_eq (b m : Nat) : mask b m = b / 2 ^ (8 - m) * 2 ^ (8 - m) := by
  unfold mask; rw [Nat.shiftLeft_eq, Nat.shiftRight_eq_div_pow]

theorem mask_le (b m : Nat) : mask b m ≤ b := by rw [mask_eq]; exact Nat.div_mul_le_self _ _

theorem mask_all (b m : Nat) (h : 8 ≤ m) : mask b m = b := by
  rw [mask_eq, show 8 - m = 0 by omega]; simp

theorem mask_none (b : Nat) (h : b < 256) : mask b 0 = 0 := by
  rw [mask_eq]; omega

theorem bitN_mask (b m p : Nat) (hp : p < 8) : bitN (mask b m) p = (decide (p < m) && bitN b p) := by
  unfold bitN mask
  rw [Nat.testBit_shiftLeft, Nat.testBit_shiftRight]
  by_cases h : p < m
  · have e : 7 - p ≥ 8 - m := by omega
    simp [h, e]
  · have e : ¬ 7 - p ≥ 8 - m := by omega
    simp [h, e]

/-- a number below 256 is its eight bits -/
theorem byte_ext {a b : Nat} (ha : a < 256) (hb : b < 256) (h : ∀ p, p < 8 → bitN a p = bitN b p) : a = b := by
  apply Nat.eq_of_testBit_eq
  intro j
  by_cases hj : j < 8
  · have := h (7 - j) (by omega)
    unfold bitN at this
    rw [show 7 - (7 - j) = j by omega] at this
    exact this
  · rw [Nat.testBit_lt_two_pow (Nat.lt_of_lt_of_le ha (show 256 ≤ 2 ^ j from Nat.pow_le_pow_right (n := 2) (by decide) (show 8 ≤ j by omega))),
      Nat.testBit_lt_two_pow (Nat.lt_of_lt_of_le hb (show 256 ≤ 2 ^ j from Nat.pow_le_pow_right (n := 2) (by decide) (show 8 ≤ j by omega)))]

theorem list_ext {a b : List UInt8} (hl : a.length = b.length) (h : ∀ i, i < 8 * a.length → bitL a i = bitL b i) : a = b := by
  apply List.ext_getElem hl
  intro k h1 h2
  apply UInt8.toNat_inj.1
  apply byte_ext (UInt8.toNat_lt _) (UInt8.toNat_lt _)
  intro p hp
  have := h (8 * k + p) (by omega)
  unfold bitL at this
  rw [show (8 * k + p) / 8 = k by omega, show (8 * k + p) % 8 = p by omega] at this
  rw [getD_in _ _ h1, getD_in _ _ h2] at this
  exact this

/-- the first n bits as they are, all others 0 -/
def keepL (l : List UInt8) (n : Nat) : List UInt8 := l.mapIdx fun j b => UInt8.ofNat (mask b.toNat (n - 8 * j))

theorem keepL_length (l : List UInt8) (n : Nat) : (keepL l n).length = l.length := by simp [keepL]

theorem ofNat_mask (b : UInt8) (m : Nat) : (UInt8.ofNat (mask b.toNat m)).toNat = mask b.toNat m := by
  have h := mask_le b.toNat m
  have := UInt8.toNat_lt b
  rw [UInt8.toNat_ofNat']
  omega

theorem keepL_get (l : List UInt8) (n j : Nat) (h : j < (keepL l n).length) : ((keepL l n)[j]).toNat = mask (l[j]'(by simpa [keepL_length] using h)).toNat (n - 8 * j) := by
  simp only [keepL, List.getElem_mapIdx]
  exact ofNat_mask _ _

theorem bitL_keep (l : List UInt8) (n i : Nat) : bitL (keepL l n) i = (decide (i < n) && bitL l i) := by
  by_cases h : i < 8 * l.length
  · unfold bitL
    rw [getD_in _ _ (show i / 8 < (keepL l n).length by rw [keepL_length]; omega), getD_in _ _ (show i / 8 < l.length by omega), keepL_get, bitN_mask _ _ _ (by omega)]
    congr 1
    by_cases hn : i < n
    · simp [hn]; omega
    · simp [hn]; omega
  · rw [bitL_out _ _ (by rw [keepL_length]; omega), bitL_out l i (by omega)]; simp

theorem keepL_keep (l : List UInt8) (n m : Nat) : keepL (keepL l n) m = keepL l (min n m) := by
  apply list_ext (by simp [keepL_length])
  intro i _
  rw [bitL_keep, bitL_keep, bitL_keep, ← Bool.and_assoc]
  congr 1
  by_cases h1 : i < n <;> by_cases h2 : i < m <;> simp [h1, h2] <;> omega

theorem keepL_all (l : List UInt8) (n : Nat) (h : 8 * l.length ≤ n) : keepL l n = l := by
  apply list_ext (by simp [keepL_length])
  intro i hi
  rw [keepL_length] at hi
  rw [bitL_keep]
  simp; omega

theorem keepL_none (l : List UInt8) : keepL l 0 = List.replicate l.length 0 := by
  apply List.ext_getElem (by simp [keepL_length])
  intro k h1 h2
  apply UInt8.toNat_inj.1
  rw [keepL_get, List.getElem_replicate]
  simp [mask_none _ (UInt8.toNat_lt _)]

theorem keepL_min (l : List UInt8) (n : Nat) : keepL l (min n (8 * l.length)) = keepL l n := by
  apply list_ext (by simp [keepL_length])
  intro i hi
  rw [keepL_length] at hi
  rw [bitL_keep, bitL_keep]
  congr 1
  by_cases h : i < n <;> simp [h] <;> omega

/-- the row where one bit more is kept -/
theorem keepL_set (l : List UInt8) (i : Nat) (h : i < 8 * l.length) :
    keepL l (i + 1) = (keepL l i).set (i / 8) (UInt8.ofNat (mask (l[i / 8]'(by omega)).toNat (i % 8 + 1))) := by
  apply List.ext_getElem (by simp [keepL_length])
  intro k h1 h2
  rw [List.getElem_set]
  have hk : k < l.length := by simpa [keepL_length] using h1
  split
  · rename_i e
    subst e
    apply UInt8.toNat_inj.1
    rw [keepL_get, ofNat_mask]
    congr 1
    omega
  · rename_i e
    apply UInt8.toNat_inj.1
    rw [keepL_get, keepL_get]
    by_cases hlt : k < i / 8
    · rw [mask_all _ _ (by omega), mask_all _ _ (by omega)]
    · rw [show i + 1 - 8 * k = 0 by omega, show i - 8 * k = 0 by omega]

theorem mask_next (b p : Nat) (hb : b < 256) (hp : p < 8) : mask b (p + 1) = mask b p + (if bitN b p = true then 2 ^ (7 - p) else 0) := by
  rw [mask_eq, mask_eq, bitN_eq]
  have : p = 0 ∨ p = 1 ∨ p = 2 ∨ p = 3 ∨ p = 4 ∨ p = 5 ∨ p = 6 ∨ p = 7 := by omega
  rcases this with rfl | rfl | rfl | rfl | rfl | rfl | rfl | rfl <;> simp <;> split <;> omega

/-- the row that a copy and one masked byte make -/
theorem keepL_parts (l : List UInt8) (n : Nat) (h : n ≤ 8 * l.length) :
    keepL l n = if n % 8 = 0 then l.take (n / 8) ++ List.replicate (l.length - n / 8) 0
      else (l.take (n / 8) ++ List.replicate (l.length - n / 8) 0).set (n / 8) (UInt8.ofNat (mask (l.getD (n / 8) 0).toNat (n % 8))) := by
  have hbase : ∀ k (h1 : k < l.length), k ≠ n / 8 ∨ n % 8 = 0 → (keepL l n)[k]'(by simpa [keepL_length] using h1) = (l.take (n / 8) ++ List.replicate (l.length - n / 8) 0)[k]'(by simp; omega) := by
    intro k hk hc
    apply UInt8.toNat_inj.1
    rw [keepL_get, List.getElem_append]
    split
    · rename_i hlt
      simp at hlt
      rw [mask_all _ _ (by omega), List.getElem_take]
    · rename_i hlt
      simp at hlt
      rw [show n - 8 * k = 0 by omega, mask_none _ (UInt8.toNat_lt _), List.getElem_replicate]
      rfl
  have hlen : (l.take (n / 8) ++ List.replicate (l.length - n / 8) (0 : UInt8)).length = l.length := by simp; omega
  split
  · rename_i h0
    apply List.ext_getElem (by rw [hlen, keepL_length])
    intro k h1 h2
    rw [keepL_length] at h1
    exact hbase k h1 (.inr h0)
  · rename_i h0
    apply List.ext_getElem (by rw [List.length_set, hlen, keepL_length])
    intro k h1 h2
    rw [keepL_length] at h1
    rw [List.getElem_set]
    split
    · rename_i e
      subst e
      apply UInt8.toNat_inj.1
      rw [keepL_get, ofNat_mask, getD_in _ _ h1]
      congr 1
      omega
    · rename_i e
      exact hbase k h1 (.inl fun he => e he.symm)
end Go.Proofs.YteecialdkfaejaaGreatDoor.Bits
namespace Go.Proofs.YteecialdkfaejaaGreatDoor.Bits
open Go.ChangeShapes Go.WideShapes Go.ChangeAt Go.RowKit
set_option linter.unusedVariables false
set_option maxRecDepth 100000

theorem bool_eq {a b : Bool} (h : a = b) : Ending.returned (.bool a) = .returned (.bool b) := by rw [h]
theorem int_eq {k : IntKind} {a b : Int} (h : a = b) : Ending.returned (.int k a) = .returned (.int k b) := by rw [h]

/-- the i-th bit of a text, false if there is none -/
def bitZ (s : ByteArray) (i : Int) : Bool := decide (0 ≤ i) && bitL s.data.toList i.toNat

theorem len_list (s : ByteArray) : s.data.toList.length = s.size := by simp
theorem getD_byte (s : ByteArray) (k : Nat) (h : k < s.size) : s.data.toList.getD k 0 = s[k] := by
  rw [getD_in _ _ (by simpa using h)]; rfl

theorem bitZ_in (s : ByteArray) (i : Nat) (h : i < 8 * s.size) : bitZ s i = (s[i / 8].toNat / 2 ^ (7 - i % 8) % 2 == 1) := by
  unfold bitZ bitL
  rw [Int.toNat_natCast, getD_byte s (i / 8) (by omega), bitN_eq]
  simp
theorem bitZ_neg (s : ByteArray) (i : Int) (h : i < 0) : bitZ s i = false := by unfold bitZ; simp; omega
theorem bitZ_out (s : ByteArray) (i : Int) (h : 8 * (s.size : Int) ≤ i) : bitZ s i = false := by
  unfold bitZ; rw [bitL_out _ _ (by rw [len_list]; omega)]; simp

theorem and_one (b k : Nat) (hb : b < 256) : (bits BinOp.and IntKind.u8 ((b : Int) / 2 ^ k) 1 == 1) = (b / 2 ^ k % 2 == 1) := by
  have h1 : (b : Int) / 2 ^ k = ((b / 2 ^ k : Nat) : Int) := by simp
  have h2 : b / 2 ^ k ≤ b := Nat.div_le_self _ _
  rw [h1]
  generalize b / 2 ^ k = m at h2 ⊢
  rw [u8_and _ _ (by omega) (by omega) (by omega) (by omega)]
  rw [Int.toNat_natCast, show (1 : Int).toNat = 1 from rfl, Nat.and_one_is_mod]
  rw [Bool.eq_iff_iff]; simp; omega

theorem mod_two (b k : Nat) (hb : b < 256) : ((wrap64 (b : Int) / 2 ^ k).tmod 2 == 1) = (b / 2 ^ k % 2 == 1) := by
  rw [IntWalk.wrap64_in _ (by omega)]
  have h1 : (b : Int) / 2 ^ k = ((b / 2 ^ k : Nat) : Int) := by simp
  rw [h1]
  generalize b / 2 ^ k = m
  rw [Int.tmod_eq_emod_of_nonneg (by omega)]
  rw [Bool.eq_iff_iff]; simp; omega

set_option maxHeartbeats 400000 in
theorem count_any (s : ByteArray) (w : World) (hs : s.size ≤ 1048576) :
    Calls Tryz.prog 103 #[.string s] w fun e w' => e = .returned (.int .i64 (8 * (s.size : Nat) : Int)) ∧ w = w' := by
  go_enter Tryz.func103, Tryz.ntmps103
  go_wp2
  go_ret
  exact ⟨rfl, rfl⟩

set_option maxHeartbeats 400000 in
theorem rbit_any (s : ByteArray) (i : Int) (w : World) (hs : s.size ≤ 1048576) :
    Calls Tryz.prog 91 #[.string s, .int .i64 i] w fun e w' => e = .returned (.bool (bitZ s i)) ∧ w = w' := by
  by_cases h0 : i < 0
  · go_enter Tryz.func91, Tryz.ntmps91
    go_wp2
    go_ret
    exact ⟨bool_eq (bitZ_neg s i h0).symm, rfl⟩
  · by_cases h1 : i < 8 * (s.size : Int)
    · obtain ⟨i, rfl⟩ := Int.eq_ofNat_of_zero_le (show 0 ≤ i by omega)
      have h2 : i < 8 * s.size := by omega
      clear h0 h1
      go_enter Tryz.func91, Tryz.ntmps91
      go_wp2
      go_ret
      exact ⟨bool_eq (by rw [bitZ_in s i h2]; exact mod_two _ _ (UInt8.toNat_lt _)), rfl⟩
    · go_enter Tryz.func91, Tryz.ntmps91
      go_wp2
      go_ret
      exact ⟨bool_eq (bitZ_out s i (by omega)).symm, rfl⟩

/-- a number as one of a text's bits -/
def inZ (s : ByteArray) (n : Int) : Nat := min n.toNat (8 * s.size)

set_option maxHeartbeats 400000 in
theorem within_any (s : ByteArray) (n : Int) (w : World) (hs : s.size ≤ 1048576) :
    Calls Tryz.prog 92 #[.string s, .int .i64 n] w fun e w' => e = .returned (.int .i64 (inZ s n : Nat)) ∧ w = w' := by
  by_cases h0 : n < 0
  · go_enter Tryz.func92, Tryz.ntmps92
    go_wp2
    go_ret
    exact ⟨int_eq (by unfold inZ; omega), rfl⟩
  · by_cases h1 : 8 * (s.size : Int) < n
    · go_enter Tryz.func92, Tryz.ntmps92
      go_wp2_with fail
      refine (count_any _ _ hs).mono ?_
      rintro e w1 ⟨rfl, rfl⟩
      go_wp2_with fail
      refine (count_any _ _ hs).mono ?_
      rintro e w1 ⟨rfl, rfl⟩
      go_wp2
      go_ret
      exact ⟨int_eq (by unfold inZ; omega), rfl⟩
    · go_enter Tryz.func92, Tryz.ntmps92
      go_wp2_with fail
      refine (count_any _ _ hs).mono ?_
      rintro e w1 ⟨rfl, rfl⟩
      go_wp2
      go_ret
      exact ⟨int_eq (by unfold inZ; omega), rfl⟩

set_option maxHeartbeats 400000 in
theorem high_in (r : Nat) (w : World) (h : r ≤ 8) :
    Calls Tryz.prog 93 #[.int .i64 r] w fun e w' => e = .returned (.int .u8 ((255 * 2 ^ (8 - r) % 256 : Nat) : Int)) ∧ w = w' := by
  go_enter Tryz.func93, Tryz.ntmps93
  go_wp2
  go_ret
  exact ⟨int_eq (by simp), rfl⟩

theorem bitZ_nat (s : ByteArray) (i : Nat) : bitZ s i = bitL s.data.toList i := by unfold bitZ; simp

end Go.Proofs.YteecialdkfaejaaGreatDoor.Bits
namespace Go.Proofs.YteecialdkfaejaaGreatDoor.Bits
open Go.ChangeShapes Go.WideShapes Go.ChangeAt Go.RowKit
set_option linter.unusedVariables false
set_option maxRecDepth 100000

theorem info5 : (Tryz.prog.info? 5).map (fun i => (i.zero, i.size, i.bytes)) = some (some (.int .u8 0), 1, 1) := by kernel_rfl

/-- bytes, as the cells of a row -/
def cellsL (l : List UInt8) : List Value := l.map fun b => Value.int .u8 b.toNat

theorem cellsL_length (l : List UInt8) : (cellsL l).length = l.length := by simp [cellsL]

theorem conv_row (w : World) (g c : Nat) (base : Nat) (l : List UInt8) (n : Nat) (hn : l.length = n) (h : w.ownsRow base 5 1 (.slice (some ⟨g, 0, none⟩) n c) n (cellsL l)) :
    (convert 112 9 (.slice (some ⟨g, 0, none⟩) n c)).run Tryz.prog w = .ok (.string ⟨l.toArray⟩) w := by
  subst hn
  refine run_convert_bytes_back w 112 9 5 ⟨g, 0, none⟩ c l Tryz.underlying112 Tryz.underlying5 Tryz.underlying9 fun j hj => ?_
  have := h.cellAt j (by omega)
  simp [Addr.add_lit]
  rw [this]
  simp [cellsL, hj]

theorem ret_string {a b : ByteArray} (h : a = b) : Ending.returned (.string a) = .returned (.string b) := by rw [h]

/-- copy(row, s), s no longer than the row: its bytes stand at the row's head -/
theorem wpList_copy_str {P : Program} {w : World} {ops : Array Oper} {rest : List Oper} {o : Oper} {a : Act} {Q : Exit → Act → World → Prop} (hgd : o.guard = none) (d s : Operand) (dT sT : TypeId)
    (ho : o.op = .call { callee := .builtin .copy, args := #[d, s], argTypes := #[dT, sT] }) (elem : TypeId) (hu : P.underlying dT = some (.slice elem)) (hsz : (P.info? elem).map (·.size) = some 1)
    (g n : Nat) (hd : a.eval d = .slice (some ⟨g, 0, none⟩) n n) (t : ByteArray) (hs : a.eval s = .string t)
    (base : Nat) (xs : List Value) (hrow : w.ownsRow base elem 1 (.slice (some ⟨g, 0, none⟩) n n) n xs) (hle : t.size ≤ n)
    (h : ∀ w', w'.ownsRow base elem 1 (.slice (some ⟨g, 0, none⟩) n n) n (cellsL t.data.toList ++ xs.drop t.size) → w.grownBy w' (some g) → wpList P ops Q rest (a.put o.dst (goInt t.size)) w') :
    wpList P ops Q (o :: rest) a w := by
  obtain ⟨hlen, hrow⟩ := hrow
  rcases hrow with ⟨h', _⟩ | ⟨g', cap', cur, h', hb, hg, hnc, hcm, hcs, htake⟩
  · simp at h'
  · simp only [Value.slice.injEq, Option.some.injEq, Addr.mk.injEq, and_true, true_and] at h'
    obtain ⟨rfl, rfl⟩ := h'
    simp only [Nat.mul_one] at hlen hcs htake
    have hrun := Lib.run_copy_row_string (P := P) w dT sT o.type elem g 0 n n t cur elem hu hsz hg hle (by omega)
    have hxs : cur.toList = xs := by rw [← htake, List.take_of_length_le (by simp; omega)]
    have hnew : List.take 0 cur.toList ++ Lib.byteCells t.data.toList ++ List.drop (0 + t.size) cur.toList = cellsL t.data.toList ++ xs.drop t.size := by
      rw [hxs]; simp [Lib.byteCells, cellsL]
    rw [hnew] at hrun
    refine wpList_plain hgd fun K hK => ?_
    unfold Oper.wp
    simp [execOp, ho, resolve, invoke, builtin, hd, hs, hrun, Result.andThen]
    refine hK _ _ (h _ ⟨?_, .inr ⟨g, n, _, rfl, hb, setRow_heap w g _ _ elem _ hg, Nat.le_refl _, hcm, ?_, ?_⟩⟩ ⟨rfl, rfl, rfl, by simp [World.setRow], fun k _ hk => setRow_other w g k _ (fun e => hk (by rw [e]))⟩)
    · simp [cellsL_length]; omega
    · simp [cellsL_length]; omega
    · rw [Nat.mul_one]; exact List.take_of_length_le (by simp [cellsL_length]; omega)

theorem and_high (b r : Nat) (hb : b < 256) (h : r ≤ 8) : bits BinOp.and IntKind.u8 (b : Int) ((255 * 2 ^ (8 - r) % 256 : Nat) : Int) = ((mask b r : Nat) : Int) := by
  rw [u8_and_nat _ _ hb (by omega), mask_eq]
  congr 1
  have : r = 0 ∨ r = 1 ∨ r = 2 ∨ r = 3 ∨ r = 4 ∨ r = 5 ∨ r = 6 ∨ r = 7 ∨ r = 8 := by omega
  revert b
  rcases this with rfl | rfl | rfl | rfl | rfl | rfl | rfl | rfl | rfl <;> decide +kernel

set_option maxHeartbeats 800000 in
theorem keep_any (s : ByteArray) (n : Int) (w : World) (hs : s.size ≤ 1048576) :
    Calls Tryz.prog 80 #[.string s, .int .i64 n] w fun e w' => e = .returned (.string ⟨(keepL s.data.toList n.toNat).toArray⟩) ∧ Below w.heap.size w w' := by
  obtain ⟨i0, hi, hz0, hz1, hz2⟩ := info_parts info5
  have HK : Hid (keepL s.data.toList n.toNat = keepL s.data.toList (inZ s n)) := by
    have := keepL_min s.data.toList n.toNat
    rw [len_list] at this
    exact Lib.hid this.symm
  have hm : inZ s n ≤ 8 * s.size := by unfold inZ; omega
  have HW := Lib.hid (fun w => within_any s n w hs)
  generalize inZ s n = m at *
  go_enter Tryz.func80, Tryz.ntmps80
  go_wp2_with fail
  refine (HW.out _).mono ?_
  rintro e w1 ⟨rfl, rfl⟩
  clear HW
  go_wp2_with (at_make; refine wpList_make_full _ rfl _ _ 112 rfl w.heap.size 5 i0 (.int .u8 0) 1 Tryz.underlying112 hi hz0 hz1 _ _ _ _ s.size rfl rfl rfl rfl (by rw [hz2]; omega) (by unfold maxLen; omega) (by simp) ?_)
  intro w1 hown hgrow
  have HG := Lib.hid hgrow
  have HO := Lib.hid hown
  clear hgrow hown
  have hsz : (Tryz.prog.info? 5).map (·.size) = some 1 := by rw [hi]; simp [hz1]
  go_wp2_with (with_reducible refine wpList_copy_str rfl (.tmp 12) (.tmp 16) 112 9 rfl 5 Tryz.underlying112 hsz w.heap.size s.size rfl _ rfl w.heap.size _ HO.out ?_ ?_)
  · simp; omega
  intro w2 hown2 hgrow2
  have HB2 : Hid (Below w.heap.size w w2) := Lib.hid (((Below.refl _ _).grown HG.out (Nat.le_refl _) (fun k hk => by cases hk)).grown hgrow2 HG.out.size (fun k hk => by cases hk; exact Nat.le_refl _))
  have HO2 : Hid (w2.ownsRow w.heap.size 5 1 (.slice (some ⟨w.heap.size, 0, none⟩) s.size s.size) s.size (cellsL (s.data.toList.take (m / 8) ++ List.replicate (s.size - m / 8) 0))) := by
    have e : cellsL (s.data.toList.take (m / 8) ++ List.replicate (s.size - m / 8) 0) = cellsL (List.take (m / 8) s.data.toList) ++ List.drop (min (m / 8) s.size) (madeCells #[Value.int IntKind.u8 0] s.size).toList := by
      rw [toList_madeCells_one, Nat.min_eq_left (by omega)]
      simp [cellsL]
    exact Lib.hid (by rw [e]; exact hown2)
  clear hown2 hgrow2 HG HO hi hz0 hz1 hz2 hsz
  have HP := Lib.hid (keepL_parts s.data.toList m (by rw [len_list]; exact hm))
  rw [len_list] at HP
  by_cases h0 : m % 8 = 0
  · have HC : Hid (w2.ownsRow w.heap.size 5 1 (.slice (some ⟨w.heap.size, 0, none⟩) s.size s.size) s.size (cellsL (keepL s.data.toList n.toNat))) := by
      have := HP.out
      rw [if_pos h0] at this
      exact Lib.hid (by rw [HK.out, this]; exact HO2.out)
    have hc := conv_row w2 w.heap.size s.size w.heap.size (keepL s.data.toList n.toNat) s.size (by rw [keepL_length, len_list]) HC.out
    clear HC HO2 HP
    go_wp2
    go_ret
    exact ⟨rfl, HB2.out⟩
  · have hk : m / 8 < s.size := by omega
    have ho : ((m : Int) / 8).toNat = m / 8 := by omega
    have hfr := HO2.out.frozenAt ((m : Int) / 8).toNat
    obtain ⟨u, hcl⟩ : ∃ u, w2.cell? ⟨w.heap.size, ((m : Int) / 8).toNat, none⟩ = some u := by
      rw [HO2.out.cellAt _ (by omega)]
      exact ⟨_, List.getElem?_eq_getElem (by have := HO2.out.1; omega)⟩
    have HR : Hid (cellsL (keepL s.data.toList m) = (cellsL (s.data.toList.take (m / 8) ++ List.replicate (s.size - m / 8) 0)).set ((m : Int) / 8).toNat (.int .u8 ((mask s[m / 8].toNat (m % 8) : Nat) : Int))) := by
      have := HP.out
      rw [if_neg h0, getD_byte s (m / 8) hk] at this
      refine Lib.hid ?_
      rw [this, ho]
      unfold cellsL
      rw [List.map_set, ofNat_mask]
    have hand : bits BinOp.and IntKind.u8 (s[((m : Int) / 8).toNat].toNat : Int) ((255 * 2 ^ (8 - m % 8) % 256 : Nat) : Int) = ((mask s[m / 8].toNat (m % 8) : Nat) : Int) := by
      have := and_high s[m / 8].toNat (m % 8) (UInt8.toNat_lt _) (by omega)
      simp only [ho]
      exact this
    have HO' := Lib.hid ho
    clear ho
    generalize mask s[m / 8].toNat (m % 8) = mv at *
    have HH : Hid (∀ w, Calls Tryz.prog 93 #[.int .i64 ((m : Int) % 8)] w fun e w' => e = .returned (.int .u8 ((255 * 2 ^ (8 - m % 8) % 256 : Nat) : Int)) ∧ w = w') := by
      have := fun w => high_in (m % 8) w (by omega)
      rw [show ((m % 8 : Nat) : Int) = (m : Int) % 8 by omega] at this
      exact Lib.hid this
    generalize 255 * 2 ^ (8 - m % 8) % 256 = hv at *
    have hbd : (0 : Int) ≤ (m : Int) / 8 ∧ (m : Int) / 8 < (s.size : Int) := by omega
    have hq1 : IntKind.i64.wrap ((m : Int).tdiv 8) = (m : Int) / 8 := IntWalk.i64_quo _ _ (by omega)
    have hq2 : wrap64 ((m : Int).tdiv 8) = (m : Int) / 8 := by rw [← IntWalk.i64_left]; exact hq1
    have hq3 : IntKind.i64.wrap ((m : Int) / 8) = (m : Int) / 8 := IntWalk.i64_in _ (by omega)
    have hq4 : (m : Int).tdiv 8 = (m : Int) / 8 := Int.tdiv_eq_ediv_of_nonneg (by omega)
    have hq5 : (m : Int).tmod 8 = (m : Int) % 8 := Int.tmod_eq_emod_of_nonneg (by omega)
    have hq6 : IntKind.i64.wrap ((m : Int) % 8) = (m : Int) % 8 := IntWalk.i64_in _ (by omega)
    go_wp2
    go_region_with (go_at_call 93; refine (HH.out _).mono ?_; rintro e w9 ⟨rfl, rfl⟩)
    all_goals
      have HC : Hid ((w2.setCell ⟨w.heap.size, ((m : Int) / 8).toNat, none⟩ (.int .u8 (mv : Int))).drew.ownsRow w.heap.size 5 1 (.slice (some ⟨w.heap.size, 0, none⟩) s.size s.size) s.size (cellsL (keepL s.data.toList n.toNat))) := by
        have h3 := (HO2.out).stored ((m : Int) / 8).toNat (.int .u8 (mv : Int))
        refine Lib.hid ?_
        rw [HK.out, HR.out]
        exact World.ownsRow.drew h3.1
      have HB3 : Hid (Below w.heap.size w (w2.setCell ⟨w.heap.size, ((m : Int) / 8).toNat, none⟩ (.int .u8 (mv : Int))).drew) := Lib.hid ((HB2.out.setCell (Nat.le_refl _) _).drew)
      clear HO2 HP hcl hfr hand HB2 HR HK HO' hq1 hq2 hq3 hq4 hq5 hq6 HH
      generalize (w2.setCell ⟨w.heap.size, ((m : Int) / 8).toNat, none⟩ (.int .u8 (mv : Int))).drew = w3 at *
      have hc := conv_row w3 w.heap.size s.size w.heap.size (keepL s.data.toList n.toNat) s.size (by rw [keepL_length, len_list]) HC.out
      clear HC
      go_wp2
      go_ret
      exact ⟨rfl, HB3.out⟩

/-- a bit that is 0 may be kept or not -/
theorem keepL_skip (l : List UInt8) (i : Nat) (h : bitL l i = false) : keepL l (i + 1) = keepL l i := by
  apply list_ext (by simp [keepL_length])
  intro j _
  rw [bitL_keep, bitL_keep]
  by_cases e : j = i
  · rw [e, h]; simp
  · congr 1
    by_cases hj : j < i <;> simp [hj] <;> omega

theorem keepL_add (l : List UInt8) (i : Nat) (h : i < 8 * l.length) (hb : bitL l i = true) :
    cellsL (keepL l (i + 1)) = (cellsL (keepL l i)).set (i / 8) (.int .u8 ((mask (l.getD (i / 8) 0).toNat (i % 8) + 2 ^ (7 - i % 8) : Nat) : Int)) := by
  rw [keepL_set l i h]
  unfold cellsL
  rw [List.map_set, ofNat_mask, mask_next _ _ (UInt8.toNat_lt _) (by omega)]
  have e : bitN (l[i / 8]'(by omega)).toNat (i % 8) = true := by
    unfold bitL at hb
    rw [getD_in _ _ (show i / 8 < l.length by omega)] at hb
    exact hb
  rw [if_pos e, getD_in _ _ (show i / 8 < l.length by omega)]

theorem keepL_cell (l : List UInt8) (i : Nat) (h : i < 8 * l.length) : (cellsL (keepL l i))[i / 8]? = some (.int .u8 ((mask (l.getD (i / 8) 0).toNat (i % 8) : Nat) : Int)) := by
  have hk : i / 8 < (keepL l i).length := by rw [keepL_length]; omega
  unfold cellsL
  rw [List.getElem?_map, List.getElem?_eq_getElem hk]
  show some (Value.int .u8 (((keepL l i)[i / 8]).toNat : Int)) = _
  rw [keepL_get, getD_in _ _ (show i / 8 < l.length by omega)]
  congr 5
  omega

theorem mask_room (b p : Nat) (hb : b < 256) (hp : p < 8) : mask b p + 2 ^ (7 - p) < 256 := by
  rw [mask_eq]
  have : p = 0 ∨ p = 1 ∨ p = 2 ∨ p = 3 ∨ p = 4 ∨ p = 5 ∨ p = 6 ∨ p = 7 := by omega
  rcases this with rfl | rfl | rfl | rfl | rfl | rfl | rfl | rfl <;> simp <;> omega

theorem sum_byte (a k : Nat) (h : a + 2 ^ k < 256) : ((a : Int) + 2 ^ k) % 256 = ((a + 2 ^ k : Nat) : Int) := by
  have e : (2 : Int) ^ k = ((2 ^ k : Nat) : Int) := by simp
  rw [e]
  generalize 2 ^ k = q at *
  omega

set_option maxHeartbeats 800000 in
theorem rkeep_any (s : ByteArray) (n : Int) (w : World) (hs : s.size ≤ 1048576) :
    Calls Tryz.prog 77 #[.string s, .int .i64 n] w fun e w' => e = .returned (.string ⟨(keepL s.data.toList n.toNat).toArray⟩) ∧ Below w.heap.size w w' := by
  obtain ⟨i0, hi, hz0, hz1, hz2⟩ := info_parts info5
  have HK : Hid (keepL s.data.toList n.toNat = keepL s.data.toList (inZ s n)) := by
    have := keepL_min s.data.toList n.toNat
    rw [len_list] at this
    exact Lib.hid this.symm
  have hm : inZ s n ≤ 8 * s.size := by unfold inZ; omega
  have hmn : ∀ i : Nat, ((i : Int) < n ∧ i < 8 * s.size) ↔ i < inZ s n := by intro i; unfold inZ; omega
  generalize inZ s n = m at *
  have HMN := Lib.hid hmn
  clear hmn
  go_enter Tryz.func77, Tryz.ntmps77
  go_wp2_with (at_make; refine wpList_make_full _ rfl _ _ 112 rfl w.heap.size 5 i0 (.int .u8 0) 1 Tryz.underlying112 hi hz0 hz1 _ _ _ _ s.size rfl rfl rfl rfl (by rw [hz2]; omega) (by unfold maxLen; omega) (by simp) ?_)
  intro w1 hown hgrow
  have HB : Hid (Below w.heap.size w w1) := Lib.hid ((Below.refl _ _).grown hgrow (Nat.le_refl _) (fun k hk => by cases hk))
  have HO : Hid (w1.ownsRow w.heap.size 5 1 (.slice (some ⟨w.heap.size, 0, none⟩) s.size s.size) s.size (cellsL (keepL s.data.toList 0))) := by
    rw [keepL_none, len_list]
    have e : cellsL (List.replicate s.size (0 : UInt8)) = (madeCells #[Value.int .u8 0] s.size).toList := by rw [toList_madeCells_one]; simp [cellsL]
    rw [e]; exact Lib.hid hown
  clear hown hgrow hi hz0 hz1 hz2
  go_wp2
  go_loopw [6] (fun i wr => ∃ j : Nat, j ≤ m ∧ i = .int .i64 j ∧ Hid (wr.ownsRow w.heap.size 5 1 (.slice (some ⟨w.heap.size, 0, none⟩) s.size s.size) s.size (cellsL (keepL s.data.toList j))) ∧ Hid (Below w.heap.size w wr))
    (fun i _ => m - (intOf i).toNat)
  case atStart => exact ⟨0, Nat.zero_le _, rfl, HO, HB⟩
  case round =>
    obtain ⟨j, hj, rfl, HO1, HB1⟩ := hrel
    clear HO HB
    by_cases hlt : j < m
    · have hjn := ((HMN.out j).2 hlt).1
      have hj8 := ((HMN.out j).2 hlt).2
      by_cases hbit : bitL s.data.toList j = true
      · have hbz : bitZ s (j : Nat) = true := by rw [bitZ_nat]; exact hbit
        have hfr := HO1.out.frozenAt (j / 8)
        have hcl := (HO1.out.cellAt (j / 8) (by omega)).trans (keepL_cell s.data.toList j (by rw [len_list]; exact hj8))
        have hroom := mask_room (s.data.toList.getD (j / 8) 0).toNat (j % 8) (UInt8.toNat_lt _) (by omega)
        have HR := Lib.hid (keepL_add s.data.toList j (by rw [len_list]; exact hj8) hbit)
        generalize mask (s.data.toList.getD (j / 8) 0).toNat (j % 8) = mv at *
        clear hbit
        go_wp2_with fail
        refine (rbit_any _ _ _ hs).mono ?_
        rintro e w9 ⟨rfl, rfl⟩
        rw [hbz]
        clear hbz
        have HV := Lib.hid (sum_byte mv (7 - j % 8) hroom)
        go_wp2
        go_roundw
        case rel =>
          refine ⟨j + 1, by omega, by go_num, Lib.hid ?_, Lib.hid ?_⟩
          · have := (HO1.out.stored (j / 8) (.int .u8 ((mv + 2 ^ (7 - j % 8) : Nat) : Int))).1
            rw [← HR.out] at this
            rw [HV.out]
            exact this
          · exact HB1.out.setCell (Nat.le_refl _) _
        case measure => simp [intOf]; omega
      · have hbz : bitZ s (j : Nat) = false := by rw [bitZ_nat]; simpa using hbit
        have HR := Lib.hid (keepL_skip s.data.toList j (by simpa using hbit))
        clear hbit
        go_wp2_with fail
        refine (rbit_any _ _ _ hs).mono ?_
        rintro e w9 ⟨rfl, rfl⟩
        rw [hbz]
        clear hbz
        go_wp2
        go_roundw
        case rel => exact ⟨j + 1, by omega, by go_num, Lib.hid (by rw [HR.out]; exact HO1.out), HB1⟩
        case measure => simp [intOf]; omega
    · obtain rfl : j = m := by omega
      have hc := conv_row wr w.heap.size s.size w.heap.size (keepL s.data.toList n.toNat) s.size (by rw [keepL_length, len_list]) (by rw [HK.out]; exact HO1.out)
      have hend := (not_congr (HMN.out j)).2 (Nat.lt_irrefl j)
      by_cases h8 : j < 8 * s.size
      · have hjn : ¬ (j : Int) < n := fun h => hend ⟨h, h8⟩
        clear hend
        go_wp2
        go_ret
        exact ⟨rfl, HB1.out⟩
      · clear hend
        go_wp2
        go_ret
        exact ⟨rfl, HB1.out⟩

/-- are all bits from the n-th on 0? -/
def cleanZ (s : ByteArray) (n : Int) : Bool := decide (keepL s.data.toList n.toNat = s.data.toList)

set_option maxHeartbeats 400000 in
theorem clean_any (s : ByteArray) (n : Int) (w : World) (hs : s.size ≤ 1048576) :
    Calls Tryz.prog 64 #[.string s, .int .i64 n] w fun e w' => e = .returned (.bool (cleanZ s n)) ∧ Below w.heap.size w w' := by
  go_enter Tryz.func64, Tryz.ntmps64
  go_wp2_with fail
  refine (keep_any _ _ _ hs).mono ?_
  rintro e w1 ⟨rfl, hb1⟩
  go_wp2
  go_ret
  exact ⟨bool_eq (by unfold cleanZ; rw [Bool.eq_iff_iff]; simp only [beq_iff_eq, decide_eq_true_eq]; rw [ByteArray.toList_eq]), hb1⟩

set_option maxHeartbeats 400000 in
theorem rclean_any (s : ByteArray) (n : Int) (w : World) (hs : s.size ≤ 1048576) :
    Calls Tryz.prog 65 #[.string s, .int .i64 n] w fun e w' => e = .returned (.bool (cleanZ s n)) ∧ Below w.heap.size w w' := by
  go_enter Tryz.func65, Tryz.ntmps65
  go_wp2_with fail
  refine (rkeep_any _ _ _ hs).mono ?_
  rintro e w1 ⟨rfl, hb1⟩
  go_wp2
  go_ret
  exact ⟨bool_eq (by unfold cleanZ; rw [Bool.eq_iff_iff]; simp only [beq_iff_eq, decide_eq_true_eq]; rw [ByteArray.toList_eq]), hb1⟩
end Go.Proofs.YteecialdkfaejaaGreatDoor.Bits
namespace Go.Proofs.YteecialdkfaejaaGreatDoor.Bits
open Go.ChangeShapes Go.WideShapes Go.ChangeAt Go.RowKit
set_option linter.unusedVariables false
set_option maxRecDepth 100000

end Go.Proofs.YteecialdkfaejaaGreatDoor.Bits
namespace Go.Proofs.YteecialdkfaejaaGreatDoor.Pre
open Go.ChangeShapes Go.WideShapes Go.ChangeAt Go.RowKit
open Go.Proofs.YteecialdkfaejaaGreatDoor.Bits
set_option linter.unusedVariables false
set_option maxRecDepth 100000

/-- how many bytes have the first n bits -/
def leastN (n : Int) : Nat := (n.toNat + 7) / 8

set_option maxHeartbeats 400000 in
theorem least_any (n : Int) (w : World) (h : -9223372036854775808 ≤ n ∧ n ≤ 9223372036854775807) :
    Calls Tryz.prog 100 #[.int .i64 n] w fun e w' => e = .returned (.int .i64 (leastN n : Nat)) ∧ w = w' := by
  by_cases h0 : n ≤ 0
  · go_enter Tryz.func100, Tryz.ntmps100
    go_wp2
    go_ret
    exact ⟨int_eq (by unfold leastN; omega), rfl⟩
  · go_enter Tryz.func100, Tryz.ntmps100
    go_wp2
    go_ret
    exact ⟨int_eq (by unfold leastN; omega), rfl⟩

set_option maxHeartbeats 400000 in
theorem rleast_any (n : Int) (w : World) (h : -9223372036854775808 ≤ n ∧ n ≤ 1099511627776) :
    Calls Tryz.prog 76 #[.int .i64 n] w fun e w' => e = .returned (.int .i64 (leastN n : Nat)) ∧ w = w' := by
  by_cases h0 : n < 0
  · go_enter Tryz.func76, Tryz.ntmps76
    go_wp2
    go_ret
    exact ⟨int_eq (by unfold leastN; omega), rfl⟩
  · go_enter Tryz.func76, Tryz.ntmps76
    go_wp2
    go_ret
    exact ⟨int_eq (by unfold leastN; omega), rfl⟩

/-- is it a prefix? -/
def rightZ (s : ByteArray) (n : Int) : Bool := (decide (s.size = 4) || decide (s.size = 16)) && (decide (0 ≤ n) && (decide (n ≤ 8 * (s.size : Int)) && cleanZ s n))

set_option maxHeartbeats 800000 in
theorem right_any (s : ByteArray) (n : Int) (w : World) (hs : s.size ≤ maxLen) :
    Calls Tryz.prog 41 #[.string s, .int .i64 n] w fun e w' => e = .returned (.bool (rightZ s n)) ∧ Below w.heap.size w w' := by
  have hm := hs
  unfold maxLen at hm
  by_cases h4 : s.size = 4 ∨ s.size = 16
  · by_cases h0 : 0 ≤ n
    · by_cases h8 : n ≤ 8 * (s.size : Int)
      · have HC := Lib.hid (fun w => clean_any s n w (by omega))
        have HR : Hid (rightZ s n = cleanZ s n) := Lib.hid (by unfold rightZ; rcases h4 with h4 | h4 <;> simp [h4, h0] <;> omega)
        rw [HR.out]
        clear HR
        rcases h4 with h4 | h4
        · go_enter Tryz.func41, Tryz.ntmps41
          go_wp2_with fail
          refine (HC.out _).mono ?_
          rintro e w1 ⟨rfl, hb1⟩
          go_wp2
          go_ret
          exact ⟨rfl, hb1⟩
        · go_enter Tryz.func41, Tryz.ntmps41
          go_wp2_with fail
          refine (HC.out _).mono ?_
          rintro e w1 ⟨rfl, hb1⟩
          go_wp2
          go_ret
          exact ⟨rfl, hb1⟩
      · have HR : Hid (rightZ s n = false) := Lib.hid (by unfold rightZ; simp [h8])
        rw [HR.out]
        clear HR
        rcases h4 with h4 | h4
        · go_enter Tryz.func41, Tryz.ntmps41
          go_wp2
          go_ret
          exact ⟨rfl, Below.refl _ _⟩
        · go_enter Tryz.func41, Tryz.ntmps41
          go_wp2
          go_ret
          exact ⟨rfl, Below.refl _ _⟩
    · have HR : Hid (rightZ s n = false) := Lib.hid (by unfold rightZ; simp [h0])
      rw [HR.out]
      clear HR
      rcases h4 with h4 | h4
      · go_enter Tryz.func41, Tryz.ntmps41
        go_wp2
        go_ret
        exact ⟨rfl, Below.refl _ _⟩
      · go_enter Tryz.func41, Tryz.ntmps41
        go_wp2
        go_ret
        exact ⟨rfl, Below.refl _ _⟩
  · have HR : Hid (rightZ s n = false) := Lib.hid (by unfold rightZ; simp at h4; simp [h4])
    rw [HR.out]
    clear HR
    obtain ⟨ha, hb⟩ := not_or.1 h4
    clear h4
    go_enter Tryz.func41, Tryz.ntmps41
    go_wp2
    go_ret
    exact ⟨rfl, Below.refl _ _⟩

set_option maxHeartbeats 800000 in
theorem rright_any (s : ByteArray) (n : Int) (w : World) (hs : s.size ≤ maxLen) :
    Calls Tryz.prog 45 #[.string s, .int .i64 n] w fun e w' => e = .returned (.bool (rightZ s n)) ∧ Below w.heap.size w w' := by
  have hm := hs
  unfold maxLen at hm
  by_cases h4 : s.size = 4 ∨ s.size = 16
  · by_cases h0 : 0 ≤ n
    · by_cases h8 : n ≤ 8 * (s.size : Int)
      · have HC := Lib.hid (fun w => rclean_any s n w (by omega))
        have HR : Hid (rightZ s n = cleanZ s n) := Lib.hid (by unfold rightZ; rcases h4 with h4 | h4 <;> simp [h4, h0] <;> omega)
        rw [HR.out]
        clear HR
        rcases h4 with h4 | h4
        · go_enter Tryz.func45, Tryz.ntmps45
          go_wp2_with fail
          refine (HC.out _).mono ?_
          rintro e w1 ⟨rfl, hb1⟩
          go_wp2
          go_ret
          exact ⟨rfl, hb1⟩
        · go_enter Tryz.func45, Tryz.ntmps45
          go_wp2_with fail
          refine (HC.out _).mono ?_
          rintro e w1 ⟨rfl, hb1⟩
          go_wp2
          go_ret
          exact ⟨rfl, hb1⟩
      · have HR : Hid (rightZ s n = false) := Lib.hid (by unfold rightZ; simp [h8])
        rw [HR.out]
        clear HR
        rcases h4 with h4 | h4
        · go_enter Tryz.func45, Tryz.ntmps45
          go_wp2
          go_ret
          exact ⟨rfl, Below.refl _ _⟩
        · go_enter Tryz.func45, Tryz.ntmps45
          go_wp2
          go_ret
          exact ⟨rfl, Below.refl _ _⟩
    · have HR : Hid (rightZ s n = false) := Lib.hid (by unfold rightZ; simp [h0])
      rw [HR.out]
      clear HR
      rcases h4 with h4 | h4
      · go_enter Tryz.func45, Tryz.ntmps45
        go_wp2
        go_ret
        exact ⟨rfl, Below.refl _ _⟩
      · go_enter Tryz.func45, Tryz.ntmps45
        go_wp2
        go_ret
        exact ⟨rfl, Below.refl _ _⟩
  · have HR : Hid (rightZ s n = false) := Lib.hid (by unfold rightZ; simp at h4; simp [h4])
    rw [HR.out]
    clear HR
    obtain ⟨ha, hb⟩ := not_or.1 h4
    clear h4
    go_enter Tryz.func45, Tryz.ntmps45
    go_wp2
    go_ret
    exact ⟨rfl, Below.refl _ _⟩

/-- what is kept of the first bytes is the first bytes of what is kept -/
theorem keepL_take (l : List UInt8) (k n : Nat) : keepL (l.take k) n = (keepL l n).take k := by
  unfold keepL
  apply List.ext_getElem?
  intro i
  by_cases h : i < k
  · rw [List.getElem?_take_of_lt h, List.getElem?_mapIdx, List.getElem?_mapIdx, List.getElem?_take_of_lt h]
  · rw [List.getElem?_eq_none (by simp; omega), List.getElem?_eq_none (by simp; omega)]

/-- the first bytes of an address, as many as have the bits -/
def cutL (l : List UInt8) (n : Int) : List UInt8 := (keepL l n.toNat).take (leastN n)

theorem head_list (s : ByteArray) (k : Nat) : (s.extract 0 k).data.toList = s.data.toList.take k := by simp

theorem cut_less (s : ByteArray) (n : Int) : keepL (s.extract 0 (leastN n)).data.toList n.toNat = cutL s.data.toList n := by
  rw [head_list, keepL_take]; rfl

theorem cut_more (s : ByteArray) (n : Int) (h : s.size < leastN n) : s = ⟨(cutL s.data.toList n).toArray⟩ := by
  have e : cutL s.data.toList n = s.data.toList := by
    unfold cutL
    rw [List.take_of_length_le (by rw [keepL_length, len_list]; omega)]
    exact keepL_all _ _ (by rw [len_list]; unfold leastN at h; omega)
  rw [e]

set_option maxHeartbeats 800000 in
theorem cut_any (s : ByteArray) (n : Int) (w : World) (hs : s.size ≤ 1048576) (h : -9223372036854775808 ≤ n ∧ n ≤ 9223372036854775807) :
    Calls Tryz.prog 87 #[.string s, .int .i64 n] w fun e w' => e = .returned (.string ⟨(cutL s.data.toList n).toArray⟩) ∧ Below w.heap.size w w' := by
  have HL := Lib.hid (fun w => least_any n w h)
  have HM := Lib.hid (cut_more s n)
  have HE := Lib.hid (cut_less s n)
  by_cases hk : leastN n ≤ s.size
  · have HK := Lib.hid (fun w => keep_any (s.extract 0 (leastN n)) n w (by simp; omega))
    rw [HE.out] at HK
    clear HM HE
    generalize ByteArray.mk (cutL s.data.toList n).toArray = cv at *
    generalize leastN n = k at *
    have hsl : ∀ wx, Sem.run Tryz.prog (Instr.slice 9 (Value.string s) none (some (Value.int IntKind.i64 (k : Int))) none) wx = .ok (.string (s.extract 0 k)) wx := by
      intro wx
      have := run_slice_string_h (P := Tryz.prog) wx 9 s Tryz.underlying9 .i64 (k : Int) (by omega) (by omega)
      exact this
    generalize s.extract 0 k = x at *
    go_enter Tryz.func87, Tryz.ntmps87
    go_wp2_with fail
    refine (HL.out _).mono ?_
    rintro e w1 ⟨rfl, rfl⟩
    go_wp2_with fail
    refine (HK.out _).mono ?_
    rintro e w1 ⟨rfl, hb1⟩
    go_wp2
    go_ret
    exact ⟨rfl, hb1⟩
  · have HQ := Lib.hid (HM.out (by omega))
    clear HM HE
    generalize ByteArray.mk (cutL s.data.toList n).toArray = cv at *
    generalize leastN n = k at *
    go_enter Tryz.func87, Tryz.ntmps87
    go_wp2_with fail
    refine (HL.out _).mono ?_
    rintro e w1 ⟨rfl, rfl⟩
    go_wp2
    go_ret
    exact ⟨ret_string HQ.out, Below.refl _ _⟩

/-- bytes, and noughts behind them up to so many -/
def fillL (l : List UInt8) (m : Nat) : List UInt8 := l ++ List.replicate (m - l.length) 0

theorem fillL_length (l : List UInt8) (m : Nat) (h : l.length ≤ m) : (fillL l m).length = m := by simp [fillL]; omega

set_option maxHeartbeats 800000 in
theorem fill_any (s : ByteArray) (m : Int) (w : World) (hs : s.size ≤ 1048576) (h : m ≤ 1048576) :
    Calls Tryz.prog 89 #[.string s, .int .i64 m] w fun e w' => e = .returned (.string ⟨(fillL s.data.toList m.toNat).toArray⟩) ∧ Below w.heap.size w w' := by
  by_cases hk : m ≤ s.size
  · have HQ : Hid (s = ⟨(fillL s.data.toList m.toNat).toArray⟩) := by
      have e : fillL s.data.toList m.toNat = s.data.toList := by unfold fillL; rw [len_list, show m.toNat - s.size = 0 by omega]; simp
      exact Lib.hid (by rw [e])
    generalize ByteArray.mk (fillL s.data.toList m.toNat).toArray = fv at *
    go_enter Tryz.func89, Tryz.ntmps89
    go_wp2
    go_ret
    exact ⟨ret_string HQ.out, Below.refl _ _⟩
  · obtain ⟨k, rfl⟩ : ∃ k : Nat, m = k := ⟨m.toNat, by omega⟩
    rw [Int.toNat_natCast]
    have hk' : s.size < k := by omega
    clear hk
    obtain ⟨i0, hi, hz0, hz1, hz2⟩ := info_parts info5
    go_enter Tryz.func89, Tryz.ntmps89
    go_wp2_with (at_make; refine wpList_make_full _ rfl _ _ 112 rfl w.heap.size 5 i0 (.int .u8 0) 1 Tryz.underlying112 hi hz0 hz1 _ _ _ _ k rfl rfl rfl rfl (by rw [hz2]; omega) (by unfold maxLen; omega) (by simp) ?_)
    intro w1 hown hgrow
    have HG := Lib.hid hgrow
    have HO := Lib.hid hown
    clear hgrow hown
    have hsz : (Tryz.prog.info? 5).map (·.size) = some 1 := by rw [hi]; simp [hz1]
    go_wp2_with (with_reducible refine wpList_copy_str rfl (.tmp 17) (.tmp 18) 112 9 rfl 5 Tryz.underlying112 hsz w.heap.size k rfl _ rfl w.heap.size _ HO.out ?_ ?_)
    · omega
    intro w2 hown2 hgrow2
    have HB2 : Hid (Below w.heap.size w w2) := Lib.hid (((Below.refl _ _).grown HG.out (Nat.le_refl _) (fun k hk => by cases hk)).grown hgrow2 HG.out.size (fun k hk => by cases hk; exact Nat.le_refl _))
    have HO2 : Hid (w2.ownsRow w.heap.size 5 1 (.slice (some ⟨w.heap.size, 0, none⟩) k k) k (cellsL (fillL s.data.toList k))) := by
      have e : cellsL (fillL s.data.toList k) = cellsL s.data.toList ++ List.drop s.size (madeCells #[Value.int IntKind.u8 0] k).toList := by
        rw [toList_madeCells_one]
        simp [cellsL, fillL]
      exact Lib.hid (by rw [e]; exact hown2)
    clear hown2 hgrow2 HG HO hi hz0 hz1 hz2 hsz
    have hc := conv_row w2 w.heap.size k w.heap.size (fillL s.data.toList k) k (by rw [fillL_length _ _ (by rw [len_list]; omega)]) HO2.out
    clear HO2
    go_wp2
    go_ret
    exact ⟨rfl, HB2.out⟩

theorem fill_step (l : List UInt8) (j : Nat) : fillL l (l.length + j) ++ [0] = fillL l (l.length + (j + 1)) := by
  unfold fillL
  rw [List.append_assoc]
  congr 1
  rw [show l.length + (j + 1) - l.length = (l.length + j - l.length) + 1 by omega, List.replicate_succ']

set_option maxHeartbeats 800000 in
theorem rfill_any (s : ByteArray) (m : Int) (w : World) (hs : s.size ≤ 1048576) (h : m ≤ 1048576) :
    Calls Tryz.prog 78 #[.string s, .int .i64 m] w fun e w' => e = .returned (.string ⟨(fillL s.data.toList m.toNat).toArray⟩) ∧ w = w' := by
  go_enter Tryz.func78, Tryz.ntmps78
  go_wp2
  go_loop [0] (fun v => ∃ x : ByteArray, ∃ j : Nat, v = .string x ∧ x.data.toList = fillL s.data.toList (s.data.toList.length + j) ∧ x.size = s.size + j ∧ (j = 0 ∨ ((s.size : Int) + j ≤ m)))
    (fun v => m.toNat - (match v with | .string x => x.size | _ => 0))
  case atStart => exact ⟨s, 0, rfl, by simp [fillL], rfl, .inl rfl⟩
  case round =>
    obtain ⟨x, j, rfl, hx, hxs, hj⟩ := hrel
    have HX := Lib.hid hx
    clear hx
    by_cases hlt : (x.size : Int) < m
    · go_wp2
      go_round
      case rel => exact ⟨_, j + 1, rfl, by rw [← fill_step, ← HX.out]; simp, by rw [ByteArray.size_append, hxs]; rfl, .inr (by omega)⟩
      case measure =>
        have e : (x ++ { data := #[0] } : ByteArray).size = x.size + 1 := ByteArray.size_append
        show m.toNat - (x ++ { data := #[0] } : ByteArray).size < m.toNat - x.size
        omega
    · have HQ : Hid (x = ⟨(fillL s.data.toList m.toNat).toArray⟩) := by
        refine Lib.hid (bytes_inj ?_)
        rw [HX.out]
        unfold fillL
        rw [len_list]
        congr 2
        omega
      go_wp2
      go_ret
      exact ⟨ret_string HQ.out, rfl⟩

end Go.Proofs.YteecialdkfaejaaGreatDoor.Pre
