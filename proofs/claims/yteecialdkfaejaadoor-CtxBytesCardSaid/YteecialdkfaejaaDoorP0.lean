/-
  Bits of bytes, as numbers: which are 1, which are kept, how many two texts have alike from the first one on.
  Contracts of the calls that only reckon: Bit, its bounds, a byte's mask and its noughts ahead, Alike; and the document's own.
  The calls that make bytes: Keep, and Clean, which asks it; and the document's own.
  The document's example holds, in whatever world it is asked.
  The calls of layer 4, and the document's own: Least, Right, Cut, Fill, Lead.
-/
import Derived.Test.YteecialdkfaejaaDoorRows
import Derived.WalkKit
import Derived.ProofKit
import Derived.OpenShut
import Derived.ShutString
import Derived.Below
import Derived.Lib.Hide
import Derived.WalkLawsBesides
import Derived.Outline
import Derived.RegionTactic
import Derived.Deep.RegionWith
import Derived.StillTailTactics
import Derived.Deep.RegionHeld3
import Derived.Deep.QuietTactic
import Derived.BigQuiet
import Derived.IntWalk
import Derived.LoopTactic
import Derived.Laws.IdiomStrings
import Derived.OwnWalk
import Derived.Laws.CopyOwn
import Derived.Lib.BufferWrite
import Derived.Lib.MinMax
namespace Go.Proofs.YteecialdkfaejaaDoor.Bits
set_option linter.unusedVariables false
set_option maxRecDepth 100000

/-- the i-th bit of a byte's number, the highest first -/
def bitN (b p : Nat) : Bool := b.testBit (7 - p)

theorem bitN_eq (b p : Nat) : bitN b p = (b / 2 ^ (7 - p) % 2 == 1) := by
  unfold bitN
  rw [Nat.testBit_eq_decide_div_mod_eq]
  by_cases h : b / 2 ^ (7 - p) % 2 = 1 <;> simp [h]

theorem getD_in (l : List UInt8) (k : Nat) (h : k < l.length) : l.getD k 0 = l[k] := by simp [List.getD, h]
theorem getD_out (l : List UInt8) (k : Nat) (h : l.length ≤ k) : l.getD k 0 = 0 := by simp [List.getD, h]

def bitL (l : List UInt8) (i : Nat) : Bool := bitN (l.getD (i / 8) 0).toNat (i % 8)

theorem bitL_out (l : List UInt8) (i : Nat) (h : 8 * l.length ≤ i) : bitL l i = false := by
  unfold bitL
  rw [getD_out _ _ (by omega)]
  simp [bitN]

/-- the first m bits of a byte's number -/
def mask (b m : Nat) : Nat := (b >>> (8 - m)) <<< (8 - m)

theorem mask_eq (b m : Nat) : mask b m = b / 2 ^ (8 - m) * 2 ^ (8 - m) := by
  unfold mask; rw [Nat.shiftLeft_eq, Nat.shiftRight_eq_div_pow]

theorem mask_le (b m : Nat) : mask b m ≤ b := by rw [mask_eq]; exact Nat.div_mul_le_self _ _

theorem mask_all (b m : Nat) (h : 8 ≤ m) : mask b m = b := by
  rw [mask_eq, show 8 - m = 0 by omega]; simp

theorem mask_none (b : Nat) (h : b < 256) : mask b 0 = 0 := by
  rw [mask_eq]; omega

theorem bitN_mask (b m p : Nat) (hp : p < 8) : bitN (mask b m) p = (decide (p < m) && bitN b p) := by
  unfold bitN mask
  rw [Nat.testBit_shiftLeft, Nat.testBit_shiftRight]
  by_cases h : p < m
  · have e : 7 - p ≥ 8 - m := by omega
    simp [h, e]
  · have e : ¬ 7 - p ≥ 8 - m := by omega
    simp [h, e]

theorem bitN_xor (a b p : Nat) : bitN (a ^^^ b) p = (bitN a p ^^ bitN b p) := by
  unfold bitN; rw [Nat.testBit_xor]

/-- a number below 256 is its eight bits -/
theorem byte_ext {a b : Nat} (ha : a < 256) (hb : b < 256) (h : ∀ p, p < 8 → bitN a p = bitN b p) : a = b := by
  apply Nat.eq_of_testBit_eq
  intro j
  by_cases hj : j < 8
  · have := h (7 - j) (by omega)
    unfold bitN at this
    rw [show 7 - (7 - j) = j by omega] at this
    exact this
  · rw [Nat.testBit_lt_two_pow (Nat.lt_of_lt_of_le ha (show 256 ≤ 2 ^ j from Nat.pow_le_pow_right (n := 2) (by decide) (show 8 ≤ j by omega))),
      Nat.testBit_lt_two_pow (Nat.lt_of_lt_of_le hb (show 256 ≤ 2 ^ j from Nat.pow_le_pow_right (n := 2) (by decide) (show 8 ≤ j by omega)))]

theorem list_ext {a b : List UInt8} (hl : a.length = b.length) (h : ∀ i, i < 8 * a.length → bitL a i = bitL b i) : a = b := by
  apply List.ext_getElem hl
  intro k h1 h2
  apply UInt8.toNat_inj.1
  apply byte_ext (UInt8.toNat_lt _) (UInt8.toNat_lt _)
  intro p hp
  have := h (8 * k + p) (by omega)
  unfold bitL at this
  rw [show (8 * k + p) / 8 = k by omega, show (8 * k + p) % 8 = p by omega] at this
  rw [getD_in _ _ h1, getD_in _ _ h2] at this
  exact this

/-- the first n bits as they are, all others 0 -/
def keepL (l : List UInt8) (n : Nat) : List UInt8 := l.mapIdx fun j b => UInt8.ofNat (mask b.toNat (n - 8 * j))

theorem keepL_length (l : List UInt8) (n : Nat) : (keepL l n).length = l.length := by simp [keepL]

theorem ofNat_mask (b : UInt8) (m : Nat) : (UInt8.ofNat (mask b.toNat m)).toNat = mask b.toNat m := by
  have h := mask_le b.toNat m
  have := UInt8.toNat_lt b
  rw [UInt8.toNat_ofNat']
  omega

theorem keepL_get (l : List UInt8) (n j : Nat) (h : j < (keepL l n).length) : ((keepL l n)[j]).toNat = mask (l[j]'(by simpa [keepL_length] using h)).toNat (n - 8 * j) := by
  simp only [keepL, List.getElem_mapIdx]
  exact ofNat_mask _ _

theorem bitL_keep (l : List UInt8) (n i : Nat) : bitL (keepL l n) i = (decide (i < n) && bitL l i) := by
  by_cases h : i < 8 * l.length
  · unfold bitL
    rw [getD_in _ _ (show i / 8 < (keepL l n).length by rw [keepL_length]; omega), getD_in _ _ (show i / 8 < l.length by omega), keepL_get, bitN_mask _ _ _ (by omega)]
    congr 1
    by_cases hn : i < n
    · simp [hn]; omega
    · simp [hn]; omega
  · rw [bitL_out _ _ (by rw [keepL_length]; omega), bitL_out l i (by omega)]; simp

theorem keepL_keep (l : List UInt8) (n m : Nat) : keepL (keepL l n) m = keepL l (min n m) := by
  apply list_ext (by simp [keepL_length])
  intro i _
  rw [bitL_keep, bitL_keep, bitL_keep, ← Bool.and_assoc]
  congr 1
  by_cases h1 : i < n <;> by_cases h2 : i < m <;> simp [h1, h2] <;> omega

theorem keepL_all (l : List UInt8) (n : Nat) (h : 8 * l.length ≤ n) : keepL l n = l := by
  apply list_ext (by simp [keepL_length])
  intro i hi
  rw [keepL_length] at hi
  rw [bitL_keep]
  simp; omega

theorem keepL_none (l : List UInt8) : keepL l 0 = List.replicate l.length 0 := by
  apply List.ext_getElem (by simp [keepL_length])
  intro k h1 h2
  apply UInt8.toNat_inj.1
  rw [keepL_get, List.getElem_replicate]
  simp [mask_none _ (UInt8.toNat_lt _)]

theorem keepL_min (l : List UInt8) (n : Nat) : keepL l (min n (8 * l.length)) = keepL l n := by
  apply list_ext (by simp [keepL_length])
  intro i hi
  rw [keepL_length] at hi
  rw [bitL_keep, bitL_keep]
  congr 1
  by_cases h : i < n <;> simp [h] <;> omega

/-- clean: nothing that keeping takes away -/
theorem keepL_clean (l : List UInt8) (n : Nat) : (keepL l n = l) ↔ ∀ i, n ≤ i → bitL l i = false := by
  constructor
  · intro h i hi
    rw [← h, bitL_keep]
    simp; omega
  · intro h
    apply list_ext (by simp [keepL_length])
    intro i _
    rw [bitL_keep]
    by_cases hn : i < n
    · simp [hn]
    · rw [h i (by omega)]; simp

/-- how many hold, from 0 on, below m -/
def lead (p : Nat → Bool) : Nat → Nat
  | 0 => 0
  | m + 1 => if lead p m = m ∧ p m = true then m + 1 else lead p m

theorem lead_le (p : Nat → Bool) (m : Nat) : lead p m ≤ m := by
  induction m with
  | zero => exact Nat.le_refl _
  | succ m ih => unfold lead; split <;> omega

theorem lead_below (p : Nat → Bool) (m i : Nat) (h : i < lead p m) : p i = true := by
  induction m with
  | zero => simp [lead] at h
  | succ m ih =>
    unfold lead at h
    split at h
    · rename_i hc
      by_cases e : i = m
      · rw [e]; exact hc.2
      · exact ih (by omega)
    · exact ih h

theorem lead_at (p : Nat → Bool) (m : Nat) (h : lead p m < m) : p (lead p m) = false := by
  induction m with
  | zero => omega
  | succ m ih =>
    have hle := lead_le p m
    unfold lead at h ⊢
    split at h
    · omega
    · rename_i hc
      rw [if_neg hc]
      by_cases e : lead p m = m
      · rw [e]
        by_cases hp : p m = true
        · exact absurd ⟨e, hp⟩ hc
        · simpa using hp
      · exact ih (by omega)

theorem lead_eq (p : Nat → Bool) (m k : Nat) (hk : k ≤ m) (h1 : ∀ i, i < k → p i = true) (h2 : k < m → p k = false) : lead p m = k := by
  have hle := lead_le p m
  by_cases h : lead p m < k
  · have := lead_at p m (by omega)
    rw [h1 _ h] at this
    cases this
  · by_cases h' : k < lead p m
    · have := lead_below p m k h'
      rw [h2 (by omega)] at this
      cases this
    · omega

/-- how many bits both have alike -/
def alikeN (a b : List UInt8) : Nat := lead (fun i => bitL a i == bitL b i) (8 * min a.length b.length)

theorem alike_comm (a b : List UInt8) : alikeN a b = alikeN b a := by
  unfold alikeN
  rw [Nat.min_comm]
  congr 1
  funext i
  exact Bool.beq_comm

/-- how many bits of a byte's number are 0 ahead of the first 1 -/
def noughts (b : Nat) : Nat := lead (fun p => !bitN b p) 8

theorem noughts_eq (b k : Nat) (hk : k ≤ 8) (h1 : b < 2 ^ (8 - k)) (h2 : k < 8 → 2 ^ (7 - k) ≤ b) : noughts b = k := by
  apply lead_eq _ _ _ hk
  · intro p hp
    have : b.testBit (7 - p) = false := Nat.testBit_lt_two_pow (Nat.lt_of_lt_of_le h1 (Nat.pow_le_pow_right (by decide) (by omega)))
    simp [bitN, this]
  · intro h
    have h2 := h2 h
    have e : b / 2 ^ (7 - k) = 1 := by
      have hp : 0 < 2 ^ (7 - k) := Nat.two_pow_pos _
      have hh : b < 2 * 2 ^ (7 - k) := by
        have : 2 ^ (8 - k) = 2 * 2 ^ (7 - k) := by rw [show 8 - k = (7 - k) + 1 by omega, Nat.pow_succ]; omega
        omega
      have := (Nat.div_lt_iff_lt_mul hp).2 hh
      have := (Nat.le_div_iff_mul_le hp).2 (show 1 * 2 ^ (7 - k) ≤ b by omega)
      omega
    show (!bitN b k) = false
    rw [bitN_eq, e]; rfl

theorem noughts_below (b p : Nat) (h : p < noughts b) : bitN b p = false := by
  have := lead_below (fun p => !bitN b p) 8 p h
  simpa using this
theorem noughts_at (b : Nat) (h : noughts b < 8) : bitN b (noughts b) = true := by
  have : (!bitN b (noughts b)) = false := lead_at (fun p => !bitN b p) 8 h
  simpa using this
theorem noughts_le (b : Nat) : noughts b ≤ 8 := lead_le _ _

theorem xor_noughts (a b : Nat) (ha : a < 256) (hb : b < 256) (hne : a ≠ b) :
    ∃ z, noughts (a ^^^ b) = z ∧ z < 8 ∧ (∀ p, p < z → bitN a p = bitN b p) ∧ bitN a z ≠ bitN b z := by
  have hsame : ∀ p, p < noughts (a ^^^ b) → bitN a p = bitN b p := by
    intro p hp
    have := noughts_below _ p hp
    rw [bitN_xor] at this
    revert this
    cases bitN a p <;> cases bitN b p <;> simp
  have hz : noughts (a ^^^ b) < 8 := by
    have hle := noughts_le (a ^^^ b)
    by_cases h : noughts (a ^^^ b) < 8
    · exact h
    · exact absurd (byte_ext ha hb fun p hp => hsame p (by omega)) hne
  refine ⟨_, rfl, hz, hsame, ?_⟩
  have := noughts_at _ hz
  rw [bitN_xor] at this
  revert this
  cases bitN a (noughts (a ^^^ b)) <;> cases bitN b (noughts (a ^^^ b)) <;> simp

theorem take_get (a b : List UInt8) (i k : Nat) (h : a.take i = b.take i) (hk : k < i) : a.getD k 0 = b.getD k 0 := by
  have h1 : (a.take i)[k]? = (b.take i)[k]? := by rw [h]
  rw [List.getElem?_take_of_lt hk, List.getElem?_take_of_lt hk] at h1
  simp [List.getD, h1]

/-- bytes that are the same up to the i-th, which isn't -/
theorem alike_differ (a b : List UInt8) (i : Nat) (ha : i < a.length) (hb : i < b.length) (hsame : a.take i = b.take i) (hne : a[i].toNat ≠ b[i].toNat) :
    alikeN a b = 8 * i + noughts (a[i].toNat ^^^ b[i].toNat) := by
  obtain ⟨z, hz, hz8, hzs, hzd⟩ := xor_noughts a[i].toNat b[i].toNat (UInt8.toNat_lt _) (UInt8.toNat_lt _) hne
  rw [hz]
  unfold alikeN
  apply lead_eq
  · have : i + 1 ≤ min a.length b.length := by omega
    omega
  · intro j hj
    simp only [bitL]
    by_cases hji : j / 8 < i
    · rw [take_get a b i (j / 8) hsame hji]
      simp
    · have e : j / 8 = i := by omega
      rw [e, getD_in _ _ ha, getD_in _ _ hb, hzs (j % 8) (by omega)]
      simp
  · intro _
    simp only [bitL]
    rw [show (8 * i + z) / 8 = i by omega, show (8 * i + z) % 8 = z by omega, getD_in _ _ ha, getD_in _ _ hb]
    simpa using hzd

/-- no byte differs up to the shorter one's end -/
theorem alike_full (a b : List UInt8) (h : a.take (min a.length b.length) = b.take (min a.length b.length)) : alikeN a b = 8 * min a.length b.length := by
  unfold alikeN
  apply lead_eq _ _ _ (Nat.le_refl _)
  · intro j hj
    simp only [bitL]
    rw [take_get a b _ (j / 8) h (by omega)]
    simp
  · intro h; omega

theorem alike_le (a b : List UInt8) : alikeN a b ≤ 8 * min a.length b.length := lead_le _ _
theorem alike_below (a b : List UInt8) (i : Nat) (h : i < alikeN a b) : bitL a i = bitL b i := by
  have := lead_below (fun i => bitL a i == bitL b i) _ i h
  simpa using this
theorem alike_at (a b : List UInt8) (h : alikeN a b < 8 * min a.length b.length) : bitL a (alikeN a b) ≠ bitL b (alikeN a b) := by
  have : (bitL a (alikeN a b) == bitL b (alikeN a b)) = false := lead_at (fun i => bitL a i == bitL b i) _ h
  simpa using this
theorem alike_keep (a b : List UInt8) (hl : a.length = b.length) : keepL a (alikeN a b) = keepL b (alikeN a b) := by
  apply list_ext (by simp [keepL_length, hl])
  intro i _
  rw [bitL_keep, bitL_keep]
  by_cases h : i < alikeN a b
  · rw [alike_below a b i h]
  · simp [h]

/-- the row where one bit more is kept -/
theorem keepL_set (l : List UInt8) (i : Nat) (h : i < 8 * l.length) :
    keepL l (i + 1) = (keepL l i).set (i / 8) (UInt8.ofNat (mask (l[i / 8]'(by omega)).toNat (i % 8 + 1))) := by
  apply List.ext_getElem (by simp [keepL_length])
  intro k h1 h2
  rw [List.getElem_set]
  have hk : k < l.length := by simpa [keepL_length] using h1
  split
  · rename_i e
    subst e
    apply UInt8.toNat_inj.1
    rw [keepL_get, ofNat_mask]
    congr 1
    omega
  · rename_i e
    apply UInt8.toNat_inj.1
    rw [keepL_get, keepL_get]
    by_cases hlt : k < i / 8
    · rw [mask_all _ _ (by omega), mask_all _ _ (by omega)]
    · rw [show i + 1 - 8 * k = 0 by omega, show i - 8 * k = 0 by omega]

theorem mask_next (b p : Nat) (hb : b < 256) (hp : p < 8) : mask b (p + 1) = mask b p + (if bitN b p = true then 2 ^ (7 - p) else 0) := by
  rw [mask_eq, mask_eq, bitN_eq]
  have : p = 0 ∨ p = 1 ∨ p = 2 ∨ p = 3 ∨ p = 4 ∨ p = 5 ∨ p = 6 ∨ p = 7 := by omega
  rcases this with rfl | rfl | rfl | rfl | rfl | rfl | rfl | rfl <;> simp <;> split <;> omega

/-- the row that a copy and one masked byte make -/
theorem keepL_parts (l : List UInt8) (n : Nat) (h : n ≤ 8 * l.length) :
    keepL l n = if n % 8 = 0 then l.take (n / 8) ++ List.replicate (l.length - n / 8) 0
      else (l.take (n / 8) ++ List.replicate (l.length - n / 8) 0).set (n / 8) (UInt8.ofNat (mask (l.getD (n / 8) 0).toNat (n % 8))) := by
  have hbase : ∀ k (h1 : k < l.length), k ≠ n / 8 ∨ n % 8 = 0 → (keepL l n)[k]'(by simpa [keepL_length] using h1) = (l.take (n / 8) ++ List.replicate (l.length - n / 8) 0)[k]'(by simp; omega) := by
    intro k hk hc
    apply UInt8.toNat_inj.1
    rw [keepL_get, List.getElem_append]
    split
    · rename_i hlt
      simp at hlt
      rw [mask_all _ _ (by omega), List.getElem_take]
    · rename_i hlt
      simp at hlt
      rw [show n - 8 * k = 0 by omega, mask_none _ (UInt8.toNat_lt _), List.getElem_replicate]
      rfl
  have hlen : (l.take (n / 8) ++ List.replicate (l.length - n / 8) (0 : UInt8)).length = l.length := by simp; omega
  split
  · rename_i h0
    apply List.ext_getElem (by rw [hlen, keepL_length])
    intro k h1 h2
    rw [keepL_length] at h1
    exact hbase k h1 (.inr h0)
  · rename_i h0
    apply List.ext_getElem (by rw [List.length_set, hlen, keepL_length])
    intro k h1 h2
    rw [keepL_length] at h1
    rw [List.getElem_set]
    split
    · rename_i e
      subst e
      apply UInt8.toNat_inj.1
      rw [keepL_get, ofNat_mask, getD_in _ _ h1]
      congr 1
      omega
    · rename_i e
      exact hbase k h1 (.inl fun he => e he.symm)
end Go.Proofs.YteecialdkfaejaaDoor.Bits
namespace Go.Proofs.YteecialdkfaejaaDoor.Bits
open Go.ChangeShapes Go.WideShapes Go.ChangeAt Go.RowKit
set_option linter.unusedVariables false
set_option maxRecDepth 100000

theorem bool_eq {a b : Bool} (h : a = b) : Ending.returned (.bool a) = .returned (.bool b) := by rw [h]
theorem int_eq {k : IntKind} {a b : Int} (h : a = b) : Ending.returned (.int k a) = .returned (.int k b) := by rw [h]

/-- the i-th bit of a text, false if there is none -/
def bitZ (s : ByteArray) (i : Int) : Bool := decide (0 ≤ i) && bitL s.data.toList i.toNat

theorem len_list (s : ByteArray) : s.data.toList.length = s.size := by simp
theorem getD_byte (s : ByteArray) (k : Nat) (h : k < s.size) : s.data.toList.getD k 0 = s[k] := by
  rw [getD_in _ _ (by simpa using h)]; rfl

theorem bitZ_in (s : ByteArray) (i : Nat) (h : i < 8 * s.size) : bitZ s i = (s[i / 8].toNat / 2 ^ (7 - i % 8) % 2 == 1) := by
  unfold bitZ bitL
  rw [Int.toNat_natCast, getD_byte s (i / 8) (by omega), bitN_eq]
  simp
theorem bitZ_neg (s : ByteArray) (i : Int) (h : i < 0) : bitZ s i = false := by unfold bitZ; simp; omega
theorem bitZ_out (s : ByteArray) (i : Int) (h : 8 * (s.size : Int) ≤ i) : bitZ s i = false := by
  unfold bitZ; rw [bitL_out _ _ (by rw [len_list]; omega)]; simp

theorem and_one (b k : Nat) (hb : b < 256) : (bits BinOp.and IntKind.u8 ((b : Int) / 2 ^ k) 1 == 1) = (b / 2 ^ k % 2 == 1) := by
  have h1 : (b : Int) / 2 ^ k = ((b / 2 ^ k : Nat) : Int) := by simp
  have h2 : b / 2 ^ k ≤ b := Nat.div_le_self _ _
  rw [h1]
  generalize b / 2 ^ k = m at h2 ⊢
  rw [u8_and _ _ (by omega) (by omega) (by omega) (by omega)]
  rw [Int.toNat_natCast, show (1 : Int).toNat = 1 from rfl, Nat.and_one_is_mod]
  rw [Bool.eq_iff_iff]; simp; omega

theorem mod_two (b k : Nat) (hb : b < 256) : ((wrap64 (b : Int) / 2 ^ k).tmod 2 == 1) = (b / 2 ^ k % 2 == 1) := by
  rw [IntWalk.wrap64_in _ (by omega)]
  have h1 : (b : Int) / 2 ^ k = ((b / 2 ^ k : Nat) : Int) := by simp
  rw [h1]
  generalize b / 2 ^ k = m
  rw [Int.tmod_eq_emod_of_nonneg (by omega)]
  rw [Bool.eq_iff_iff]; simp; omega

set_option maxHeartbeats 400000 in
theorem count_any (s : ByteArray) (w : World) (hs : s.size ≤ 1048576) :
    Calls Tryd.prog 96 #[.string s] w fun e w' => e = .returned (.int .i64 (8 * (s.size : Nat) : Int)) ∧ w = w' := by
  go_enter Tryd.func96, Tryd.ntmps96
  go_wp2
  go_ret
  exact ⟨rfl, rfl⟩

set_option maxHeartbeats 400000 in
theorem rbit_any (s : ByteArray) (i : Int) (w : World) (hs : s.size ≤ 1048576) :
    Calls Tryd.prog 81 #[.string s, .int .i64 i] w fun e w' => e = .returned (.bool (bitZ s i)) ∧ w = w' := by
  by_cases h0 : i < 0
  · go_enter Tryd.func81, Tryd.ntmps81
    go_wp2
    go_ret
    exact ⟨bool_eq (bitZ_neg s i h0).symm, rfl⟩
  · by_cases h1 : i < 8 * (s.size : Int)
    · obtain ⟨i, rfl⟩ := Int.eq_ofNat_of_zero_le (show 0 ≤ i by omega)
      have h2 : i < 8 * s.size := by omega
      clear h0 h1
      go_enter Tryd.func81, Tryd.ntmps81
      go_wp2
      go_ret
      exact ⟨bool_eq (by rw [bitZ_in s i h2]; exact mod_two _ _ (UInt8.toNat_lt _)), rfl⟩
    · go_enter Tryd.func81, Tryd.ntmps81
      go_wp2
      go_ret
      exact ⟨bool_eq (bitZ_out s i (by omega)).symm, rfl⟩

/-- a number as one of a text's bits -/
def inZ (s : ByteArray) (n : Int) : Nat := min n.toNat (8 * s.size)

set_option maxHeartbeats 400000 in
theorem within_any (s : ByteArray) (n : Int) (w : World) (hs : s.size ≤ 1048576) :
    Calls Tryd.prog 91 #[.string s, .int .i64 n] w fun e w' => e = .returned (.int .i64 (inZ s n : Nat)) ∧ w = w' := by
  by_cases h0 : n < 0
  · go_enter Tryd.func91, Tryd.ntmps91
    go_wp2
    go_ret
    exact ⟨int_eq (by unfold inZ; omega), rfl⟩
  · by_cases h1 : 8 * (s.size : Int) < n
    · go_enter Tryd.func91, Tryd.ntmps91
      go_wp2_with fail
      refine (count_any _ _ hs).mono ?_
      rintro e w1 ⟨rfl, rfl⟩
      go_wp2_with fail
      refine (count_any _ _ hs).mono ?_
      rintro e w1 ⟨rfl, rfl⟩
      go_wp2
      go_ret
      exact ⟨int_eq (by unfold inZ; omega), rfl⟩
    · go_enter Tryd.func91, Tryd.ntmps91
      go_wp2_with fail
      refine (count_any _ _ hs).mono ?_
      rintro e w1 ⟨rfl, rfl⟩
      go_wp2
      go_ret
      exact ⟨int_eq (by unfold inZ; omega), rfl⟩

set_option maxHeartbeats 400000 in
theorem high_in (r : Nat) (w : World) (h : r ≤ 8) :
    Calls Tryd.prog 92 #[.int .i64 r] w fun e w' => e = .returned (.int .u8 ((255 * 2 ^ (8 - r) % 256 : Nat) : Int)) ∧ w = w' := by
  go_enter Tryd.func92, Tryd.ntmps92
  go_wp2
  go_ret
  exact ⟨int_eq (by simp), rfl⟩

theorem xor_byte (a b : UInt8) : bits BinOp.xor IntKind.u8 (a.toNat : Int) (b.toNat : Int) = ((a.toNat ^^^ b.toNat : Nat) : Int) :=
  u8_xor_nat _ _ (UInt8.toNat_lt _) (UInt8.toNat_lt _)

theorem take_snoc (s : ByteArray) (k : Nat) (h : k < s.size) : s.data.toList.take (k + 1) = s.data.toList.take k ++ [s[k]] := by
  rw [List.take_succ_eq_append_getElem (by simpa using h)]; rfl

theorem bitZ_nat (s : ByteArray) (i : Nat) : bitZ s i = bitL s.data.toList i := by unfold bitZ; simp

end Go.Proofs.YteecialdkfaejaaDoor.Bits
namespace Go.Proofs.YteecialdkfaejaaDoor.Bits
open Go.ChangeShapes Go.WideShapes Go.ChangeAt Go.RowKit
set_option linter.unusedVariables false
set_option maxRecDepth 100000

theorem info5 : (Tryd.prog.info? 5).map (fun i => (i.zero, i.size, i.bytes)) = some (some (.int .u8 0), 1, 1) := by kernel_rfl

/-- bytes, as the cells of a row -/
def cellsL (l : List UInt8) : List Value := l.map fun b => Value.int .u8 b.toNat

theorem cellsL_length (l : List UInt8) : (cellsL l).length = l.length := by simp [cellsL]

theorem conv_row (w : World) (g c : Nat) (base : Nat) (l : List UInt8) (n : Nat) (hn : l.length = n) (h : w.ownsRow base 5 1 (.slice (some ⟨g, 0, none⟩) n c) n (cellsL l)) :
    (convert 42 9 (.slice (some ⟨g, 0, none⟩) n c)).run Tryd.prog w = .ok (.string ⟨l.toArray⟩) w := by
  subst hn
  refine run_convert_bytes_back w 42 9 5 ⟨g, 0, none⟩ c l Tryd.underlying42 Tryd.underlying5 Tryd.underlying9 fun j hj => ?_
  have := h.cellAt j (by omega)
  simp [Addr.add_lit]
  rw [this]
  simp [cellsL, hj]

theorem ret_string {a b : ByteArray} (h : a = b) : Ending.returned (.string a) = .returned (.string b) := by rw [h]

/-- copy(row, s), s no longer than the row: its bytes stand at the row's head -/
theorem wpList_copy_str {P : Program} {w : World} {ops : Array Oper} {rest : List Oper} {o : Oper} {a : Act} {Q : Exit → Act → World → Prop} (hgd : o.guard = none) (d s : Operand) (dT sT : TypeId)
    (ho : o.op = .call { callee := .builtin .copy, args := #[d, s], argTypes := #[dT, sT] }) (elem : TypeId) (hu : P.underlying dT = some (.slice elem)) (hsz : (P.info? elem).map (·.size) = some 1)
    (g n : Nat) (hd : a.eval d = .slice (some ⟨g, 0, none⟩) n n) (t : ByteArray) (hs : a.eval s = .string t)
    (base : Nat) (xs : List Value) (hrow : w.ownsRow base elem 1 (.slice (some ⟨g, 0, none⟩) n n) n xs) (hle : t.size ≤ n)
    (h : ∀ w', w'.ownsRow base elem 1 (.slice (some ⟨g, 0, none⟩) n n) n (cellsL t.data.toList ++ xs.drop t.size) → w.grownBy w' (some g) → wpList P ops Q rest (a.put o.dst (goInt t.size)) w') :
    wpList P ops Q (o :: rest) a w := by
  obtain ⟨hlen, hrow⟩ := hrow
  rcases hrow with ⟨h', _⟩ | ⟨g', cap', cur, h', hb, hg, hnc, hcm, hcs, htake⟩
  · simp at h'
  · simp only [Value.slice.injEq, Option.some.injEq, Addr.mk.injEq, and_true, true_and] at h'
    obtain ⟨rfl, rfl⟩ := h'
    simp only [Nat.mul_one] at hlen hcs htake
    have hrun := Lib.run_copy_row_string (P := P) w dT sT o.type elem g 0 n n t cur elem hu hsz hg hle (by omega)
    have hxs : cur.toList = xs := by rw [← htake, List.take_of_length_le (by simp; omega)]
    have hnew : List.take 0 cur.toList ++ Lib.byteCells t.data.toList ++ List.drop (0 + t.size) cur.toList = cellsL t.data.toList ++ xs.drop t.size := by
      rw [hxs]; simp [Lib.byteCells, cellsL]
    rw [hnew] at hrun
    refine wpList_plain hgd fun K hK => ?_
    unfold Oper.wp
    simp [execOp, ho, resolve, invoke, builtin, hd, hs, hrun, Result.andThen]
    refine hK _ _ (h _ ⟨?_, .inr ⟨g, n, _, rfl, hb, setRow_heap w g _ _ elem _ hg, Nat.le_refl _, hcm, ?_, ?_⟩⟩ ⟨rfl, rfl, rfl, by simp [World.setRow], fun k _ hk => setRow_other w g k _ (fun e => hk (by rw [e]))⟩)
    · simp [cellsL_length]; omega
    · simp [cellsL_length]; omega
    · rw [Nat.mul_one]; exact List.take_of_length_le (by simp [cellsL_length]; omega)

theorem and_high (b r : Nat) (hb : b < 256) (h : r ≤ 8) : bits BinOp.and IntKind.u8 (b : Int) ((255 * 2 ^ (8 - r) % 256 : Nat) : Int) = ((mask b r : Nat) : Int) := by
  rw [u8_and_nat _ _ hb (by omega), mask_eq]
  congr 1
  have : r = 0 ∨ r = 1 ∨ r = 2 ∨ r = 3 ∨ r = 4 ∨ r = 5 ∨ r = 6 ∨ r = 7 ∨ r = 8 := by omega
  revert b
  rcases this with rfl | rfl | rfl | rfl | rfl | rfl | rfl | rfl | rfl <;> decide +kernel

set_option maxHeartbeats 800000 in
theorem keep_any (s : ByteArray) (n : Int) (w : World) (hs : s.size ≤ 1048576) :
    Calls Tryd.prog 79 #[.string s, .int .i64 n] w fun e w' => e = .returned (.string ⟨(keepL s.data.toList n.toNat).toArray⟩) ∧ Below w.heap.size w w' := by
  obtain ⟨i0, hi, hz0, hz1, hz2⟩ := info_parts info5
  have HK : Hid (keepL s.data.toList n.toNat = keepL s.data.toList (inZ s n)) := by
    have := keepL_min s.data.toList n.toNat
    rw [len_list] at this
    exact Lib.hid this.symm
  have hm : inZ s n ≤ 8 * s.size := by unfold inZ; omega
  have HW := Lib.hid (fun w => within_any s n w hs)
  generalize inZ s n = m at *
  go_enter Tryd.func79, Tryd.ntmps79
  go_wp2_with fail
  refine (HW.out _).mono ?_
  rintro e w1 ⟨rfl, rfl⟩
  clear HW
  go_wp2_with (at_make; refine wpList_make_full _ rfl _ _ 42 rfl w.heap.size 5 i0 (.int .u8 0) 1 Tryd.underlying42 hi hz0 hz1 _ _ _ _ s.size rfl rfl rfl rfl (by rw [hz2]; omega) (by unfold maxLen; omega) (by simp) ?_)
  intro w1 hown hgrow
  have HG := Lib.hid hgrow
  have HO := Lib.hid hown
  clear hgrow hown
  have hsz : (Tryd.prog.info? 5).map (·.size) = some 1 := by rw [hi]; simp [hz1]
  go_wp2_with (with_reducible refine wpList_copy_str rfl (.tmp 12) (.tmp 16) 42 9 rfl 5 Tryd.underlying42 hsz w.heap.size s.size rfl _ rfl w.heap.size _ HO.out ?_ ?_)
  · simp; omega
  intro w2 hown2 hgrow2
  have HB2 : Hid (Below w.heap.size w w2) := Lib.hid (((Below.refl _ _).grown HG.out (Nat.le_refl _) (fun k hk => by cases hk)).grown hgrow2 HG.out.size (fun k hk => by cases hk; exact Nat.le_refl _))
  have HO2 : Hid (w2.ownsRow w.heap.size 5 1 (.slice (some ⟨w.heap.size, 0, none⟩) s.size s.size) s.size (cellsL (s.data.toList.take (m / 8) ++ List.replicate (s.size - m / 8) 0))) := by
    have e : cellsL (s.data.toList.take (m / 8) ++ List.replicate (s.size - m / 8) 0) = cellsL (List.take (m / 8) s.data.toList) ++ List.drop (min (m / 8) s.size) (madeCells #[Value.int IntKind.u8 0] s.size).toList := by
      rw [toList_madeCells_one, Nat.min_eq_left (by omega)]
      simp [cellsL]
    exact Lib.hid (by rw [e]; exact hown2)
  clear hown2 hgrow2 HG HO hi hz0 hz1 hz2 hsz
  have HP := Lib.hid (keepL_parts s.data.toList m (by rw [len_list]; exact hm))
  rw [len_list] at HP
  by_cases h0 : m % 8 = 0
  · have HC : Hid (w2.ownsRow w.heap.size 5 1 (.slice (some ⟨w.heap.size, 0, none⟩) s.size s.size) s.size (cellsL (keepL s.data.toList n.toNat))) := by
      have := HP.out
      rw [if_pos h0] at this
      exact Lib.hid (by rw [HK.out, this]; exact HO2.out)
    have hc := conv_row w2 w.heap.size s.size w.heap.size (keepL s.data.toList n.toNat) s.size (by rw [keepL_length, len_list]) HC.out
    clear HC HO2 HP
    go_wp2
    go_ret
    exact ⟨rfl, HB2.out⟩
  · have hk : m / 8 < s.size := by omega
    have ho : ((m : Int) / 8).toNat = m / 8 := by omega
    have hfr := HO2.out.frozenAt ((m : Int) / 8).toNat
    obtain ⟨u, hcl⟩ : ∃ u, w2.cell? ⟨w.heap.size, ((m : Int) / 8).toNat, none⟩ = some u := by
      rw [HO2.out.cellAt _ (by omega)]
      exact ⟨_, List.getElem?_eq_getElem (by have := HO2.out.1; omega)⟩
    have HR : Hid (cellsL (keepL s.data.toList m) = (cellsL (s.data.toList.take (m / 8) ++ List.replicate (s.size - m / 8) 0)).set ((m : Int) / 8).toNat (.int .u8 ((mask s[m / 8].toNat (m % 8) : Nat) : Int))) := by
      have := HP.out
      rw [if_neg h0, getD_byte s (m / 8) hk] at this
      refine Lib.hid ?_
      rw [this, ho]
      unfold cellsL
      rw [List.map_set, ofNat_mask]
    have hand : bits BinOp.and IntKind.u8 (s[((m : Int) / 8).toNat].toNat : Int) ((255 * 2 ^ (8 - m % 8) % 256 : Nat) : Int) = ((mask s[m / 8].toNat (m % 8) : Nat) : Int) := by
      have := and_high s[m / 8].toNat (m % 8) (UInt8.toNat_lt _) (by omega)
      simp only [ho]
      exact this
    have HO' := Lib.hid ho
    clear ho
    generalize mask s[m / 8].toNat (m % 8) = mv at *
    have HH : Hid (∀ w, Calls Tryd.prog 92 #[.int .i64 ((m : Int) % 8)] w fun e w' => e = .returned (.int .u8 ((255 * 2 ^ (8 - m % 8) % 256 : Nat) : Int)) ∧ w = w') := by
      have := fun w => high_in (m % 8) w (by omega)
      rw [show ((m % 8 : Nat) : Int) = (m : Int) % 8 by omega] at this
      exact Lib.hid this
    generalize 255 * 2 ^ (8 - m % 8) % 256 = hv at *
    have hbd : (0 : Int) ≤ (m : Int) / 8 ∧ (m : Int) / 8 < (s.size : Int) := by omega
    have hq1 : IntKind.i64.wrap ((m : Int).tdiv 8) = (m : Int) / 8 := IntWalk.i64_quo _ _ (by omega)
    have hq2 : wrap64 ((m : Int).tdiv 8) = (m : Int) / 8 := by rw [← IntWalk.i64_left]; exact hq1
    have hq3 : IntKind.i64.wrap ((m : Int) / 8) = (m : Int) / 8 := IntWalk.i64_in _ (by omega)
    have hq4 : (m : Int).tdiv 8 = (m : Int) / 8 := Int.tdiv_eq_ediv_of_nonneg (by omega)
    have hq5 : (m : Int).tmod 8 = (m : Int) % 8 := Int.tmod_eq_emod_of_nonneg (by omega)
    have hq6 : IntKind.i64.wrap ((m : Int) % 8) = (m : Int) % 8 := IntWalk.i64_in _ (by omega)
    go_wp2
    go_region_with (go_at_call 92; refine (HH.out _).mono ?_; rintro e w9 ⟨rfl, rfl⟩)
    all_goals
      have HC : Hid ((w2.setCell ⟨w.heap.size, ((m : Int) / 8).toNat, none⟩ (.int .u8 (mv : Int))).drew.ownsRow w.heap.size 5 1 (.slice (some ⟨w.heap.size, 0, none⟩) s.size s.size) s.size (cellsL (keepL s.data.toList n.toNat))) := by
        have h3 := (HO2.out).stored ((m : Int) / 8).toNat (.int .u8 (mv : Int))
        refine Lib.hid ?_
        rw [HK.out, HR.out]
        exact World.ownsRow.drew h3.1
      have HB3 : Hid (Below w.heap.size w (w2.setCell ⟨w.heap.size, ((m : Int) / 8).toNat, none⟩ (.int .u8 (mv : Int))).drew) := Lib.hid ((HB2.out.setCell (Nat.le_refl _) _).drew)
      clear HO2 HP hcl hfr hand HB2 HR HK HO' hq1 hq2 hq3 hq4 hq5 hq6 HH
      generalize (w2.setCell ⟨w.heap.size, ((m : Int) / 8).toNat, none⟩ (.int .u8 (mv : Int))).drew = w3 at *
      have hc := conv_row w3 w.heap.size s.size w.heap.size (keepL s.data.toList n.toNat) s.size (by rw [keepL_length, len_list]) HC.out
      clear HC
      go_wp2
      go_ret
      exact ⟨rfl, HB3.out⟩

/-- a bit that is 0 may be kept or not -/
theorem keepL_skip (l : List UInt8) (i : Nat) (h : bitL l i = false) : keepL l (i + 1) = keepL l i := by
  apply list_ext (by simp [keepL_length])
  intro j _
  rw [bitL_keep, bitL_keep]
  by_cases e : j = i
  · rw [e, h]; simp
  · congr 1
    by_cases hj : j < i <;> simp [hj] <;> omega

theorem keepL_add (l : List UInt8) (i : Nat) (h : i < 8 * l.length) (hb : bitL l i = true) :
    cellsL (keepL l (i + 1)) = (cellsL (keepL l i)).set (i / 8) (.int .u8 ((mask (l.getD (i / 8) 0).toNat (i % 8) + 2 ^ (7 - i % 8) : Nat) : Int)) := by
  rw [keepL_set l i h]
  unfold cellsL
  rw [List.map_set, ofNat_mask, mask_next _ _ (UInt8.toNat_lt _) (by omega)]
  have e : bitN (l[i / 8]'(by omega)).toNat (i % 8) = true := by
    unfold bitL at hb
    rw [getD_in _ _ (show i / 8 < l.length by omega)] at hb
    exact hb
  rw [if_pos e, getD_in _ _ (show i / 8 < l.length by omega)]

theorem keepL_cell (l : List UInt8) (i : Nat) (h : i < 8 * l.length) : (cellsL (keepL l i))[i / 8]? = some (.int .u8 ((mask (l.getD (i / 8) 0).toNat (i % 8) : Nat) : Int)) := by
  have hk : i / 8 < (keepL l i).length := by rw [keepL_length]; omega
  unfold cellsL
  rw [List.getElem?_map, List.getElem?_eq_getElem hk]
  show some (Value.int .u8 (((keepL l i)[i / 8]).toNat : Int)) = _
  rw [keepL_get, getD_in _ _ (show i / 8 < l.length by omega)]
  congr 5
  omega

theorem mask_room (b p : Nat) (hb : b < 256) (hp : p < 8) : mask b p + 2 ^ (7 - p) < 256 := by
  rw [mask_eq]
  have : p = 0 ∨ p = 1 ∨ p = 2 ∨ p = 3 ∨ p = 4 ∨ p = 5 ∨ p = 6 ∨ p = 7 := by omega
  rcases this with rfl | rfl | rfl | rfl | rfl | rfl | rfl | rfl <;> simp <;> omega

theorem sum_byte (a k : Nat) (h : a + 2 ^ k < 256) : ((a : Int) + 2 ^ k) % 256 = ((a + 2 ^ k : Nat) : Int) := by
  have e : (2 : Int) ^ k = ((2 ^ k : Nat) : Int) := by simp
  rw [e]
  generalize 2 ^ k = q at *
  omega

set_option maxHeartbeats 800000 in
theorem rkeep_any (s : ByteArray) (n : Int) (w : World) (hs : s.size ≤ 1048576) :
    Calls Tryd.prog 62 #[.string s, .int .i64 n] w fun e w' => e = .returned (.string ⟨(keepL s.data.toList n.toNat).toArray⟩) ∧ Below w.heap.size w w' := by
  obtain ⟨i0, hi, hz0, hz1, hz2⟩ := info_parts info5
  have HK : Hid (keepL s.data.toList n.toNat = keepL s.data.toList (inZ s n)) := by
    have := keepL_min s.data.toList n.toNat
    rw [len_list] at this
    exact Lib.hid this.symm
  have hm : inZ s n ≤ 8 * s.size := by unfold inZ; omega
  have hmn : ∀ i : Nat, ((i : Int) < n ∧ i < 8 * s.size) ↔ i < inZ s n := by intro i; unfold inZ; omega
  generalize inZ s n = m at *
  have HMN := Lib.hid hmn
  clear hmn
  go_enter Tryd.func62, Tryd.ntmps62
  go_wp2_with (at_make; refine wpList_make_full _ rfl _ _ 42 rfl w.heap.size 5 i0 (.int .u8 0) 1 Tryd.underlying42 hi hz0 hz1 _ _ _ _ s.size rfl rfl rfl rfl (by rw [hz2]; omega) (by unfold maxLen; omega) (by simp) ?_)
  intro w1 hown hgrow
  have HB : Hid (Below w.heap.size w w1) := Lib.hid ((Below.refl _ _).grown hgrow (Nat.le_refl _) (fun k hk => by cases hk))
  have HO : Hid (w1.ownsRow w.heap.size 5 1 (.slice (some ⟨w.heap.size, 0, none⟩) s.size s.size) s.size (cellsL (keepL s.data.toList 0))) := by
    rw [keepL_none, len_list]
    have e : cellsL (List.replicate s.size (0 : UInt8)) = (madeCells #[Value.int .u8 0] s.size).toList := by rw [toList_madeCells_one]; simp [cellsL]
    rw [e]; exact Lib.hid hown
  clear hown hgrow hi hz0 hz1 hz2
  go_wp2
  go_loopw [6] (fun i wr => ∃ j : Nat, j ≤ m ∧ i = .int .i64 j ∧ Hid (wr.ownsRow w.heap.size 5 1 (.slice (some ⟨w.heap.size, 0, none⟩) s.size s.size) s.size (cellsL (keepL s.data.toList j))) ∧ Hid (Below w.heap.size w wr))
    (fun i _ => m - (intOf i).toNat)
  case atStart => exact ⟨0, Nat.zero_le _, rfl, HO, HB⟩
  case round =>
    obtain ⟨j, hj, rfl, HO1, HB1⟩ := hrel
    clear HO HB
    by_cases hlt : j < m
    · have hjn := ((HMN.out j).2 hlt).1
      have hj8 := ((HMN.out j).2 hlt).2
      by_cases hbit : bitL s.data.toList j = true
      · have hbz : bitZ s (j : Nat) = true := by rw [bitZ_nat]; exact hbit
        have hfr := HO1.out.frozenAt (j / 8)
        have hcl := (HO1.out.cellAt (j / 8) (by omega)).trans (keepL_cell s.data.toList j (by rw [len_list]; exact hj8))
        have hroom := mask_room (s.data.toList.getD (j / 8) 0).toNat (j % 8) (UInt8.toNat_lt _) (by omega)
        have HR := Lib.hid (keepL_add s.data.toList j (by rw [len_list]; exact hj8) hbit)
        generalize mask (s.data.toList.getD (j / 8) 0).toNat (j % 8) = mv at *
        clear hbit
        go_wp2_with fail
        refine (rbit_any _ _ _ hs).mono ?_
        rintro e w9 ⟨rfl, rfl⟩
        rw [hbz]
        clear hbz
        have HV := Lib.hid (sum_byte mv (7 - j % 8) hroom)
        go_wp2
        go_roundw
        case rel =>
          refine ⟨j + 1, by omega, by go_num, Lib.hid ?_, Lib.hid ?_⟩
          · have := (HO1.out.stored (j / 8) (.int .u8 ((mv + 2 ^ (7 - j % 8) : Nat) : Int))).1
            rw [← HR.out] at this
            rw [HV.out]
            exact this
          · exact HB1.out.setCell (Nat.le_refl _) _
        case measure => simp [intOf]; omega
      · have hbz : bitZ s (j : Nat) = false := by rw [bitZ_nat]; simpa using hbit
        have HR := Lib.hid (keepL_skip s.data.toList j (by simpa using hbit))
        clear hbit
        go_wp2_with fail
        refine (rbit_any _ _ _ hs).mono ?_
        rintro e w9 ⟨rfl, rfl⟩
        rw [hbz]
        clear hbz
        go_wp2
        go_roundw
        case rel => exact ⟨j + 1, by omega, by go_num, Lib.hid (by rw [HR.out]; exact HO1.out), HB1⟩
        case measure => simp [intOf]; omega
    · obtain rfl : j = m := by omega
      have hc := conv_row wr w.heap.size s.size w.heap.size (keepL s.data.toList n.toNat) s.size (by rw [keepL_length, len_list]) (by rw [HK.out]; exact HO1.out)
      have hend := (not_congr (HMN.out j)).2 (Nat.lt_irrefl j)
      by_cases h8 : j < 8 * s.size
      · have hjn : ¬ (j : Int) < n := fun h => hend ⟨h, h8⟩
        clear hend
        go_wp2
        go_ret
        exact ⟨rfl, HB1.out⟩
      · clear hend
        go_wp2
        go_ret
        exact ⟨rfl, HB1.out⟩

theorem str_eq (s : ByteArray) (l : List UInt8) : ((⟨l.toArray⟩ : ByteArray) = s) ↔ l = s.data.toList := by
  constructor
  · intro h; rw [← h]
  · intro h; subst h; rfl

/-- are all bits from the n-th on 0? -/
def cleanZ (s : ByteArray) (n : Int) : Bool := decide (keepL s.data.toList n.toNat = s.data.toList)

set_option maxHeartbeats 400000 in
theorem clean_any (s : ByteArray) (n : Int) (w : World) (hs : s.size ≤ 1048576) :
    Calls Tryd.prog 69 #[.string s, .int .i64 n] w fun e w' => e = .returned (.bool (cleanZ s n)) ∧ Below w.heap.size w w' := by
  go_enter Tryd.func69, Tryd.ntmps69
  go_wp2_with fail
  refine (keep_any _ _ _ hs).mono ?_
  rintro e w1 ⟨rfl, hb1⟩
  go_wp2
  go_ret
  exact ⟨bool_eq (by unfold cleanZ; rw [Bool.eq_iff_iff]; simp only [beq_iff_eq, decide_eq_true_eq]; rw [ByteArray.toList_eq]), hb1⟩

end Go.Proofs.YteecialdkfaejaaDoor.Bits
namespace Go.Proofs.YteecialdkfaejaaDoor.Bits
open Go.ChangeShapes Go.WideShapes Go.ChangeAt Go.RowKit
set_option linter.unusedVariables false
set_option maxRecDepth 100000

theorem bcell {W w1 : World} (hb : Below W.heap.size W w1) : (∀ b o, b < W.heap.size → w1.cell? ⟨b, o, none⟩ = W.cell? ⟨b, o, none⟩) ∧ (∀ b o, b < W.heap.size → w1.frozen? ⟨b, o, none⟩ = W.frozen? ⟨b, o, none⟩) :=
  ⟨fun b o h => hb.cell (p := ⟨b, o, none⟩) h, fun b o h => hb.frozen (p := ⟨b, o, none⟩) h⟩

theorem bcall {w W w1 : World} (h : Below w.heap.size w W) (hb : Below W.heap.size W w1) : Below w.heap.size w w1 := h.trans (hb.mono h.size)

theorem ex_keep : keepL (ByteArray.mk #[255, 255]).data.toList (12 : Int).toNat = [255, 240] := by decide
theorem ex_b7 : bitZ (ByteArray.mk #[1]) 7 = true := by decide
theorem ex_b6 : bitZ (ByteArray.mk #[1]) 6 = false := by decide
theorem ex_alike : alikeN (ByteArray.mk #[255, 0]).data.toList (ByteArray.mk #[255, 1]).data.toList = 15 := by decide
theorem ex_c4 : cleanZ (ByteArray.mk #[240]) 4 = true := by decide
theorem ex_c3 : cleanZ (ByteArray.mk #[240]) 3 = false := by decide

end Go.Proofs.YteecialdkfaejaaDoor.Bits
namespace Go.Proofs.YteecialdkfaejaaDoor.Pre
open Go.ChangeShapes Go.WideShapes Go.ChangeAt Go.RowKit
open Go.Proofs.YteecialdkfaejaaDoor.Bits
set_option linter.unusedVariables false
set_option maxRecDepth 100000

/-- how many bytes have the first n bits -/
def leastN (n : Int) : Nat := (n.toNat + 7) / 8

set_option maxHeartbeats 400000 in
theorem least_any (n : Int) (w : World) (h : -9223372036854775808 ≤ n ∧ n ≤ 9223372036854775807) :
    Calls Tryd.prog 89 #[.int .i64 n] w fun e w' => e = .returned (.int .i64 (leastN n : Nat)) ∧ w = w' := by
  by_cases h0 : n ≤ 0
  · go_enter Tryd.func89, Tryd.ntmps89
    go_wp2
    go_ret
    exact ⟨int_eq (by unfold leastN; omega), rfl⟩
  · go_enter Tryd.func89, Tryd.ntmps89
    go_wp2
    go_ret
    exact ⟨int_eq (by unfold leastN; omega), rfl⟩

set_option maxHeartbeats 400000 in
theorem rleast_any (n : Int) (w : World) (h : -9223372036854775808 ≤ n ∧ n ≤ 1099511627776) :
    Calls Tryd.prog 61 #[.int .i64 n] w fun e w' => e = .returned (.int .i64 (leastN n : Nat)) ∧ w = w' := by
  by_cases h0 : n < 0
  · go_enter Tryd.func61, Tryd.ntmps61
    go_wp2
    go_ret
    exact ⟨int_eq (by unfold leastN; omega), rfl⟩
  · go_enter Tryd.func61, Tryd.ntmps61
    go_wp2
    go_ret
    exact ⟨int_eq (by unfold leastN; omega), rfl⟩

/-- is it a prefix? -/
def rightZ (s : ByteArray) (n : Int) : Bool := (decide (s.size = 4) || decide (s.size = 16)) && (decide (0 ≤ n) && (decide (n ≤ 8 * (s.size : Int)) && cleanZ s n))

set_option maxHeartbeats 800000 in
theorem right_any (s : ByteArray) (n : Int) (w : World) (hs : s.size ≤ maxLen) :
    Calls Tryd.prog 47 #[.string s, .int .i64 n] w fun e w' => e = .returned (.bool (rightZ s n)) ∧ Below w.heap.size w w' := by
  have hm := hs
  unfold maxLen at hm
  by_cases h4 : s.size = 4 ∨ s.size = 16
  · by_cases h0 : 0 ≤ n
    · by_cases h8 : n ≤ 8 * (s.size : Int)
      · have HC := Lib.hid (fun w => clean_any s n w (by omega))
        have HR : Hid (rightZ s n = cleanZ s n) := Lib.hid (by unfold rightZ; rcases h4 with h4 | h4 <;> simp [h4, h0] <;> omega)
        rw [HR.out]
        clear HR
        rcases h4 with h4 | h4
        · go_enter Tryd.func47, Tryd.ntmps47
          go_wp2_with fail
          refine (HC.out _).mono ?_
          rintro e w1 ⟨rfl, hb1⟩
          go_wp2
          go_ret
          exact ⟨rfl, hb1⟩
        · go_enter Tryd.func47, Tryd.ntmps47
          go_wp2_with fail
          refine (HC.out _).mono ?_
          rintro e w1 ⟨rfl, hb1⟩
          go_wp2
          go_ret
          exact ⟨rfl, hb1⟩
      · have HR : Hid (rightZ s n = false) := Lib.hid (by unfold rightZ; simp [h8])
        rw [HR.out]
        clear HR
        rcases h4 with h4 | h4
        · go_enter Tryd.func47, Tryd.ntmps47
          go_wp2
          go_ret
          exact ⟨rfl, Below.refl _ _⟩
        · go_enter Tryd.func47, Tryd.ntmps47
          go_wp2
          go_ret
          exact ⟨rfl, Below.refl _ _⟩
    · have HR : Hid (rightZ s n = false) := Lib.hid (by unfold rightZ; simp [h0])
      rw [HR.out]
      clear HR
      rcases h4 with h4 | h4
      · go_enter Tryd.func47, Tryd.ntmps47
        go_wp2
        go_ret
        exact ⟨rfl, Below.refl _ _⟩
      · go_enter Tryd.func47, Tryd.ntmps47
        go_wp2
        go_ret
        exact ⟨rfl, Below.refl _ _⟩
  · have HR : Hid (rightZ s n = false) := Lib.hid (by unfold rightZ; simp at h4; simp [h4])
    rw [HR.out]
    clear HR
    obtain ⟨ha, hb⟩ := not_or.1 h4
    clear h4
    go_enter Tryd.func47, Tryd.ntmps47
    go_wp2
    go_ret
    exact ⟨rfl, Below.refl _ _⟩

/-- what is kept of the first bytes is the first bytes of what is kept -/
theorem keepL_take (l : List UInt8) (k n : Nat) : keepL (l.take k) n = (keepL l n).take k := by
  unfold keepL
  apply List.ext_getElem?
  intro i
  by_cases h : i < k
  · rw [List.getElem?_take_of_lt h, List.getElem?_mapIdx, List.getElem?_mapIdx, List.getElem?_take_of_lt h]
  · rw [List.getElem?_eq_none (by simp; omega), List.getElem?_eq_none (by simp; omega)]

/-- the first bytes of an address, as many as have the bits -/
def cutL (l : List UInt8) (n : Int) : List UInt8 := (keepL l n.toNat).take (leastN n)

theorem head_list (s : ByteArray) (k : Nat) : (s.extract 0 k).data.toList = s.data.toList.take k := by simp

theorem cut_less (s : ByteArray) (n : Int) : keepL (s.extract 0 (leastN n)).data.toList n.toNat = cutL s.data.toList n := by
  rw [head_list, keepL_take]; rfl

theorem cut_more (s : ByteArray) (n : Int) (h : s.size < leastN n) : s = ⟨(cutL s.data.toList n).toArray⟩ := by
  have e : cutL s.data.toList n = s.data.toList := by
    unfold cutL
    rw [List.take_of_length_le (by rw [keepL_length, len_list]; omega)]
    exact keepL_all _ _ (by rw [len_list]; unfold leastN at h; omega)
  rw [e]

set_option maxHeartbeats 800000 in
theorem cut_any (s : ByteArray) (n : Int) (w : World) (hs : s.size ≤ 1048576) (h : -9223372036854775808 ≤ n ∧ n ≤ 9223372036854775807) :
    Calls Tryd.prog 76 #[.string s, .int .i64 n] w fun e w' => e = .returned (.string ⟨(cutL s.data.toList n).toArray⟩) ∧ Below w.heap.size w w' := by
  have HL := Lib.hid (fun w => least_any n w h)
  have HM := Lib.hid (cut_more s n)
  have HE := Lib.hid (cut_less s n)
  by_cases hk : leastN n ≤ s.size
  · have HK := Lib.hid (fun w => keep_any (s.extract 0 (leastN n)) n w (by simp; omega))
    rw [HE.out] at HK
    clear HM HE
    generalize ByteArray.mk (cutL s.data.toList n).toArray = cv at *
    generalize leastN n = k at *
    have hsl : ∀ wx, Sem.run Tryd.prog (Instr.slice 9 (Value.string s) none (some (Value.int IntKind.i64 (k : Int))) none) wx = .ok (.string (s.extract 0 k)) wx := by
      intro wx
      have := run_slice_string_h (P := Tryd.prog) wx 9 s Tryd.underlying9 .i64 (k : Int) (by omega) (by omega)
      exact this
    generalize s.extract 0 k = x at *
    go_enter Tryd.func76, Tryd.ntmps76
    go_wp2_with fail
    refine (HL.out _).mono ?_
    rintro e w1 ⟨rfl, rfl⟩
    go_wp2_with fail
    refine (HK.out _).mono ?_
    rintro e w1 ⟨rfl, hb1⟩
    go_wp2
    go_ret
    exact ⟨rfl, hb1⟩
  · have HQ := Lib.hid (HM.out (by omega))
    clear HM HE
    generalize ByteArray.mk (cutL s.data.toList n).toArray = cv at *
    generalize leastN n = k at *
    go_enter Tryd.func76, Tryd.ntmps76
    go_wp2_with fail
    refine (HL.out _).mono ?_
    rintro e w1 ⟨rfl, rfl⟩
    go_wp2
    go_ret
    exact ⟨ret_string HQ.out, Below.refl _ _⟩

/-- bytes, and noughts behind them up to so many -/
def fillL (l : List UInt8) (m : Nat) : List UInt8 := l ++ List.replicate (m - l.length) 0

theorem fillL_length (l : List UInt8) (m : Nat) (h : l.length ≤ m) : (fillL l m).length = m := by simp [fillL]; omega

set_option maxHeartbeats 800000 in
theorem fill_any (s : ByteArray) (m : Int) (w : World) (hs : s.size ≤ 1048576) (h : m ≤ 1048576) :
    Calls Tryd.prog 78 #[.string s, .int .i64 m] w fun e w' => e = .returned (.string ⟨(fillL s.data.toList m.toNat).toArray⟩) ∧ Below w.heap.size w w' := by
  by_cases hk : m ≤ s.size
  · have HQ : Hid (s = ⟨(fillL s.data.toList m.toNat).toArray⟩) := by
      have e : fillL s.data.toList m.toNat = s.data.toList := by unfold fillL; rw [len_list, show m.toNat - s.size = 0 by omega]; simp
      exact Lib.hid (by rw [e])
    generalize ByteArray.mk (fillL s.data.toList m.toNat).toArray = fv at *
    go_enter Tryd.func78, Tryd.ntmps78
    go_wp2
    go_ret
    exact ⟨ret_string HQ.out, Below.refl _ _⟩
  · obtain ⟨k, rfl⟩ : ∃ k : Nat, m = k := ⟨m.toNat, by omega⟩
    rw [Int.toNat_natCast]
    have hk' : s.size < k := by omega
    clear hk
    obtain ⟨i0, hi, hz0, hz1, hz2⟩ := info_parts info5
    go_enter Tryd.func78, Tryd.ntmps78
    go_wp2_with (at_make; refine wpList_make_full _ rfl _ _ 42 rfl w.heap.size 5 i0 (.int .u8 0) 1 Tryd.underlying42 hi hz0 hz1 _ _ _ _ k rfl rfl rfl rfl (by rw [hz2]; omega) (by unfold maxLen; omega) (by simp) ?_)
    intro w1 hown hgrow
    have HG := Lib.hid hgrow
    have HO := Lib.hid hown
    clear hgrow hown
    have hsz : (Tryd.prog.info? 5).map (·.size) = some 1 := by rw [hi]; simp [hz1]
    go_wp2_with (with_reducible refine wpList_copy_str rfl (.tmp 17) (.tmp 18) 42 9 rfl 5 Tryd.underlying42 hsz w.heap.size k rfl _ rfl w.heap.size _ HO.out ?_ ?_)
    · omega
    intro w2 hown2 hgrow2
    have HB2 : Hid (Below w.heap.size w w2) := Lib.hid (((Below.refl _ _).grown HG.out (Nat.le_refl _) (fun k hk => by cases hk)).grown hgrow2 HG.out.size (fun k hk => by cases hk; exact Nat.le_refl _))
    have HO2 : Hid (w2.ownsRow w.heap.size 5 1 (.slice (some ⟨w.heap.size, 0, none⟩) k k) k (cellsL (fillL s.data.toList k))) := by
      have e : cellsL (fillL s.data.toList k) = cellsL s.data.toList ++ List.drop s.size (madeCells #[Value.int IntKind.u8 0] k).toList := by
        rw [toList_madeCells_one]
        simp [cellsL, fillL]
      exact Lib.hid (by rw [e]; exact hown2)
    clear hown2 hgrow2 HG HO hi hz0 hz1 hz2 hsz
    have hc := conv_row w2 w.heap.size k w.heap.size (fillL s.data.toList k) k (by rw [fillL_length _ _ (by rw [len_list]; omega)]) HO2.out
    clear HO2
    go_wp2
    go_ret
    exact ⟨rfl, HB2.out⟩

theorem fill_step (l : List UInt8) (j : Nat) : fillL l (l.length + j) ++ [0] = fillL l (l.length + (j + 1)) := by
  unfold fillL
  rw [List.append_assoc]
  congr 1
  rw [show l.length + (j + 1) - l.length = (l.length + j - l.length) + 1 by omega, List.replicate_succ']

set_option maxHeartbeats 800000 in
theorem rfill_any (s : ByteArray) (m : Int) (w : World) (hs : s.size ≤ 1048576) (h : m ≤ 1048576) :
    Calls Tryd.prog 63 #[.string s, .int .i64 m] w fun e w' => e = .returned (.string ⟨(fillL s.data.toList m.toNat).toArray⟩) ∧ w = w' := by
  go_enter Tryd.func63, Tryd.ntmps63
  go_wp2
  go_loop [0] (fun v => ∃ x : ByteArray, ∃ j : Nat, v = .string x ∧ x.data.toList = fillL s.data.toList (s.data.toList.length + j) ∧ x.size = s.size + j ∧ (j = 0 ∨ ((s.size : Int) + j ≤ m)))
    (fun v => m.toNat - (match v with | .string x => x.size | _ => 0))
  case atStart => exact ⟨s, 0, rfl, by simp [fillL], rfl, .inl rfl⟩
  case round =>
    obtain ⟨x, j, rfl, hx, hxs, hj⟩ := hrel
    have HX := Lib.hid hx
    clear hx
    by_cases hlt : (x.size : Int) < m
    · go_wp2
      go_round
      case rel => exact ⟨_, j + 1, rfl, by rw [← fill_step, ← HX.out]; simp, by rw [ByteArray.size_append, hxs]; rfl, .inr (by omega)⟩
      case measure =>
        have e : (x ++ { data := #[0] } : ByteArray).size = x.size + 1 := ByteArray.size_append
        show m.toNat - (x ++ { data := #[0] } : ByteArray).size < m.toNat - x.size
        omega
    · have HQ : Hid (x = ⟨(fillL s.data.toList m.toNat).toArray⟩) := by
        refine Lib.hid (bytes_inj ?_)
        rw [HX.out]
        unfold fillL
        rw [len_list]
        congr 2
        omega
      go_wp2
      go_ret
      exact ⟨ret_string HQ.out, rfl⟩

/-- how many bytes are alike -/
def leadN (a b : ByteArray) : Nat := alikeN a.data.toList b.data.toList / 8

end Go.Proofs.YteecialdkfaejaaDoor.Pre
