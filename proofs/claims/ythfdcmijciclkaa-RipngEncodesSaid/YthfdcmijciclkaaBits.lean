/-
  Bits of bytes, as numbers: which are 1, which are kept, how many two texts have alike from the first one on.
-/
import Derived.Test.YthfdcmijciclkaaRows
namespace Go.Proofs.Ythfdcmijciclkaa.Bits
set_option linter.unusedVariables false
set_option maxRecDepth 100000

/-- the i-th bit of a byte's number, the highest first -/
def bitN (b p : Nat) : Bool := b.testBit (7 - p)

theorem bitN_eq (b p : Nat) : bitN b p = (b / 2 ^ (7 - p) % 2 == 1) := by
  unfold bitN
  rw [Nat.testBit_eq_decide_div_mod_eq]
  by_cases h : b / 2 ^ (7 - p) % 2 = 1 <;> simp [h]

theorem getD_in (l : List UInt8) (k : Nat) (h : k < l.length) : l.getD k 0 = l[k] := by simp [List.getD, h]
theorem getD_out (l : List UInt8) (k : Nat) (h : l.length ≤ k) : l.getD k 0 = 0 := by simp [List.getD, h]

def bitL (l : List UInt8) (i : Nat) : Bool := bitN (l.getD (i / 8) 0).toNat (i % 8)

theorem bitL_out (l : List UInt8) (i : Nat) (h : 8 * l.length ≤ i) : bitL l i = false := by
  unfold bitL
  rw [getD_out _ _ (by omega)]
  simp [bitN]

/-- the first m bits of a byte's number -/
def mask (b m : Nat) : Nat := (b >>> (8 - m)) <<< (8 - m)

theorem mask_eq (b m : Nat) : mask b m = b / 2 ^ (8 - m) * 2 ^ (8 - m) := by
  unfold mask; rw [Nat.shiftLeft_eq, Nat.shiftRight_eq_div_pow]

theorem mask_le (b m : Nat) : mask b m ≤ b := by rw [mask_eq]; exact Nat.div_mul_le_self _ _

theorem mask_all (b m : Nat) (h : 8 ≤ m) : mask b m = b := by
  rw [mask_eq, show 8 - m = 0 by omega]; simp

theorem mask_none (b : Nat) (h : b < 256) : mask b 0 = 0 := by
  rw [mask_eq]; omega

theorem bitN_mask (b m p : Nat) (hp : p < 8) : bitN (mask b m) p = (decide (p < m) && bitN b p) := by
  unfold bitN mask
  rw [Nat.testBit_shiftLeft, Nat.testBit_shiftRight]
  by_cases h : p < m
  · have e : 7 - p ≥ 8 - m := by omega
    simp [h, e]
  · have e : ¬ 7 - p ≥ 8 - m := by omega
    simp [h, e]

theorem bitN_xor (a b p : Nat) : bitN (a ^^^ b) p = (bitN a p ^^ bitN b p) := by
  unfold bitN; rw [Nat.testBit_xor]

/-- a number below 256 is its eight bits -/
theorem byte_ext {a b : Nat} (ha : a < 256) (hb : b < 256) (h : ∀ p, p < 8 → bitN a p = bitN b p) : a = b := by
  apply Nat.eq_of_testBit_eq
  intro j
  by_cases hj : j < 8
  · have := h (7 - j) (by omega)
    unfold bitN at this
    rw [show 7 - (7 - j) = j by omega] at this
    exact this
  · rw [Nat.testBit_lt_two_pow (Nat.lt_of_lt_of_le ha (show 256 ≤ 2 ^ j from Nat.pow_le_pow_right (n := 2) (by decide) (show 8 ≤ j by omega))),
      Nat.testBit_lt_two_pow (Nat.lt_of_lt_of_le hb (show 256 ≤ 2 ^ j from Nat.pow_le_pow_right (n := 2) (by decide) (show 8 ≤ j by omega)))]

theorem list_ext {a b : List UInt8} (hl : a.length = b.length) (h : ∀ i, i < 8 * a.length → bitL a i = bitL b i) : a = b := by
  apply List.ext_getElem hl
  intro k h1 h2
  apply UInt8.toNat_inj.1
  apply byte_ext (UInt8.toNat_lt _) (UInt8.toNat_lt _)
  intro p hp
  have := h (8 * k + p) (by omega)
  unfold bitL at this
  rw [show (8 * k + p) / 8 = k by omega, show (8 * k + p) % 8 = p by omega] at this
  rw [getD_in _ _ h1, getD_in _ _ h2] at this
  exact this

/-- the first n bits as they are, all others 0 -/
def keepL (l : List UInt8) (n : Nat) : List UInt8 := l.mapIdx fun j b => UInt8.ofNat (mask b.toNat (n - 8 * j))

theorem keepL_length (l : List UInt8) (n : Nat) : (keepL l n).length = l.length := by simp [keepL]

theorem ofNat_mask (b : UInt8) (m : Nat) : (UInt8.ofNat (mask b.toNat m)).toNat = mask b.toNat m := by
  have h := mask_le b.toNat m
  have := UInt8.toNat_lt b
  rw [UInt8.toNat_ofNat']
  omega

theorem keepL_get (l : List UInt8) (n j : Nat) (h : j < (keepL l n).length) : ((keepL l n)[j]).toNat = mask (l[j]'(by simpa [keepL_length] using h)).toNat (n - 8 * j) := by
  simp only [keepL, List.getElem_mapIdx]
  exact ofNat_mask _ _

theorem bitL_keep (l : List UInt8) (n i : Nat) : bitL (keepL l n) i = (decide (i < n) && bitL l i) := by
  by_cases h : i < 8 * l.length
  · unfold bitL
    rw [getD_in _ _ (show i / 8 < (keepL l n).length by rw [keepL_length]; omega), getD_in _ _ (show i / 8 < l.length by omega), keepL_get, bitN_mask _ _ _ (by omega)]
    congr 1
    by_cases hn : i < n
    · simp [hn]; omega
    · simp [hn]; omega
  · rw [bitL_out _ _ (by rw [keepL_length]; omega), bitL_out l i (by omega)]; simp

theorem keepL_keep (l : List UInt8) (n m : Nat) : keepL (keepL l n) m = keepL l (min n m) := by
  apply list_ext (by simp [keepL_length])
  intro i _
  rw [bitL_keep, bitL_keep, bitL_keep, ← Bool.and_assoc]
  congr 1
  by_cases h1 : i < n <;> by_cases h2 : i < m <;> simp [h1, h2] <;> omega

theorem keepL_all (l : List UInt8) (n : Nat) (h : 8 * l.length ≤ n) : keepL l n = l := by
  apply list_ext (by simp [keepL_length])
  intro i hi
  rw [keepL_length] at hi
  rw [bitL_keep]
  simp; omega

theorem keepL_none (l : List UInt8) : keepL l 0 = List.replicate l.length 0 := by
  apply List.ext_getElem (by simp [keepL_length])
  intro k h1 h2
  apply UInt8.toNat_inj.1
  rw [keepL_get, List.getElem_replicate]
  simp [mask_none _ (UInt8.toNat_lt _)]

theorem keepL_min (l : List UInt8) (n : Nat) : keepL l (min n (8 * l.length)) = keepL l n := by
  apply list_ext (by simp [keepL_length])
  intro i hi
  rw [keepL_length] at hi
  rw [bitL_keep, bitL_keep]
  congr 1
  by_cases h : i < n <;> simp [h] <;> omega

/-- clean: nothing that keeping takes away -/
theorem keepL_clean (l : List UInt8) (n : Nat) : (keepL l n = l) ↔ ∀ i, n ≤ i → bitL l i = false := by
  constructor
  · intro h i hi
    rw [← h, bitL_keep]
    simp; omega
  · intro h
    apply list_ext (by simp [keepL_length])
    intro i _
    rw [bitL_keep]
    by_cases hn : i < n
    · simp [hn]
    · rw [h i (by omega)]; simp

/-- how many hold, from 0 on, below m -/
def lead (p : Nat → Bool) : Nat → Nat
  | 0 => 0
  | m + 1 => if lead p m = m ∧ p m = true then m + 1 else lead p m

theorem lead_le (p : Nat → Bool) (m : Nat) : lead p m ≤ m := by
  induction m with
  | zero => exact Nat.le_refl _
  | succ m ih => unfold lead; split <;> omega

theorem lead_below (p : Nat → Bool) (m i : Nat) (h : i < lead p m) : p i = true := by
  induction m with
  | zero => simp [lead] at h
  | succ m ih =>
    unfold lead at h
    split at h
    · rename_i hc
      by_cases e : i = m
      · rw [e]; exact hc.2
      · exact ih (by omega)
    · exact ih h

theorem lead_at (p : Nat → Bool) (m : Nat) (h : lead p m < m) : p (lead p m) = false := by
  induction m with
  | zero => omega
  | succ m ih =>
    have hle := lead_le p m
    unfold lead at h ⊢
    split at h
    · omega
    · rename_i hc
      rw [if_neg hc]
      by_cases e : lead p m = m
      · rw [e]
        by_cases hp : p m = true
        · exact absurd ⟨e, hp⟩ hc
        · simpa using hp
      · exact ih (by omega)

theorem lead_eq (p : Nat → Bool) (m k : Nat) (hk : k ≤ m) (h1 : ∀ i, i < k → p i = true) (h2 : k < m → p k = false) : lead p m = k := by
  have hle := lead_le p m
  by_cases h : lead p m < k
  · have := lead_at p m (by omega)
    rw [h1 _ h] at this
    cases this
  · by_cases h' : k < lead p m
    · have := lead_below p m k h'
      rw [h2 (by omega)] at this
      cases this
    · omega

/-- how many bits both have alike -/
def alikeN (a b : List UInt8) : Nat := lead (fun i => bitL a i == bitL b i) (8 * min a.length b.length)

theorem alike_comm (a b : List UInt8) : alikeN a b = alikeN b a := by
  unfold alikeN
  rw [Nat.min_comm]
  congr 1
  funext i
  exact Bool.beq_comm

/-- how many bits of a byte's number are 0 ahead of the first 1 -/
def noughts (b : Nat) : Nat := lead (fun p => !bitN b p) 8

theorem noughts_eq (b k : Nat) (hk : k ≤ 8) (h1 : b < 2 ^ (8 - k)) (h2 : k < 8 → 2 ^ (7 - k) ≤ b) : noughts b = k := by
  apply lead_eq _ _ _ hk
  · intro p hp
    have : b.testBit (7 - p) = false := Nat.testBit_lt_two_pow (Nat.lt_of_lt_of_le h1 (Nat.pow_le_pow_right (by decide) (by omega)))
    simp [bitN, this]
  · intro h
    have h2 := h2 h
    have e : b / 2 ^ (7 - k) = 1 := by
      have hp : 0 < 2 ^ (7 - k) := Nat.two_pow_pos _
      have hh : b < 2 * 2 ^ (7 - k) := by
        have : 2 ^ (8 - k) = 2 * 2 ^ (7 - k) := by rw [show 8 - k = (7 - k) + 1 by omega, Nat.pow_succ]; omega
        omega
      have := (Nat.div_lt_iff_lt_mul hp).2 hh
      have := (Nat.le_div_iff_mul_le hp).2 (show 1 * 2 ^ (7 - k) ≤ b by omega)
      omega
    show (!bitN b k) = false
    rw [bitN_eq, e]; rfl

theorem noughts_below (b p : Nat) (h : p < noughts b) : bitN b p = false := by
  have := lead_below (fun p => !bitN b p) 8 p h
  simpa using this
theorem noughts_at (b : Nat) (h : noughts b < 8) : bitN b (noughts b) = true := by
  have : (!bitN b (noughts b)) = false := lead_at (fun p => !bitN b p) 8 h
  simpa using this
theorem noughts_le (b : Nat) : noughts b ≤ 8 := lead_le _ _

theorem xor_noughts (a b : Nat) (ha : a < 256) (hb : b < 256) (hne : a ≠ b) :
    ∃ z, noughts (a ^^^ b) = z ∧ z < 8 ∧ (∀ p, p < z → bitN a p = bitN b p) ∧ bitN a z ≠ bitN b z := by
  have hsame : ∀ p, p < noughts (a ^^^ b) → bitN a p = bitN b p := by
    intro p hp
    have := noughts_below _ p hp
    rw [bitN_xor] at this
    revert this
    cases bitN a p <;> cases bitN b p <;> simp
  have hz : noughts (a ^^^ b) < 8 := by
    have hle := noughts_le (a ^^^ b)
    by_cases h : noughts (a ^^^ b) < 8
    · exact h
    · exact absurd (byte_ext ha hb fun p hp => hsame p (by omega)) hne
  refine ⟨_, rfl, hz, hsame, ?_⟩
  have := noughts_at _ hz
  rw [bitN_xor] at this
  revert this
  cases bitN a (noughts (a ^^^ b)) <;> cases bitN b (noughts (a ^^^ b)) <;> simp

theorem take_get (a b : List UInt8) (i k : Nat) (h : a.take i = b.take i) (hk : k < i) : a.getD k 0 = b.getD k 0 := by
  have h1 : (a.take i)[k]? = (b.take i)[k]? := by rw [h]
  rw [List.getElem?_take_of_lt hk, List.getElem?_take_of_lt hk] at h1
  simp [List.getD, h1]

/-- bytes that are the same up to the i-th, which isn't -/
theorem alike_differ (a b : List UInt8) (i : Nat) (ha : i < a.length) (hb : i < b.length) (hsame : a.take i = b.take i) (hne : a[i].toNat ≠ b[i].toNat) :
    alikeN a b = 8 * i + noughts (a[i].toNat ^^^ b[i].toNat) := by
  obtain ⟨z, hz, hz8, hzs, hzd⟩ := xor_noughts a[i].toNat b[i].toNat (UInt8.toNat_lt _) (UInt8.toNat_lt _) hne
  rw [hz]
  unfold alikeN
  apply lead_eq
  · have : i + 1 ≤ min a.length b.length := by omega
    omega
  · intro j hj
    simp only [bitL]
    by_cases hji : j / 8 < i
    · rw [take_get a b i (j / 8) hsame hji]
      simp
    · have e : j / 8 = i := by omega
      rw [e, getD_in _ _ ha, getD_in _ _ hb, hzs (j % 8) (by omega)]
      simp
  · intro _
    simp only [bitL]
    rw [show (8 * i + z) / 8 = i by omega, show (8 * i + z) % 8 = z by omega, getD_in _ _ ha, getD_in _ _ hb]
    simpa using hzd

/-- no byte differs up to the shorter one's end -/
theorem alike_full (a b : List UInt8) (h : a.take (min a.length b.length) = b.take (min a.length b.length)) : alikeN a b = 8 * min a.length b.length := by
  unfold alikeN
  apply lead_eq _ _ _ (Nat.le_refl _)
  · intro j hj
    simp only [bitL]
    rw [take_get a b _ (j / 8) h (by omega)]
    simp
  · intro h; omega

theorem alike_le (a b : List UInt8) : alikeN a b ≤ 8 * min a.length b.length := lead_le _ _
theorem alike_below (a b : List UInt8) (i : Nat) (h : i < alikeN a b) : bitL a i = bitL b i := by
  have := lead_below (fun i => bitL a i == bitL b i) _ i h
  simpa using this
theorem alike_at (a b : List UInt8) (h : alikeN a b < 8 * min a.length b.length) : bitL a (alikeN a b) ≠ bitL b (alikeN a b) := by
  have : (bitL a (alikeN a b) == bitL b (alikeN a b)) = false := lead_at (fun i => bitL a i == bitL b i) _ h
  simpa using this
theorem alike_keep (a b : List UInt8) (hl : a.length = b.length) : keepL a (alikeN a b) = keepL b (alikeN a b) := by
  apply list_ext (by simp [keepL_length, hl])
  intro i _
  rw [bitL_keep, bitL_keep]
  by_cases h : i < alikeN a b
  · rw [alike_below a b i h]
  · simp [h]

/-- the row where one bit more is kept -/
theorem keepL_set (l : List UInt8) (i : Nat) (h : i < 8 * l.length) :
    keepL l (i + 1) = (keepL l i).set (i / 8) (UInt8.ofNat (mask (l[i / 8]'(by omega)).toNat (i % 8 + 1))) := by
  apply List.ext_getElem (by simp [keepL_length])
  intro k h1 h2
  rw [List.getElem_set]
  have hk : k < l.length := by simpa [keepL_length] using h1
  split
  · rename_i e
    subst e
    apply UInt8.toNat_inj.1
    rw [keepL_get, ofNat_mask]
    congr 1
    omega
  · rename_i e
    apply UInt8.toNat_inj.1
    rw [keepL_get, keepL_get]
    by_cases hlt : k < i / 8
    · rw [mask_all _ _ (by omega), mask_all _ _ (by omega)]
    · rw [show i + 1 - 8 * k = 0 by omega, show i - 8 * k = 0 by omega]

theorem mask_next (b p : Nat) (hb : b < 256) (hp : p < 8) : mask b (p + 1) = mask b p + (if bitN b p = true then 2 ^ (7 - p) else 0) := by
  rw [mask_eq, mask_eq, bitN_eq]
  have : p = 0 ∨ p = 1 ∨ p = 2 ∨ p = 3 ∨ p = 4 ∨ p = 5 ∨ p = 6 ∨ p = 7 := by omega
  rcases this with rfl | rfl | rfl | rfl | rfl | rfl | rfl | rfl <;> simp <;> split <;> omega

/-- the row that a copy and one masked byte make -/
theorem keepL_parts (l : List UInt8) (n : Nat) (h : n ≤ 8 * l.length) :
    keepL l n = if n % 8 = 0 then l.take (n / 8) ++ List.replicate (l.length - n / 8) 0
      else (l.take (n / 8) ++ List.replicate (l.length - n / 8) 0).set (n / 8) (UInt8.ofNat (mask (l.getD (n / 8) 0).toNat (n % 8))) := by
  have hbase : ∀ k (h1 : k < l.length), k ≠ n / 8 ∨ n % 8 = 0 → (keepL l n)[k]'(by simpa [keepL_length] using h1) = (l.take (n / 8) ++ List.replicate (l.length - n / 8) 0)[k]'(by simp; omega) := by
    intro k hk hc
    apply UInt8.toNat_inj.1
    rw [keepL_get, List.getElem_append]
    split
    · rename_i hlt
      simp at hlt
      rw [mask_all _ _ (by omega), List.getElem_take]
    · rename_i hlt
      simp at hlt
      rw [show n - 8 * k = 0 by omega, mask_none _ (UInt8.toNat_lt _), List.getElem_replicate]
      rfl
  have hlen : (l.take (n / 8) ++ List.replicate (l.length - n / 8) (0 : UInt8)).length = l.length := by simp; omega
  split
  · rename_i h0
    apply List.ext_getElem (by rw [hlen, keepL_length])
    intro k h1 h2
    rw [keepL_length] at h1
    exact hbase k h1 (.inr h0)
  · rename_i h0
    apply List.ext_getElem (by rw [List.length_set, hlen, keepL_length])
    intro k h1 h2
    rw [keepL_length] at h1
    rw [List.getElem_set]
    split
    · rename_i e
      subst e
      apply UInt8.toNat_inj.1
      rw [keepL_get, ofNat_mask, getD_in _ _ h1]
      congr 1
      omega
    · rename_i e
      exact hbase k h1 (.inl fun he => e he.symm)
end Go.Proofs.Ythfdcmijciclkaa.Bits
