/-
  Numbers, digits, texts and addresses of layer 6, as lists: no dump, no walk. No condition.
-/
import Derived.Lib.SplitLaws
namespace Go.Proofs.YtjppfalckfmalaaDoor.Ad

/-! ## digits and numerals -/
def dgt (d : Nat) : UInt8 := if d < 10 then UInt8.ofNat (48 + d) else UInt8.ofNat (87 + d)
def isD (c : UInt8) : Prop := (48 ≤ c.toNat ∧ c.toNat ≤ 57) ∨ (97 ≤ c.toNat ∧ c.toNat ≤ 102)
def dv (c : UInt8) : Nat := if c.toNat ≤ 57 then c.toNat - 48 else c.toNat - 87

theorem dgt_all : ∀ d, d < 16 → (isD (dgt d) ∧ dv (dgt d) = d) := by
  unfold isD dv dgt
  decide +kernel
theorem dgt_is (d : Nat) (h : d < 16) : isD (dgt d) := (dgt_all d h).1
theorem dv_dgt (d : Nat) (h : d < 16) : dv (dgt d) = d := (dgt_all d h).2

def num (b n : Nat) : List UInt8 := if _h : n < b ∨ b < 2 then [dgt n] else num b (n / b) ++ [dgt (n % b)]
termination_by n
decreasing_by exact Nat.div_lt_self (by omega) (by omega)

theorem num_lt (b n : Nat) (h : n < b) : num b n = [dgt n] := by rw [num, dif_pos (Or.inl h)]
theorem num_ge (b n : Nat) (hb : 2 ≤ b) (h : b ≤ n) : num b n = num b (n / b) ++ [dgt (n % b)] := by rw [num, dif_neg (by omega)]

def val (b : Nat) (l : List UInt8) : Nat := l.foldl (fun a c => a * b + dv c) 0
theorem val_snoc (b : Nat) (l : List UInt8) (c : UInt8) : val b (l ++ [c]) = val b l * b + dv c := by simp [val]
theorem val_nil (b : Nat) : val b [] = 0 := rfl

theorem num_ind {p : Nat → Prop} (b : Nat) (hb : 2 ≤ b) (h1 : ∀ n, n < b → p n) (h2 : ∀ n, b ≤ n → p (n / b) → p n) (n : Nat) : p n := by
  induction n using Nat.strongRecOn with
  | _ n ih =>
    by_cases h : n < b
    · exact h1 n h
    · exact h2 n (by omega) (ih _ (Nat.div_lt_self (by omega) (by omega)))

theorem val_num (b : Nat) (hb : 2 ≤ b) (hc : b ≤ 16) (n : Nat) : val b (num b n) = n := by
  refine num_ind (p := fun n => val b (num b n) = n) b hb ?_ ?_ n
  · intro n h
    rw [num_lt b n h, show [dgt n] = [] ++ [dgt n] from rfl, val_snoc, val_nil, dv_dgt n (by omega)]; omega
  · intro n h ih
    rw [num_ge b n hb h, val_snoc, ih, dv_dgt _ (by have := Nat.mod_lt n (show 0 < b by omega); omega), Nat.mul_comm]
    exact Nat.div_add_mod n b

theorem num_inj (b : Nat) (hb : 2 ≤ b) (hc : b ≤ 16) (n m : Nat) (h : num b n = num b m) : n = m := by
  rw [← val_num b hb hc n, ← val_num b hb hc m, h]

theorem num_mem (b : Nat) (hb : 2 ≤ b) (hc : b ≤ 16) (n : Nat) : ∀ c ∈ num b n, isD c ∧ dv c < b := by
  refine num_ind (p := fun n => ∀ c ∈ num b n, isD c ∧ dv c < b) b hb ?_ ?_ n
  · intro n h c hm
    rw [num_lt b n h] at hm
    obtain rfl := List.mem_singleton.1 hm
    exact ⟨dgt_is n (by omega), by rw [dv_dgt n (by omega)]; exact h⟩
  · intro n h ih c hm
    rw [num_ge b n hb h] at hm
    rcases List.mem_append.1 hm with hm | hm
    · exact ih c hm
    · obtain rfl := List.mem_singleton.1 hm
      have := Nat.mod_lt n (show 0 < b by omega)
      exact ⟨dgt_is _ (by omega), by rw [dv_dgt _ (by omega)]; exact this⟩

theorem num_pos (b : Nat) (hb : 2 ≤ b) (n : Nat) : 1 ≤ (num b n).length := by
  by_cases h : n < b
  · rw [num_lt b n h]; simp
  · rw [num_ge b n hb (by omega)]; simp
theorem num_len (b : Nat) (hb : 2 ≤ b) : ∀ (k n : Nat), n < b ^ (k + 1) → (num b n).length ≤ k + 1
  | 0, n, h => by rw [num_lt b n (by simpa using h)]; simp
  | k + 1, n, h => by
    by_cases hn : n < b
    · rw [num_lt b n hn]; simp
    · rw [num_ge b n hb (by omega)]
      have := num_len b hb k (n / b) (by rw [Nat.div_lt_iff_lt_mul (by omega)]; rw [Nat.pow_succ] at h; exact h)
      simp; omega

/-- The value of what begins a numeral is at most the number. -/
theorem val_take_le (b : Nat) (hb : 1 ≤ b) (l : List UInt8) (k : Nat) : val b (l.take k) ≤ val b l := by
  have mono : ∀ (r : List UInt8) (x : Nat), x ≤ r.foldl (fun a c => a * b + dv c) x := by
    intro r
    induction r with
    | nil => intro x; exact Nat.le_refl _
    | cons c r ih => intro x; rw [List.foldl_cons]; exact Nat.le_trans (Nat.le_trans (Nat.le_mul_of_pos_right x hb) (Nat.le_add_right _ _)) (ih _)
  have e : val b l = (l.drop k).foldl (fun a c => a * b + dv c) (val b (l.take k)) := by
    rw [val, val, ← List.foldl_append, List.take_append_drop]
  rw [e]; exact mono _ _
theorem val_take_succ (b : Nat) (l : List UInt8) (k : Nat) (h : k < l.length) : val b (l.take (k + 1)) = val b (l.take k) * b + dv l[k] := by
  rw [List.take_succ_eq_append_getElem h, val_snoc]

/-! ## join, and its one way back -/
def join (c : UInt8) : List (List UInt8) → List UInt8
  | [] => []
  | [x] => x
  | x :: y :: r => x ++ c :: join c (y :: r)
theorem join_one (c : UInt8) (x : List UInt8) : join c [x] = x := rfl
theorem join_cons (c : UInt8) (x : List UInt8) (r : List (List UInt8)) (h : r ≠ []) : join c (x :: r) = x ++ c :: join c r := by
  cases r with
  | nil => exact absurd rfl h
  | cons y r => rfl
theorem join_snoc (c : UInt8) : ∀ (ps : List (List UInt8)) (x : List UInt8), ps ≠ [] → join c (ps ++ [x]) = join c ps ++ c :: x
  | [], _, h => absurd rfl h
  | [p], x, _ => rfl
  | p :: q :: r, x, _ => by
    have ih := join_snoc c (q :: r) x (by simp)
    rw [List.cons_append, join_cons c p _ (by simp), ih, join_cons c p (q :: r) (by simp)]
    simp
theorem head_part (c : UInt8) : ∀ (x y : List UInt8) (r s : List UInt8), c ∉ x → c ∉ y → x ++ c :: r = y ++ c :: s → x = y ∧ r = s
  | [], [], r, s, _, _, h => ⟨rfl, by simpa using h⟩
  | [], b :: y, r, s, _, hy, h => by
    simp only [List.nil_append, List.cons_append, List.cons.injEq] at h
    exact absurd (by rw [h.1]; simp) hy
  | a :: x, [], r, s, hx, _, h => by
    simp only [List.nil_append, List.cons_append, List.cons.injEq] at h
    exact absurd (by rw [← h.1]; simp) hx
  | a :: x, b :: y, r, s, hx, hy, h => by
    simp only [List.cons_append, List.cons.injEq] at h
    obtain ⟨e1, e2⟩ := head_part c x y r s (fun m => hx (by simp [m])) (fun m => hy (by simp [m])) h.2
    exact ⟨by rw [h.1, e1], e2⟩
theorem join_inj (c : UInt8) : ∀ (ps qs : List (List UInt8)), ps ≠ [] → qs ≠ [] → (∀ p ∈ ps, c ∉ p) → (∀ q ∈ qs, c ∉ q) → join c ps = join c qs → ps = qs
  | [], _, h, _, _, _, _ => absurd rfl h
  | _ :: _, [], _, h, _, _, _ => absurd rfl h
  | [p], [q], _, _, _, _, h => by rw [join_one, join_one] at h; rw [h]
  | [p], q :: q2 :: r, _, _, hp, _, h => by
    rw [join_one, join_cons c q _ (by simp)] at h
    exact absurd (by rw [h]; simp) (hp p (by simp))
  | p :: p2 :: r, [q], _, _, _, hq, h => by
    rw [join_one, join_cons c p _ (by simp)] at h
    exact absurd (by rw [← h]; simp) (hq q (by simp))
  | p :: p2 :: r, q :: q2 :: t, _, _, hp, hq, h => by
    rw [join_cons c p _ (by simp), join_cons c q _ (by simp)] at h
    obtain ⟨e1, e2⟩ := head_part c p q _ _ (hp p (by simp)) (hq q (by simp)) h
    rw [e1, join_inj c (p2 :: r) (q2 :: t) (by simp) (by simp) (fun x m => hp x (by simp [m])) (fun x m => hq x (by simp [m])) e2]
theorem not_mem_join (c d : UInt8) (hcd : c ≠ d) : ∀ ps : List (List UInt8), (∀ p ∈ ps, c ∉ p) → c ∉ join d ps
  | [], _ => by simp [join]
  | [p], h => by rw [join_one]; exact h p (by simp)
  | p :: q :: r, h => by
    rw [join_cons d p _ (by simp)]
    have ih := not_mem_join c d hcd (q :: r) (fun x m => h x (by simp [m]))
    simp only [List.mem_append, List.mem_cons, not_or]
    exact ⟨h p (by simp), hcd, ih⟩
theorem mem_join (c : UInt8) (ps : List (List UInt8)) (h : 2 ≤ ps.length) : c ∈ join c ps := by
  match ps, h with
  | p :: q :: r, _ => rw [join_cons c p _ (by simp)]; simp
theorem join_len (c : UInt8) : ∀ ps : List (List UInt8), ps.length ≤ (join c ps).length + 1
  | [] => by simp
  | [p] => by simp
  | p :: q :: r => by
    have ih := join_len c (q :: r)
    rw [join_cons c p _ (by simp)]
    simp at ih ⊢; omega

/-! ## the document's parts -/
def step (c : UInt8) (acc : List (List UInt8)) (x : UInt8) : List (List UInt8) := if x = c then acc ++ [[]] else acc.dropLast ++ [acc.getLastD [] ++ [x]]
def parts (c : UInt8) (l : List UInt8) : List (List UInt8) := l.foldl (step c) [[]]
theorem parts_snoc (c : UInt8) (l : List UInt8) (x : UInt8) : parts c (l ++ [x]) = step c (parts c l) x := by simp [parts]
theorem snoc_ind {p : List UInt8 → Prop} (h0 : p []) (h1 : ∀ l x, p l → p (l ++ [x])) : ∀ l, p l := by
  intro l
  have : ∀ r : List UInt8, p r.reverse := by
    intro r
    induction r with
    | nil => exact h0
    | cons x r ih => rw [List.reverse_cons]; exact h1 _ _ ih
  have := this l.reverse
  rwa [List.reverse_reverse] at this
theorem parts_all (c : UInt8) (l : List UInt8) : ∃ (qs : List (List UInt8)) (q : List UInt8), parts c l = qs ++ [q] ∧ (∀ p ∈ qs ++ [q], c ∉ p) ∧ join c (qs ++ [q]) = l := by
  refine snoc_ind (p := fun l => ∃ (qs : List (List UInt8)) (q : List UInt8), parts c l = qs ++ [q] ∧ (∀ p ∈ qs ++ [q], c ∉ p) ∧ join c (qs ++ [q]) = l) ?_ ?_ l
  · exact ⟨[], [], rfl, by simp, rfl⟩
  · intro l x ih
    obtain ⟨qs, q, e, hm, hj⟩ := ih
    rw [parts_snoc, e, step]
    by_cases hx : x = c
    · rw [if_pos hx]
      refine ⟨qs ++ [q], [], rfl, ?_, ?_⟩
      · intro p hp
        rcases List.mem_append.1 hp with hp | hp
        · exact hm p hp
        · obtain rfl := List.mem_singleton.1 hp; simp
      · rw [join_snoc c _ _ (by simp), hj, hx]
    · rw [if_neg hx, List.dropLast_concat]
      refine ⟨qs, q ++ [x], by simp, ?_, ?_⟩
      · intro p hp
        rcases List.mem_append.1 hp with hp | hp
        · exact hm p (by simp [hp])
        · obtain rfl := List.mem_singleton.1 hp
          have := hm q (by simp)
          simp [this]; exact fun h => hx h.symm
      · cases qs with
        | nil => simp only [List.nil_append, join_one] at hj ⊢; rw [hj]
        | cons r rs =>
          rw [join_snoc c _ _ (by simp)] at hj ⊢
          rw [← hj]; simp
theorem parts_join (c : UInt8) (l : List UInt8) : join c (parts c l) = l := by obtain ⟨qs, q, e, _, h⟩ := parts_all c l; rw [e, h]
theorem parts_free (c : UInt8) (l : List UInt8) : ∀ p ∈ parts c l, c ∉ p := by obtain ⟨qs, q, e, h, _⟩ := parts_all c l; rw [e]; exact h
theorem parts_ne (c : UInt8) (l : List UInt8) : parts c l ≠ [] := by obtain ⟨qs, q, e, _, _⟩ := parts_all c l; rw [e]; simp
theorem parts_of (c : UInt8) (ps : List (List UInt8)) (h : ps ≠ []) (hf : ∀ p ∈ ps, c ∉ p) : parts c (join c ps) = ps :=
  join_inj c _ _ (parts_ne _ _) h (parts_free _ _) hf (parts_join _ _)

/-! ## strings.SplitN's pieces, where the text is joined -/
theorem index_free (c : UInt8) : ∀ x : List UInt8, c ∉ x → Go.Lib.index x [c] = -1
  | [], _ => rfl
  | a :: x, h => by
    have hne : (c == a) = false := by rw [beq_eq_false_iff_ne]; exact fun e => h (by simp [e])
    rw [Go.Lib.index, if_neg (by simp [List.isPrefixOf, hne]), index_free c x (fun m => h (by simp [m]))]; rfl
theorem index_head (c : UInt8) : ∀ (x r : List UInt8), c ∉ x → Go.Lib.index (x ++ c :: r) [c] = x.length
  | [], r, _ => by rw [List.nil_append, Go.Lib.index, if_pos (by simp [List.isPrefixOf])]; rfl
  | a :: x, r, h => by
    have hne : (c == a) = false := by rw [beq_eq_false_iff_ne]; exact fun e => h (by simp [e])
    have e : ((x.length : Int) == -1) = false := by rw [beq_eq_false_iff_ne]; omega
    rw [List.cons_append, Go.Lib.index, if_neg (by simp [List.isPrefixOf, hne]), index_head c x r (fun m => h (by simp [m])), e]; simp
theorem splitK_join (c : UInt8) : ∀ (ps : List (List UInt8)) (m : Nat), ps ≠ [] → (∀ p ∈ ps, c ∉ p) → ps.length ≤ m + 1 → Go.Lib.splitK [c] 0 m (join c ps) = ps
  | [], _, h, _, _ => absurd rfl h
  | [p], m, _, hf, _ => by
    rw [join_one]
    cases m with
    | zero => rfl
    | succ m => rw [Go.Lib.splitK, index_free c p (hf p (by simp))]; rfl
  | p :: q :: r, 0, _, _, hl => by simp at hl
  | p :: q :: r, m + 1, _, hf, hl => by
    rw [join_cons c p _ (by simp), Go.Lib.splitK, index_head c p _ (hf p (by simp))]
    have e : ((p.length : Int) == -1) = false := by rw [beq_eq_false_iff_ne]; omega
    rw [e]
    have e2 : (p ++ c :: join c (q :: r)).take (((p.length : Int)).toNat + 0) = p := by simp
    have e3 : (p ++ c :: join c (q :: r)).drop (((p.length : Int)).toNat + [c].length) = join c (q :: r) := by
      simp [List.drop_append]
    rw [e2, e3, splitK_join c (q :: r) m (by simp) (fun x hx => hf x (by simp [hx])) (by simp at hl ⊢; omega)]
    rfl

/-! ## addresses -/
def be (l : List UInt8) : Nat := l.foldl (fun a c => a * 256 + c.toNat) 0
theorem be_snoc (l : List UInt8) (c : UInt8) : be (l ++ [c]) = be l * 256 + c.toNat := by simp [be]
/-- The k-th number of z bytes. -/
def word (z : Nat) (a : List UInt8) (k : Nat) : Nat := be ((a.drop (k * z)).take z)
def words (z n : Nat) (a : List UInt8) : List Nat := (List.range n).map (word z a)
theorem words_length (z n : Nat) (a : List UInt8) : (words z n a).length = n := by simp [words]
theorem words_succ (z n : Nat) (a : List UInt8) : words z (n + 1) a = words z n a ++ [word z a n] := by simp [words, List.range_succ]
theorem words_take (z n : Nat) (a b : List UInt8) (h : n * z ≤ a.length) : words z n (a ++ b) = words z n a := by
  unfold words
  refine List.map_congr_left fun k hk => ?_
  have hk := List.mem_range.1 hk
  have : k * z + z ≤ n * z := by rw [← Nat.succ_mul]; exact Nat.mul_le_mul_right z hk
  unfold word
  rw [List.drop_append_of_le_length (by omega), List.take_append_of_le_length (by simp; omega)]
theorem be_lt (l : List UInt8) : be l < 256 ^ l.length := by
  refine snoc_ind (p := fun l => be l < 256 ^ l.length) (by decide) ?_ l
  intro l x ih
  rw [be_snoc, List.length_append, List.length_singleton, Nat.pow_succ]
  have := x.toNat_lt
  omega
theorem word_lt (z : Nat) (a : List UInt8) (k : Nat) : word z a k < 256 ^ z := by
  refine Nat.lt_of_lt_of_le (be_lt _) (Nat.pow_le_pow_right (by decide) ?_)
  simp; omega
/-- n in z bytes, the highest first. -/
def putB : Nat → Nat → List UInt8
  | 0, _ => []
  | z + 1, n => putB z (n / 256) ++ [UInt8.ofNat n]
theorem putB_length : ∀ z n, (putB z n).length = z
  | 0, _ => rfl
  | z + 1, n => by simp [putB, putB_length z]
theorem be_putB : ∀ z n, n < 256 ^ z → be (putB z n) = n
  | 0, n, h => by simp at h; subst h; rfl
  | z + 1, n, h => by
    rw [putB, be_snoc, be_putB z (n / 256) (by rw [Nat.pow_succ] at h; rw [Nat.div_lt_iff_lt_mul (by decide)]; exact h)]
    simp; omega
theorem putB_be : ∀ l : List UInt8, putB l.length (be l) = l := by
  refine snoc_ind rfl ?_
  intro l x ih
  rw [be_snoc, List.length_append, List.length_singleton, putB]
  have hx := x.toNat_lt
  rw [show (be l * 256 + x.toNat) / 256 = be l by omega, ih]
  congr 2
  apply UInt8.toNat_inj.1
  simp
theorem putB_word (z : Nat) (a : List UInt8) (k : Nat) (h : k * z + z ≤ a.length) : putB z (word z a k) = (a.drop (k * z)).take z := by
  have hl : ((a.drop (k * z)).take z).length = z := by simp; omega
  have := putB_be ((a.drop (k * z)).take z)
  rwa [hl] at this
theorem take_next (z : Nat) (a : List UInt8) (k : Nat) (h : k * z + z ≤ a.length) : a.take ((k + 1) * z) = a.take (k * z) ++ putB z (word z a k) := by
  rw [putB_word z a k h, Nat.succ_mul, List.take_add]
theorem word_here (z : Nat) (a : List UInt8) (k n : Nat) (h : a.length = k * z) (hn : n < 256 ^ z) : word z (a ++ putB z n) k = n := by
  unfold word
  rw [← h, List.drop_left', List.take_of_length_le (by rw [putB_length]; exact Nat.le_refl _), be_putB z n hn]
  rfl

/-- The text of the numbers, the sign between. -/
def txt (c : UInt8) (b z n : Nat) (a : List UInt8) : List UInt8 := join c ((words z n a).map (num b))
theorem num_free (c : UInt8) (b : Nat) (hb : 2 ≤ b) (hc : b ≤ 16) (h : ¬ isD c) (n : Nat) : c ∉ num b n := fun m => h (num_mem b hb hc n c m).1
theorem txt_parts (c : UInt8) (b z n : Nat) (a : List UInt8) (hb : 2 ≤ b) (hc : b ≤ 16) (h : ¬ isD c) (hn : n ≠ 0) : parts c (txt c b z n a) = (words z n a).map (num b) := by
  refine parts_of c _ ?_ ?_
  · intro e
    have := congrArg List.length e
    simp [words] at this; exact hn this
  · intro p hp
    obtain ⟨k, _, rfl⟩ := List.mem_map.1 hp
    exact num_free c b hb hc h k
theorem words_inj (z n : Nat) (a a' : List UInt8) (h : a.length = n * z) (h' : a'.length = n * z) (e : words z n a = words z n a') : a = a' := by
  have key : ∀ k, k ≤ n → a.take (k * z) = a'.take (k * z) := by
    intro k
    induction k with
    | zero => intro _; simp
    | succ k ih =>
      intro hk
      have hz : k * z + z ≤ n * z := by rw [← Nat.succ_mul]; exact Nat.mul_le_mul_right z hk
      have ew : word z a k = word z a' k := by
        have h1 : (words z n a)[k]? = some (word z a k) := by simp [words, List.getElem?_range (show k < n by omega)]
        have h2 : (words z n a')[k]? = some (word z a' k) := by simp [words, List.getElem?_range (show k < n by omega)]
        rw [e, h2] at h1; exact (Option.some.inj h1).symm
      rw [take_next z a k (by omega), take_next z a' k (by omega), ih (by omega), ew]
  have := key n (Nat.le_refl _)
  rwa [List.take_of_length_le (by omega), List.take_of_length_le (by omega)] at this
theorem map_num_inj (b : Nat) (hb : 2 ≤ b) (hc : b ≤ 16) : ∀ (x y : List Nat), x.map (num b) = y.map (num b) → x = y
  | [], [], _ => rfl
  | [], _ :: _, h => by simp at h
  | _ :: _, [], h => by simp at h
  | p :: x, q :: y, h => by
    simp only [List.map_cons, List.cons.injEq] at h
    rw [num_inj b hb hc p q h.1, map_num_inj b hb hc x y h.2]
theorem txt_inj (c : UInt8) (b z n : Nat) (a a' : List UInt8) (hb : 2 ≤ b) (hc : b ≤ 16) (hs : ¬ isD c) (hn : n ≠ 0) (h : a.length = n * z) (h' : a'.length = n * z) (e : txt c b z n a = txt c b z n a') : a = a' := by
  refine words_inj z n a a' h h' (map_num_inj b hb hc _ _ ?_)
  rw [← txt_parts c b z n a hb hc hs hn, ← txt_parts c b z n a' hb hc hs hn, e]
theorem txt_succ (c : UInt8) (b z n : Nat) (a : List UInt8) (hn : n ≠ 0) : txt c b z (n + 1) a = txt c b z n a ++ c :: num b (word z a n) := by
  unfold txt
  rw [words_succ, List.map_append, List.map_singleton, join_snoc]
  intro e
  have := congrArg List.length e
  simp [words] at this; exact hn this
theorem txt_one (c : UInt8) (b z : Nat) (a : List UInt8) : txt c b z 1 a = num b (word z a 0) := by
  simp [txt, words, join_one, List.range_succ]
theorem txt_zero (c : UInt8) (b z : Nat) (a : List UInt8) : txt c b z 0 a = [] := by simp [txt, words, join]

theorem dot_no : ¬ isD 46 := by unfold isD; decide
theorem colon_no : ¬ isD 58 := by unfold isD; decide

/-! ## Text and Read -/
def isA (a : ByteArray) : Bool := decide (a.size = 4) || decide (a.size = 16)
def atxt (a : ByteArray) : List UInt8 := if a.size = 4 then txt 46 10 1 4 a.data.toList else txt 58 16 2 8 a.data.toList
def txA (a : ByteArray) : ByteArray := if isA a then ⟨(atxt a).toArray⟩ else ByteArray.empty
theorem atxt4 (a : ByteArray) (h : a.size = 4) : atxt a = txt 46 10 1 4 a.data.toList := by unfold atxt; rw [if_pos h]
theorem atxt6 (a : ByteArray) (h : a.size = 16) : atxt a = txt 58 16 2 8 a.data.toList := by unfold atxt; rw [if_neg (by omega)]
theorem atxt_apart (a b : ByteArray) (ha : a.size = 4) (hb : b.size = 16) : atxt a ≠ atxt b := by
  rw [atxt4 a ha, atxt6 b hb]
  intro e
  have h1 : (46 : UInt8) ∈ txt 46 10 1 4 a.data.toList := mem_join 46 _ (by simp [words])
  rw [e] at h1
  refine not_mem_join 46 58 (by decide) _ ?_ h1
  intro p hp
  obtain ⟨k, _, rfl⟩ := List.mem_map.1 hp
  exact num_free 46 16 (by decide) (by decide) dot_no k
theorem isA_cases {a : ByteArray} (h : isA a = true) : a.size = 4 ∨ a.size = 16 := by
  unfold isA at h; simpa using h
theorem bytes_ext (a b : ByteArray) (h : a.data.toList = b.data.toList) : a = b := ByteArray.ext (Array.toList_inj.1 h)
theorem atxt_inj (a b : ByteArray) (ha : isA a = true) (hb : isA b = true) (e : atxt a = atxt b) : a = b := by
  have la : a.data.toList.length = a.size := by simp
  have lb : b.data.toList.length = b.size := by simp
  rcases isA_cases ha with ha | ha <;> rcases isA_cases hb with hb | hb
  · rw [atxt4 a ha, atxt4 b hb] at e
    exact bytes_ext a b (txt_inj 46 10 1 4 _ _ (by decide) (by decide) dot_no (by decide) (by omega) (by omega) e)
  · exact absurd e (atxt_apart a b ha hb)
  · exact absurd e.symm (atxt_apart b a hb ha)
  · rw [atxt6 a ha, atxt6 b hb] at e
    exact bytes_ext a b (txt_inj 58 16 2 8 _ _ (by decide) (by decide) colon_no (by decide) (by omega) (by omega) e)

/-- s is the text of the address. -/
def Of (s : ByteArray) (a : ByteArray) : Prop := isA a = true ∧ atxt a = s.data.toList
open Classical in
noncomputable def rdO (s : ByteArray) : Bool := if ∃ a, Of s a then true else false
open Classical in
noncomputable def rdA (s : ByteArray) : ByteArray := if h : ∃ a, Of s a then h.choose else ByteArray.empty
theorem rd_yes (s a : ByteArray) (h : Of s a) : rdO s = true ∧ rdA s = a := by
  have hx : ∃ a, Of s a := ⟨a, h⟩
  refine ⟨if_pos hx, ?_⟩
  rw [rdA, dif_pos hx]
  have hc := hx.choose_spec
  exact atxt_inj _ _ hc.1 h.1 (hc.2.trans h.2.symm)
theorem rd_no (s : ByteArray) (h : ∀ a, ¬ Of s a) : rdO s = false ∧ rdA s = ByteArray.empty := by
  have hx : ¬ ∃ a, Of s a := fun ⟨a, ha⟩ => h a ha
  exact ⟨if_neg hx, by rw [rdA, dif_neg hx]⟩
theorem rd_cases (s : ByteArray) : (∃ a, Of s a ∧ rdO s = true ∧ rdA s = a) ∨ ((∀ a, ¬ Of s a) ∧ rdO s = false ∧ rdA s = ByteArray.empty) := by
  by_cases h : ∃ a, Of s a
  · obtain ⟨a, ha⟩ := h
    exact .inl ⟨a, ha, (rd_yes s a ha).1, (rd_yes s a ha).2⟩
  · exact .inr ⟨fun a ha => h ⟨a, ha⟩, rd_no s fun a ha => h ⟨a, ha⟩⟩
theorem txA_of (a : ByteArray) (h : isA a = true) : Of (txA a) a := by
  refine ⟨h, ?_⟩
  rw [txA, if_pos h]

end Go.Proofs.YtjppfalckfmalaaDoor.Ad
