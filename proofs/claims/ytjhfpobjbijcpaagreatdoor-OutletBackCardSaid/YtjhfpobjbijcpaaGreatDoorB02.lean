/-
  What the bytes of TLVs are, which TLVs bytes are, and where they break off; a datagram's head: definitions on values alone, and facts on them. No conditions.
-/
import Derived.Test.YtjhfpobjbijcpaaGreatDoorB01
namespace Go.Proofs.YtjhfpobjbijcpaaGreatDoor.F1
open Go.ChangeShapes Go.WideShapes Go.ChangeAt Go.RowKit
open Go.Proofs.YtjhfpobjbijcpaaGreatDoor.Cur (numL)
open Go.Proofs.YtjhfpobjbijcpaaGreatDoor.Nu
set_option linter.unusedVariables false
set_option maxRecDepth 100000
set_option maxRecDepth 100000

/-- The i-th byte. -/
def bt (b : ByteArray) (i : Nat) : Int := ((b.data.toList.getD i 0).toNat : Int)
theorem bt_eq (b : ByteArray) (i : Nat) (h : i < b.size) : (b[i].toNat : Int) = bt b i := by
  unfold bt
  rw [List.getD_eq_getElem?_getD, List.getElem?_eq_getElem (by simpa using h)]
  rfl
theorem bt_nn (b : ByteArray) (i : Nat) : 0 ≤ bt b i := Int.natCast_nonneg _
theorem bt_lt (b : ByteArray) (i : Nat) : bt b i < 256 := by
  unfold bt
  have := UInt8.toNat_lt (b.data.toList.getD i 0)
  omega
theorem bt_at {s : ByteArray} {a b : List UInt8} {t : UInt8} {p : Nat} (h : s.data.toList = a ++ t :: b) (hp : a.length = p) : bt s p = (t.toNat : Int) := by
  subst hp
  unfold bt
  rw [h, List.getD_eq_getElem?_getD, List.getElem?_append_right (Nat.le_refl _), Nat.sub_self]
  rfl
theorem size_of {s : ByteArray} {t : List UInt8} (h : s.data.toList = t) : s.size = t.length := by rw [← h]; simp
theorem num_two (s : ByteArray) (p : Nat) (h : p + 1 < s.size) : ((numL ((s.data.toList.drop p).take 2) : Nat) : Int) = 256 * bt s p + bt s (p + 1) := by
  have hp : p < s.data.toList.length := by simp; omega
  have hq : p + 1 < s.data.toList.length := by simpa using h
  rw [← bt_eq s p (by omega), ← bt_eq s (p + 1) h, List.drop_eq_getElem_cons hp, List.drop_eq_getElem_cons hq]
  show (((0 * 256 + (s.data.toList[p]).toNat) * 256 + (s.data.toList[p + 1]).toNat : Nat) : Int) = _
  rw [Nat.zero_mul, Nat.zero_add]
  have e1 : s.data.toList[p] = s[p] := rfl
  have e2 : s.data.toList[p + 1] = s[p + 1] := rfl
  rw [e1, e2]
  push_cast
  omega

/-- A TLV: its data and its type; and with its place. -/
abbrev El := ByteArray × Int
abbrev T := Int × El
/-- A TLV's bytes. -/
def enc1 (x : El) : List UInt8 := if x.2 = 0 then [0] else UInt8.ofNat x.2.toNat :: UInt8.ofNat x.1.size :: x.1.data.toList
/-- The bytes of TLVs. -/
def encT (l : List El) : List UInt8 := l.flatMap enc1
def ok1 (x : El) : Prop := 0 ≤ x.2 ∧ x.2 ≤ 255 ∧ x.1.size ≤ 255 ∧ (x.2 = 0 → x.1 = ⟨#[]⟩)
def okT (l : List El) : Prop := ∀ x ∈ l, ok1 x
theorem okT_nil : okT [] := fun x hx => absurd hx (by simp)
theorem okT_snoc {l : List El} {x : El} (h : okT l) (hx : ok1 x) : okT (l ++ [x]) := fun y hy => by
  rcases List.mem_append.1 hy with h1 | h1
  · exact h y h1
  · rw [List.mem_singleton.1 h1]; exact hx
theorem okT_append {a b : List El} (h : okT a) (hb : okT b) : okT (a ++ b) := fun y hy => by
  rcases List.mem_append.1 hy with h1 | h1
  · exact h y h1
  · exact hb y h1
theorem okT_cons {l : List El} {x : El} (h : okT (x :: l)) : ok1 x ∧ okT l := ⟨h x (by simp), fun y hy => h y (by simp [hy])⟩
theorem encT_nil : encT [] = [] := rfl
theorem encT_cons (x : El) (l : List El) : encT (x :: l) = enc1 x ++ encT l := by simp [encT]
theorem encT_append (a b : List El) : encT (a ++ b) = encT a ++ encT b := by simp [encT]
theorem encT_snoc (l : List El) (x : El) : encT (l ++ [x]) = encT l ++ enc1 x := by simp [encT]
theorem enc1_len (x : El) : (enc1 x).length = if x.2 = 0 then 1 else 2 + x.1.size := by
  unfold enc1
  split
  · rfl
  · simp; omega
theorem enc1_pos (x : El) : 1 ≤ (enc1 x).length := by rw [enc1_len]; split <;> omega
theorem len_le (l : List El) : l.length ≤ (encT l).length := by
  induction l with
  | nil => exact Nat.le_refl _
  | cons x l ih => rw [encT_cons, List.length_append, List.length_cons]; have := enc1_pos x; omega

/-- The TLV with which bytes begin, and what is behind it. -/
def cut1 : List UInt8 → Option (El × List UInt8)
  | [] => none
  | t :: r => if t.toNat = 0 then some ((⟨#[]⟩, 0), r) else
    match r with
    | [] => none
    | n :: r => if n.toNat ≤ r.length then some ((⟨(r.take n.toNat).toArray⟩, (t.toNat : Int)), r.drop n.toNat) else none
theorem cut1_zero (t : UInt8) (r : List UInt8) (h : t.toNat = 0) : cut1 (t :: r) = some ((⟨#[]⟩, 0), r) := by unfold cut1; simp [h]
theorem cut1_lone (t : UInt8) (h : ¬ t.toNat = 0) : cut1 [t] = none := by unfold cut1; simp [h]
theorem cut1_two (t n : UInt8) (r : List UInt8) (h : ¬ t.toNat = 0) : cut1 (t :: n :: r) = if n.toNat ≤ r.length then some ((⟨(r.take n.toNat).toArray⟩, (t.toNat : Int)), r.drop n.toNat) else none := by
  unfold cut1; simp only [h, if_false]
theorem cut1_some {r r' : List UInt8} {x : El} (h : cut1 r = some (x, r')) : ok1 x ∧ r = enc1 x ++ r' := by
  match r, h with
  | t :: r, h =>
    by_cases ht : t.toNat = 0
    · rw [cut1_zero t r ht] at h
      simp only [Option.some.injEq, Prod.mk.injEq] at h
      obtain ⟨rfl, rfl⟩ := h
      have : t = 0 := UInt8.toNat_inj.1 ht
      subst this
      exact ⟨⟨by simp, by simp, by show (0 : Nat) ≤ 255; omega, fun _ => rfl⟩, rfl⟩
    · match r, h with
      | [], h => rw [cut1_lone t ht] at h; cases h
      | n :: r, h =>
        rw [cut1_two t n r ht] at h
        by_cases hn : n.toNat ≤ r.length
        · rw [if_pos hn] at h
          simp only [Option.some.injEq, Prod.mk.injEq] at h
          obtain ⟨rfl, rfl⟩ := h
          have hs : (⟨(r.take n.toNat).toArray⟩ : ByteArray).size = n.toNat := by show (r.take n.toNat).toArray.size = _; rw [List.size_toArray, List.length_take]; omega
          have ht' := UInt8.toNat_lt t
          have hn' := UInt8.toNat_lt n
          refine ⟨⟨by simp only []; omega, by simp only []; omega, by simp only []; rw [hs]; omega, by simp only []; omega⟩, ?_⟩
          unfold enc1
          simp only [hs]
          rw [if_neg (by omega)]
          simp
        · rw [if_neg hn] at h; cases h
theorem cut1_enc {x : El} (h : ok1 x) (r : List UInt8) : cut1 (enc1 x ++ r) = some (x, r) := by
  obtain ⟨⟨d⟩, t⟩ := x
  obtain ⟨h0, h1, h2, h3⟩ := h
  change d.size ≤ 255 at h2
  simp only [] at h0 h1 h3
  unfold enc1
  by_cases ht : t = 0
  · subst ht
    rw [if_pos rfl, h3 rfl]
    rfl
  · rw [if_neg ht]
    have e1 : (UInt8.ofNat t.toNat).toNat = t.toNat := by rw [UInt8.toNat_ofNat']; omega
    have e2 : (UInt8.ofNat d.size).toNat = d.size := by rw [UInt8.toNat_ofNat']; omega
    show cut1 (UInt8.ofNat t.toNat :: UInt8.ofNat d.size :: (d.toList ++ r)) = _
    rw [cut1_two _ _ _ (by rw [e1]; omega), e2, if_pos (by simp), e1]
    have : ((t.toNat : Nat) : Int) = t := by omega
    rw [this, List.take_left' (by simp), List.drop_left' (by simp)]

/-- What stands where a TLV begins: one of the type 0; a type alone; one whose data aren't all there; one that is. -/
theorem step {s : ByteArray} {a r : List UInt8} {p : Nat} (h : s.data.toList = a ++ r) (hp : a.length = p) (hr : r ≠ []) : p < s.size ∧ s.size = p + r.length ∧
    ((bt s p = 0 ∧ ∃ r', cut1 r = some ((⟨#[]⟩, 0), r')) ∨ (¬ bt s p = 0 ∧ s.size < p + 2 ∧ cut1 r = none) ∨
     ∃ n : Nat, ¬ bt s p = 0 ∧ p + 2 ≤ s.size ∧ bt s (p + 1) = n ∧ n ≤ 255 ∧ ((s.size < p + 2 + n ∧ cut1 r = none) ∨ (p + 2 + n ≤ s.size ∧ ∃ x r', cut1 r = some (x, r') ∧ x.2 = bt s p ∧ x.1 = s.extract (p + 2) (p + 2 + n) ∧ x.1.size = n))) := by
  subst hp
  have hz : s.size = a.length + r.length := by rw [size_of h, List.length_append]
  match r, hr, h, hz with
  | t :: r, _, h, hz =>
    rw [List.length_cons] at hz
    refine ⟨by omega, hz, ?_⟩
    have hb := bt_at h rfl
    by_cases ht : t.toNat = 0
    · exact .inl ⟨by rw [hb, ht]; rfl, r, cut1_zero t r ht⟩
    have hb0 : ¬ bt s a.length = 0 := by rw [hb]; omega
    match r, h, hz with
    | [], h, hz => exact .inr (.inl ⟨hb0, by rw [hz]; simp, cut1_lone t ht⟩)
    | n :: r, h, hz =>
      rw [List.length_cons] at hz
      have hn' := UInt8.toNat_lt n
      have h' : s.data.toList = (a ++ [t]) ++ n :: r := by rw [h]; simp
      have hb1 : bt s (a.length + 1) = _ := bt_at h' (by simp)
      refine .inr (.inr ⟨n.toNat, hb0, by omega, hb1, by omega, ?_⟩)
      by_cases hn : n.toNat ≤ r.length
      · refine .inr ⟨by omega, _, _, by rw [cut1_two t n r ht, if_pos hn], hb.symm, ?_, ?_⟩
        · have h2 : s.data.toList = (a ++ [t, n]) ++ r := by rw [h]; simp
          refine text_eq ?_
          rw [ext_list, h2, show a.length + 2 = (a ++ [t, n]).length by simp, List.drop_left, Nat.add_sub_cancel_left]
        · show (r.take n.toNat).toArray.size = _
          rw [List.size_toArray, List.length_take]; omega
      · exact .inl ⟨by omega, by rw [cut1_two t n r ht, if_neg hn]⟩

theorem all_bytes : ∀ (n : Nat) (s : List UInt8), s.length ≤ n → ∃ l r, okT l ∧ s = encT l ++ r ∧ cut1 r = none
  | 0, s, h => ⟨[], s, okT_nil, rfl, by rw [List.length_eq_zero_iff.1 (Nat.le_zero.1 h)]; rfl⟩
  | n + 1, s, h => by
    cases hc : cut1 s with
    | none => exact ⟨[], s, okT_nil, rfl, hc⟩
    | some p =>
      obtain ⟨x, r'⟩ := p
      obtain ⟨ho, he⟩ := cut1_some hc
      have hl : r'.length ≤ n := by
        have := congrArg List.length he
        rw [List.length_append] at this
        have := enc1_pos x
        omega
      obtain ⟨l, r, h1, h2, h3⟩ := all_bytes n r' hl
      refine ⟨x :: l, r, fun y hy => ?_, by rw [he, encT_cons, h2, List.append_assoc], h3⟩
      rcases List.mem_cons.1 hy with rfl | hy
      · exact ho
      · exact h1 y hy
theorem enc_inj {r r' : List UInt8} (hr : cut1 r = none) (hr' : cut1 r' = none) : ∀ {l l' : List El}, okT l → okT l' → encT l ++ r = encT l' ++ r' → l = l' ∧ r = r'
  | [], [], _, _, h => ⟨rfl, by simpa [encT] using h⟩
  | [], x :: l', _, h', h => by
    rw [encT_nil, List.nil_append, encT_cons, List.append_assoc] at h
    rw [h, cut1_enc (okT_cons h').1] at hr
    cases hr
  | x :: l, [], h', _, h => by
    rw [encT_nil, List.nil_append, encT_cons, List.append_assoc] at h
    rw [← h, cut1_enc (okT_cons h').1] at hr'
    cases hr'
  | x :: l, y :: l', h1, h2, h => by
    rw [encT_cons, encT_cons, List.append_assoc, List.append_assoc] at h
    have e := congrArg cut1 h
    rw [cut1_enc (okT_cons h1).1, cut1_enc (okT_cons h2).1] at e
    simp only [Option.some.injEq, Prod.mk.injEq] at e
    obtain ⟨rfl, e⟩ := e
    obtain ⟨rfl, rfl⟩ := enc_inj hr hr' (okT_cons h1).2 (okT_cons h2).2 e
    exact ⟨rfl, rfl⟩

/-- TLVs, each with its place, the first at p. -/
def placed (p : Int) : List El → List T
  | [] => []
  | x :: l => (p, x) :: placed (p + ((enc1 x).length : Int)) l
theorem placed_len : ∀ (l : List El) (p : Int), (placed p l).length = l.length
  | [], _ => rfl
  | x :: l, p => by rw [placed, List.length_cons, List.length_cons, placed_len]
theorem placed_append : ∀ (a b : List El) (p : Int), placed p (a ++ b) = placed p a ++ placed (p + ((encT a).length : Int)) b
  | [], b, p => by simp [placed, encT]
  | x :: a, b, p => by
    rw [List.cons_append, placed, placed, placed_append, encT_cons, List.length_append, List.cons_append]
    congr 3
    push_cast
    omega
theorem placed_snoc (l : List El) (x : El) (p : Int) : placed p (l ++ [x]) = placed p l ++ [(p + ((encT l).length : Int), x)] := by
  rw [placed_append]; rfl

/-- The TLVs whose bytes these are, 0 and no error; or none, the place of the first that isn't all there, and the error. -/
def IsT (base : Int) (s : ByteArray) (o : List T × Int × Int) : Prop :=
  ∃ l r, okT l ∧ s.data.toList = encT l ++ r ∧ cut1 r = none ∧ o = if r = [] then (placed base l, 0, 0) else ([], base + ((encT l).length : Int), 2)
theorem isT_some (base : Int) (s : ByteArray) : ∃ o, IsT base s o := by
  obtain ⟨l, r, h1, h2, h3⟩ := all_bytes _ s.data.toList (Nat.le_refl _)
  exact ⟨_, l, r, h1, h2, h3, rfl⟩
theorem isT_one {base : Int} {s : ByteArray} {o o' : List T × Int × Int} (h : IsT base s o) (h' : IsT base s o') : o = o' := by
  obtain ⟨l, r, h1, h2, h3, rfl⟩ := h
  obtain ⟨l', r', h1', h2', h3', rfl⟩ := h'
  rw [h2] at h2'
  obtain ⟨rfl, rfl⟩ := enc_inj h3 h3' h1 h1' h2'
  rfl
noncomputable def outT (base : Int) (s : ByteArray) : List T × Int × Int := (isT_some base s).choose
theorem out_is (base : Int) (s : ByteArray) : IsT base s (outT base s) := (isT_some base s).choose_spec
theorem out_of {base : Int} {s : ByteArray} {o : List T × Int × Int} (h : IsT base s o) : outT base s = o := isT_one (out_is base s) h
theorem out_yes {base : Int} {s : ByteArray} {l : List El} (ho : okT l) (hs : s.data.toList = encT l) : outT base s = (placed base l, 0, 0) :=
  out_of ⟨l, [], ho, by rw [hs, List.append_nil], rfl, by rw [if_pos rfl]⟩
theorem out_no {base : Int} {s : ByteArray} {l : List El} {r : List UInt8} (ho : okT l) (hs : s.data.toList = encT l ++ r) (hr : cut1 r = none) (hn : r ≠ []) : outT base s = ([], base + ((encT l).length : Int), 2) :=
  out_of ⟨l, r, ho, hs, hr, by rw [if_neg hn]⟩
theorem out_cases (base : Int) (s : ByteArray) : (∃ l, okT l ∧ s.data.toList = encT l ∧ outT base s = (placed base l, 0, 0)) ∨ ∃ l r, okT l ∧ s.data.toList = encT l ++ r ∧ cut1 r = none ∧ r ≠ [] ∧ outT base s = ([], base + ((encT l).length : Int), 2) := by
  obtain ⟨l, r, h1, h2, h3⟩ := all_bytes _ s.data.toList (Nat.le_refl _)
  by_cases hr : r = []
  · subst hr
    rw [List.append_nil] at h2
    exact .inl ⟨l, h1, h2, out_yes h1 h2⟩
  · exact .inr ⟨l, r, h1, h2, h3, hr, out_no h1 h2 h3 hr⟩
theorem out_size (base : Int) (s : ByteArray) : (outT base s).1.length ≤ s.size := by
  rcases out_cases base s with ⟨l, _, h, e⟩ | ⟨l, r, _, _, _, _, e⟩
  · rw [e, size_of h]
    have := len_le l
    simp only [placed_len]
    omega
  · rw [e]; exact Nat.zero_le _

/-- The first fault of a datagram's head, and where it is; none. -/
def head (b : ByteArray) : Option (Int × Int) :=
  if 65535 < b.size then some (65535, 10) else if b.size < 4 then some ((b.size : Int), 2) else if ¬ bt b 0 = 42 then some (0, 4) else if ¬ bt b 1 = 2 then some (1, 4)
  else if (b.size : Int) < 4 + (256 * bt b 2 + bt b 3) then some ((b.size : Int), 2) else none
def bodyN (b : ByteArray) : Nat := (256 * bt b 2 + bt b 3).toNat
theorem bodyN_eq (b : ByteArray) : (bodyN b : Int) = 256 * bt b 2 + bt b 3 := by
  unfold bodyN
  have := bt_nn b 2
  have := bt_nn b 3
  omega
theorem bodyN_le (b : ByteArray) : (bodyN b : Int) ≤ 65535 := by
  rw [bodyN_eq]
  have := bt_lt b 2
  have := bt_lt b 3
  omega
/-- The body, its place and the error. -/
def outB (b : ByteArray) : ByteArray × Int × Int := match head b with
  | some (i, e) => (⟨#[]⟩, i, e)
  | none => (b.extract 4 (4 + bodyN b), 0, 0)
def trail (b : ByteArray) : ByteArray := b.extract (4 + bodyN b) b.size
/-- The bytes of a datagram of that body. -/
def wrapL (s : ByteArray) : List UInt8 := 42 :: 2 :: (layN (s.size : Int) 2 ++ s.data.toList)
def wrap (s : ByteArray) : ByteArray := if s.size ≤ 65531 then ⟨(wrapL s).toArray⟩ else ⟨#[]⟩
theorem fits2 {n : Nat} (h : n ≤ 65535) : Oct.fitsB (n : Int) 2 = true := by
  rw [Oct.fitsB_iff]
  refine ⟨by omega, by omega, by omega, ?_⟩
  show (n : Int) < ((256 ^ 2 : Nat) : Int)
  omega
theorem head_no {b : ByteArray} (h : head b = none) : b.size ≤ 65535 ∧ 4 ≤ b.size ∧ bt b 0 = 42 ∧ bt b 1 = 2 ∧ 4 + bodyN b ≤ b.size := by
  have e := bodyN_eq b
  unfold head at h
  split at h
  · cases h
  split at h
  · cases h
  split at h
  · cases h
  split at h
  · cases h
  split at h
  · cases h
  simp only [Decidable.not_not] at *
  refine ⟨by omega, by omega, by assumption, by assumption, by omega⟩
theorem head_yes {b : ByteArray} (h1 : b.size ≤ 65535) (h2 : 4 ≤ b.size) (h3 : bt b 0 = 42) (h4 : bt b 1 = 2) (h5 : 4 + bodyN b ≤ b.size) : head b = none := by
  have e := bodyN_eq b
  unfold head
  rw [if_neg (by omega), if_neg (by omega), if_neg (by omega), if_neg (by omega), if_neg (by omega)]
theorem wrap_size {s : ByteArray} (h : s.size ≤ 65531) : (wrap s).size = 4 + s.size := by
  unfold wrap
  rw [if_pos h]
  show (wrapL s).toArray.size = _
  unfold wrapL
  rw [List.size_toArray]
  simp only [List.length_cons, List.length_append, lay_len (fits2 (n := s.size) (by omega))]
  have : s.data.toList.length = s.size := by simp
  omega
/-- A body comes back of its datagram, and what is behind it is the trailer. -/
theorem wrap_back {s t : ByteArray} (h : 4 + s.size + t.size ≤ 65535) : outB (wrap s ++ t) = (s, 0, 0) ∧ trail (wrap s ++ t) = t ∧ head (wrap s ++ t) = none := by
  have hs : s.size ≤ 65531 := by omega
  have hz : (wrap s ++ t).size = 4 + s.size + t.size := by rw [ByteArray.size_append, wrap_size hs]
  have hl : (wrap s ++ t).data.toList = 42 :: 2 :: (layN (s.size : Int) 2 ++ (s.data.toList ++ t.data.toList)) := by
    rw [ByteArray.data_append, Array.toList_append]
    unfold wrap
    rw [if_pos hs]
    simp [wrapL]
  have hf := fits2 (n := s.size) (by omega)
  have hlay := lay_len hf
  have h0 : bt (wrap s ++ t) 0 = 42 := bt_at (a := []) hl rfl
  have h1 : bt (wrap s ++ t) 1 = 2 := bt_at (a := [42]) hl rfl
  have hb : bodyN (wrap s ++ t) = s.size := by
    have e := bodyN_eq (wrap s ++ t)
    have n := num_two (wrap s ++ t) 2 (by omega)
    have e2 : ((wrap s ++ t).data.toList.drop 2).take 2 = layN (s.size : Int) 2 := by
      rw [hl]
      show (layN (s.size : Int) 2 ++ (s.data.toList ++ t.data.toList)).take 2 = _
      exact List.take_left' hlay
    rw [e2, lay_num hf] at n
    simp only [show 2 + 1 = 3 from rfl] at n
    omega
  have hh := head_yes (b := wrap s ++ t) (by omega) (by omega) h0 h1 (by omega)
  have hw : (wrap s ++ t).data.toList = (42 :: 2 :: layN (s.size : Int) 2) ++ (s.data.toList ++ t.data.toList) := by rw [hl]; simp
  have h4 : (42 :: 2 :: layN (s.size : Int) 2).length = 4 := by rw [List.length_cons, List.length_cons, hlay]
  refine ⟨?_, ?_, hh⟩
  · unfold outB
    rw [hh, hb]
    simp only []
    rw [text_eq (a := (wrap s ++ t).extract 4 (4 + s.size)) (b := s) ?_]
    rw [ext_list, hw, List.drop_left' h4, Nat.add_sub_cancel_left]
    exact List.take_left' (by simp)
  · unfold trail
    rw [hb, hz]
    refine text_eq ?_
    rw [ext_list, hw, ← List.append_assoc, List.drop_left' (by rw [List.length_append, h4]; simp), List.take_of_length_le (by simp)]

/-- The bytes of a TLV, and whether it has them. -/
def putB (t : Int) (d : ByteArray) : Bool := decide (1 ≤ t) && decide (t ≤ 255) && decide (d.size ≤ 255)
def putO (t : Int) (d : ByteArray) : ByteArray := if putB t d = true then ⟨(UInt8.ofNat t.toNat :: UInt8.ofNat d.size :: d.data.toList).toArray⟩ else ⟨#[]⟩
theorem put_ok {x : El} (h : ok1 x) (h0 : ¬ x.2 = 0) : putB x.2 x.1 = true ∧ putO x.2 x.1 = ⟨(enc1 x).toArray⟩ := by
  obtain ⟨a, b, c, _⟩ := h
  have e : putB x.2 x.1 = true := by unfold putB; simp; omega
  refine ⟨e, ?_⟩
  unfold putO enc1
  rw [if_pos e, if_neg h0]
end Go.Proofs.YtjhfpobjbijcpaaGreatDoor.F1
