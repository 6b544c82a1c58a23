/-
  addr's read of one style: the address whose text it is, or none. Conditions: a text of at most 1,000 bytes; the tables hold what the program lays.
-/
import Derived.Test.YtjppfalckfmalaaDoorWr
import Derived.Test.YtjppfalckfmalaaDoorPub
namespace Go.Proofs.YtjppfalckfmalaaDoor.Rd
open Go.ChangeShapes Go.WideShapes Go.ChangeAt Go.RowKit
open Go.Proofs.YtjppfalckfmalaaDoor.Sb
open Go.Proofs.YtjppfalckfmalaaDoor.Ad
open Go.Proofs.YtjppfalckfmalaaDoor.Tab
open Go.Proofs.YtjppfalckfmalaaDoor.Fmt
open Go.Proofs.YtjppfalckfmalaaDoor.Wr
open Go.Proofs.YtjppfalckfmalaaDoor.Parse
set_option linter.unusedVariables false

theorem index_one (c : UInt8) : ∀ l : List UInt8, Lib.index l [c] = Lib.indexByte l c
  | [] => rfl
  | b :: l => by
    have ih := index_one c l
    rw [Lib.index, Lib.indexByte, ih]
    by_cases h : c = b
    · subst h; simp [List.isPrefixOf]
    · have h1 : (b == c) = false := by rw [beq_eq_false_iff_ne]; exact fun e => h e.symm
      have h2 : (c == b) = false := by rw [beq_eq_false_iff_ne]; exact h
      simp [List.isPrefixOf, h1, h2]

def pieces (c : UInt8) (n : Nat) (s : ByteArray) : List ByteArray := Lib.splitB ⟨#[c]⟩ 0 (min n (s.size + 1) - 1) s

set_option maxHeartbeats 1000000 in
theorem splitN_any (s : ByteArray) (c : UInt8) (n : Nat) (hn : 1 ≤ n) (hn2 : n ≤ 1000) (hs : s.size ≤ 1000) (w : World) :
    Calls Tryd.prog 36 #[.string s, .string ⟨#[c]⟩, .int .i64 n] w fun e w' =>
      e = .returned (.slice (some ⟨w.heap.size, 0, none⟩) (pieces c n s).length (min n (s.size + 1))) ∧ w' = w.alloc (.cells (Lib.cellsOf (pieces c n s) (min n (s.size + 1))) 9) := by
  have key := Any.strings_genSplit_core { Tryd.lays147 with } (by kernel_rfl) s ⟨#[c]⟩ 0 (n : Int) (min n (s.size + 1)) w (by omega) (Nat.le_refl 1) (Nat.zero_le _)
    (fun x cs hx => by
      refine (Any.strings_Index_one { Tryd.lays147 with } x c _).mono fun e w' ⟨he, hw⟩ => ⟨?_, hw⟩
      rw [he, ← index_one]; first | rfl | done)
    (by
      refine (Any.strings_Count_one { Tryd.lays147 with } s c w).mono fun e w' ⟨he, hw⟩ => ⟨?_, hw⟩
      rw [he]
      show _ = Ending.returned (Value.int .i64 ((Lib.count s.data.toList [c] : Nat) : Int))
      rw [Lib.count_one]
      rfl)
    (by omega) (by omega) (by rw [if_neg (by omega)]; omega)
  have KEY := Lib.hid key
  clear key
  go_enter Tryd.func36, Tryd.ntmps36
  go_wp2_with (go_at_call 41; refine KEY.out.mono ?_; rintro e w' ⟨rfl, rfl⟩)
  go_ret
  exact ⟨rfl, rfl⟩

theorem splitB_small (sep : ByteArray) : ∀ (k : Nat) (s : ByteArray), ∀ p ∈ Lib.splitB sep 0 k s, p.size ≤ s.size
  | 0, s, p, h => by
    rw [Lib.splitB] at h
    obtain rfl := List.mem_singleton.1 h
    exact Nat.le_refl _
  | k + 1, s, p, h => by
    rw [Lib.splitB] at h
    split at h
    · obtain rfl := List.mem_singleton.1 h
      exact Nat.le_refl _
    · rcases List.mem_cons.1 h with rfl | h
      · simp; omega
      · have := splitB_small sep k _ p h
        simp at this
        omega
theorem piece_small (c : UInt8) (n : Nat) (s : ByteArray) (k : Nat) (h : k < (pieces c n s).length) : ((pieces c n s)[k]).size ≤ s.size :=
  splitB_small _ _ _ _ (List.getElem_mem h)
theorem piece_cell (ps : List ByteArray) (N k : Nat) (h : k < ps.length) : (Lib.cellsOf ps N)[k]? = some (.string ps[k]) := by
  simp [Lib.cellsOf, List.getElem?_append, h]
theorem pieces_of (c : UInt8) (b z n : Nat) (s : ByteArray) (a : List UInt8) (hb : 2 ≤ b) (hc : b ≤ 16) (hd : ¬ isD c) (hn : n ≠ 0) (e : txt c b z n a = s.data.toList) :
    (pieces c (n + 1) s).map (·.data.toList) = (words z n a).map (num b) := by
  have hl := join_len c ((words z n a).map (num b))
  have e2 : join c ((words z n a).map (num b)) = s.data.toList := e
  rw [e2] at hl
  simp only [List.length_map, words_length] at hl
  unfold pieces
  rw [Lib.splitB_data, ← e2]
  have hs : s.data.toList.length = s.size := by simp
  refine splitK_join c _ _ ?_ ?_ ?_
  · intro h
    have := congrArg List.length h
    simp [words] at this; exact hn this
  · intro p hp
    obtain ⟨k, _, rfl⟩ := List.mem_map.1 hp
    exact num_free c b hb hc hd k
  · simp only [List.length_map, words_length]; omega
theorem pieces_count (c : UInt8) (b z n : Nat) (s : ByteArray) (a : List UInt8) (hb : 2 ≤ b) (hc : b ≤ 16) (hd : ¬ isD c) (hn : n ≠ 0) (e : txt c b z n a = s.data.toList) : (pieces c (n + 1) s).length = n := by
  have := congrArg List.length (pieces_of c b z n s a hb hc hd hn e)
  simpa [words_length] using this
theorem piece_at (c : UInt8) (b z n : Nat) (s : ByteArray) (a : List UInt8) (hb : 2 ≤ b) (hc : b ≤ 16) (hd : ¬ isD c) (hn : n ≠ 0) (e : txt c b z n a = s.data.toList) (k : Nat) (hk : k < (pieces c (n + 1) s).length) (hkn : k < n) :
    (pieces c (n + 1) s)[k].data.toList = num b (word z a k) := by
  have h := pieces_of c b z n s a hb hc hd hn e
  have h1 : ((pieces c (n + 1) s).map (·.data.toList))[k]? = some ((pieces c (n + 1) s)[k].data.toList) := by simp [List.getElem?_eq_getElem hk]
  have h2 : ((words z n a).map (num b))[k]? = some (num b (word z a k)) := by simp [words, List.getElem?_range hkn]
  rw [h, h2] at h1
  exact (Option.some.inj h1).symm

/-- What read answers. -/
def Res (c : UInt8) (b z n : Nat) (s o : ByteArray) (ok : Bool) : Prop :=
  (ok = true ∧ o.size = n * z ∧ txt c b z n o.data.toList = s.data.toList) ∨ (ok = false ∧ o = ByteArray.empty ∧ ∀ a : List UInt8, a.length = n * z → txt c b z n a ≠ s.data.toList)
/-- The bytes so far are the address's, if there is one. -/
def Upto (c : UInt8) (b z n : Nat) (s : ByteArray) (k : Nat) (l : List UInt8) : Prop := ∀ a : List UInt8, a.length = n * z → txt c b z n a = s.data.toList → l = a.take (k * z)
theorem upto_succ {c : UInt8} {b z n : Nat} {s : ByteArray} {k : Nat} {l : List UInt8} (hb : 2 ≤ b) (hc : b ≤ 16) (hd : ¬ isD c) (hn : n ≠ 0) (hk : k < (pieces c (n + 1) s).length) (hkn : k < n) (h : Upto c b z n s k l)
    (v : Nat) (hv : ∀ m, m < 256 ^ z → (pieces c (n + 1) s)[k].data.toList = num b m → v = m) : Upto c b z n s (k + 1) (l ++ putB z v) := fun a ha e => by
  have hz : k * z + z ≤ n * z := by rw [← Nat.succ_mul]; exact Nat.mul_le_mul_right z hkn
  rw [hv _ (word_lt z a k) (piece_at c b z n s a hb hc hd hn e k hk hkn), h a ha e, ← take_next z a k (by omega)]
theorem upto_none {c : UInt8} {b z n : Nat} {s : ByteArray} {k : Nat} (hb : 2 ≤ b) (hc : b ≤ 16) (hd : ¬ isD c) (hn : n ≠ 0) (hk : k < (pieces c (n + 1) s).length) (hkn : k < n)
    (hv : ∀ m, m < 256 ^ z → (pieces c (n + 1) s)[k].data.toList ≠ num b m) : ∀ a : List UInt8, a.length = n * z → txt c b z n a ≠ s.data.toList := fun a ha e =>
  hv _ (word_lt z a k) (piece_at c b z n s a hb hc hd hn e k hk hkn)
theorem upto_other {c : UInt8} {b z n : Nat} {s : ByteArray} {l : List UInt8} (h : Upto c b z n s n l) (hne : txt c b z n l ≠ s.data.toList) : ∀ a : List UInt8, a.length = n * z → txt c b z n a ≠ s.data.toList := fun a ha e => by
  have := h a ha e
  rw [List.take_of_length_le (by omega)] at this
  rw [this] at hne
  exact hne e

set_option maxHeartbeats 16000000 in
set_option maxRecDepth 100000 in
theorem read4 (s : ByteArray) (hs : s.size ≤ 1000) (w : World) (ht : Tabs w) :
    Calls Tryd.prog 28 #[.agg #[.string ⟨#[46]⟩, .int .i64 4, .int .i64 1, .int .i64 10], .string s] w fun e w' => ∃ o ok, e = .returned (.tuple #[.string o, .bool ok]) ∧ Res 46 10 1 4 s o ok ∧ Below w.heap.size w w' := by
  have HT := Lib.hid ht
  clear ht
  have P1 := Lib.hid (splitN_any s 46 5 (by decide) (by decide) hs (w.alloc (.cells #[.string ⟨#[46]⟩, .int .i64 4, .int .i64 1, .int .i64 10] 30)))
  by_cases hlen : (pieces 46 5 s).length = 4
  · have HLN := Lib.hid hlen
    have hne : (((pieces 46 5 s).length : Int) != 4) = false := by rw [hlen]; rfl
    have hlt4 : (pieces 46 5 s).length ≤ 4 := by omega
    clear hlen
    go_enter Tryd.func28, Tryd.ntmps28
    go_wp2_with (go_at_call 36; refine P1.out.mono ?_; rintro e w' ⟨rfl, rfl⟩)
    obtain ⟨W0, hW0⟩ : ∃ W0, W0 = (w.alloc (.cells #[.string ⟨#[46]⟩, .int .i64 4, .int .i64 1, .int .i64 10] 30)).alloc (.cells (Lib.cellsOf (pieces 46 5 s) (min 5 (s.size + 1))) 9) := ⟨_, rfl⟩
    have hA0 : Below w.heap.size w W0 := by rw [hW0]; exact ((Below.refl _ _).alloc (Nat.le_refl _) _).alloc (by simp) _
    have hS0 : W0.heap.size = w.heap.size + 2 := by rw [hW0]; simp
    have hQ0 : ∀ j v, (#[.string ⟨#[46]⟩, .int .i64 4, .int .i64 1, .int .i64 10] : Array Value)[j]? = some v → W0.cell? ⟨w.heap.size, j, none⟩ = some v := fun j v hj => by
      rw [hW0, World.cell?_alloc_old _ _ _ (by simp), World.cell?_alloc_new]; exact hj
    have hP0 : ∀ k (h : k < (pieces 46 5 s).length), W0.cell? ⟨w.heap.size + 1, k, none⟩ = some (.string (pieces 46 5 s)[k]) := fun k h => by
      have := World.cell?_alloc_new (w.alloc (.cells #[.string ⟨#[46]⟩, .int .i64 4, .int .i64 1, .int .i64 10] 30)) (Lib.cellsOf (pieces 46 5 s) (min 5 (s.size + 1))) 9 k
      rw [piece_cell _ _ k h] at this
      rw [hW0]; simpa using this
    have HA := Lib.hid hA0
    have HS := Lib.hid hS0
    have HP := Lib.hid hP0
    have q1 := Lib.hid (hQ0 1 _ rfl)
    have q2 := Lib.hid (hQ0 2 _ rfl)
    have q3 := Lib.hid (hQ0 3 _ rfl)
    have q0 := Lib.hid (hQ0 0 _ rfl)
    rw [← hW0]
    clear hA0 hP0 hQ0 hS0 hW0
    have HD0 : Hid (Bld (w.heap.size + 1 + 1) (w.heap.size + 1 + 1) [] (W0.alloc (.cells #[.pointer none, .slice none 0 0] 40))) := Lib.hid (by
      have := bld_new W0
      rw [HS.out] at this; exact this)
    have HE0 : Hid (Below (w.heap.size + 1 + 1) W0 (W0.alloc (.cells #[.pointer none, .slice none 0 0] 40))) := Lib.hid ((Below.refl _ _).alloc (by have := HS.out; omega) _)
    go_loopw [27] (fun i wr => ∃ (k : Nat) (l : List UInt8), k ≤ 4 ∧ i = .int .i64 k ∧ Hid (l.length = k * 1) ∧ Hid (Bld (w.heap.size + 1 + 1) (w.heap.size + 1 + 1) l wr) ∧ Hid (Below (w.heap.size + 1 + 1) W0 wr) ∧ Hid (Upto 46 10 1 4 s k l)) (fun i _ => 4 - (intOf i).toNat)
    case atStart => exact ⟨0, [], by omega, rfl, Lib.hid rfl, HD0, HE0, Lib.hid (fun a _ _ => by simp)⟩
    case round =>
      obtain ⟨k, l, hk, rfl, HL, HB, HE, HU⟩ := hrel
      clear HD0 HE0
      have c2 : wr.cell? ⟨w.heap.size, 2, none⟩ = some (.int .i64 1) := by rw [HE.out.cell (by simp; omega)]; exact q2.out
      have c3 : wr.cell? ⟨w.heap.size, 3, none⟩ = some (.int .i64 10) := by rw [HE.out.cell (by simp; omega)]; exact q3.out
      have HTW := Lib.hid (HT.out.below (HA.out.trans (HE.out.mono (by omega))))
      have HSZ : Hid (w.heap.size + 1 + 1 ≤ wr.heap.size) := Lib.hid (by have := HE.out.size; have := HS.out; omega)
      by_cases hkn : k < 4
      · have hkl : k < (pieces 46 5 s).length := by have := HLN.out; omega
        have cp : wr.cell? ⟨w.heap.size + 1, k, none⟩ = some (.string (pieces 46 5 s)[k]) := by rw [HE.out.cell (by simp)]; exact HP.out k hkl
        have HSM := Lib.hid (piece_small 46 5 s k hkl)
        have HX := Lib.hid (fun v => upto_succ (v := v) (by decide) (by decide) dot_no (by decide) hkl hkn HU.out)
        have HY := Lib.hid (upto_none (c := 46) (b := 10) (z := 1) (n := 4) (s := s) (by decide) (by decide) dot_no (by decide) hkl hkn)
        generalize (pieces 46 5 s)[k] = pc at *
        go_wp2_with (go_at_call 37; refine (pub_10 pc (by have := HSM.out; omega) _ HTW.out).mono ?_)
        rintro e w1 ⟨hp, hb1⟩
        have HB1 := Lib.hid (bld_kept HB.out hb1)
        have HE1 := Lib.hid (HE.out.trans (hb1.mono HSZ.out))
        have d2 : w1.cell? ⟨w.heap.size, 2, none⟩ = some (.int .i64 1) := by rw [HE1.out.cell (by simp; omega)]; exact q2.out
        have HSZ1 : Hid (w.heap.size + 1 + 1 ≤ w1.heap.size) := Lib.hid (by have := HE1.out.size; have := HS.out; omega)
        clear HB HE c2 c3 cp HTW HSZ hb1
        rcases hp with ⟨n, rfl, hn, hm⟩ | ⟨n, te, ve, rfl, hm⟩
        · have HN := Lib.hid (HX.out n hm)
          have HNN := Lib.hid hn
          clear hm HX HY hn
          go_wp2_with (go_at_call 38; refine (put1_any _ _ _ n HNN.out _ HB1.out (by have := HL.out; omega) HSZ1.out).mono ?_)
          rintro e w2 ⟨rfl, h2, hb2⟩
          go_wp2
          go_roundw
          case rel => exact ⟨k + 1, l ++ putB 1 n, by omega, by go_num, Lib.hid (by have := HL.out; simp [putB_length]; omega), Lib.hid h2, Lib.hid (HE1.out.trans hb2), HN⟩
          case measure => simp [intOf]; omega
        · have HN := Lib.hid (HY.out hm)
          clear hm HX HY
          go_wp2
          go_ret2
          exact ⟨ByteArray.empty, false, rfl, .inr ⟨rfl, rfl, HN.out⟩, HA.out.trans (HE1.out.mono (by omega))⟩
      · have hkE : k = 4 := by omega
        have HKE := Lib.hid hkE
        have hge : (pieces 46 5 s).length ≤ k := by have := HLN.out; omega
        go_wp2_with (go_at_call 35; refine (text_any _ _ _ _ HB.out HSZ.out).mono ?_)
        rintro e w1 ⟨rfl, hb1⟩
        have HE1 := Lib.hid (HE.out.trans hb1)
        have d0 : w1.cell? ⟨w.heap.size, 0, none⟩ = some (.string ⟨#[46]⟩) := by rw [HE1.out.cell (by simp; omega)]; exact q0.out
        have d1 : w1.cell? ⟨w.heap.size, 1, none⟩ = some (.int .i64 4) := by rw [HE1.out.cell (by simp; omega)]; exact q1.out
        have d2 : w1.cell? ⟨w.heap.size, 2, none⟩ = some (.int .i64 1) := by rw [HE1.out.cell (by simp; omega)]; exact q2.out
        have d3 : w1.cell? ⟨w.heap.size, 3, none⟩ = some (.int .i64 10) := by rw [HE1.out.cell (by simp; omega)]; exact q3.out
        have HSL : Hid ((⟨l.toArray⟩ : ByteArray).size = 4) := Lib.hid (by have := HL.out; have := HKE.out; simp [ByteArray.size]; omega)
        have HTW1 := Lib.hid (HT.out.below (HA.out.trans (HE1.out.mono (by omega))))
        have P2 := Lib.hid (write4 ⟨l.toArray⟩ HSL.out w1 HTW1.out)
        clear c2 c3 HB HE HTW hb1 hge
        by_cases heq : txt 46 10 1 4 l = s.data.toList
        · have HQ := Lib.hid heq
          have hq : (txt 46 10 1 4 l == s.toList) = true := by rw [Lib.toList_data]; exact beq_iff_eq.2 heq
          clear heq
          go_wp2_with (go_at_call 26; refine P2.out.mono ?_; rintro e w2 ⟨rfl, hb2⟩)
          go_ret2
          exact ⟨⟨l.toArray⟩, true, rfl, .inl ⟨rfl, HSL.out, HQ.out⟩, HA.out.trans ((HE1.out.trans (hb2.mono (by have := HE1.out.size; have := HS.out; omega))).mono (by omega))⟩
        · have HQ := Lib.hid heq
          have hq : (txt 46 10 1 4 l == s.toList) = false := by rw [Lib.toList_data]; exact beq_eq_false_iff_ne.2 heq
          clear heq
          go_wp2_with (go_at_call 26; refine P2.out.mono ?_; rintro e w2 ⟨rfl, hb2⟩)
          go_ret2
          have HU2 : Hid (Upto 46 10 1 4 s 4 l) := by have := HKE.out; subst this; exact HU
          exact ⟨ByteArray.empty, false, rfl, .inr ⟨rfl, rfl, upto_other HU2.out HQ.out⟩, HA.out.trans ((HE1.out.trans (hb2.mono (by have := HE1.out.size; have := HS.out; omega))).mono (by omega))⟩
  · have hne : (((pieces 46 5 s).length : Int) != 4) = true := by rw [bne_iff_ne]; omega
    have HX : Hid (∀ a : List UInt8, a.length = 4 * 1 → txt 46 10 1 4 a ≠ s.data.toList) := Lib.hid fun a ha e => hlen (pieces_count 46 10 1 4 s a (by decide) (by decide) dot_no (by decide) e)
    clear hlen
    go_enter Tryd.func28, Tryd.ntmps28
    go_wp2_with (go_at_call 36; refine P1.out.mono ?_; rintro e w' ⟨rfl, rfl⟩)
    go_ret2
    exact ⟨ByteArray.empty, false, rfl, .inr ⟨rfl, rfl, HX.out⟩, ((Below.refl _ _).alloc (Nat.le_refl _) _).alloc (by simp) _⟩

set_option maxHeartbeats 16000000 in
set_option maxRecDepth 100000 in
theorem read8 (s : ByteArray) (hs : s.size ≤ 1000) (w : World) (ht : Tabs w) :
    Calls Tryd.prog 28 #[.agg #[.string ⟨#[58]⟩, .int .i64 8, .int .i64 2, .int .i64 16], .string s] w fun e w' => ∃ o ok, e = .returned (.tuple #[.string o, .bool ok]) ∧ Res 58 16 2 8 s o ok ∧ Below w.heap.size w w' := by
  have HT := Lib.hid ht
  clear ht
  have P1 := Lib.hid (splitN_any s 58 9 (by decide) (by decide) hs (w.alloc (.cells #[.string ⟨#[58]⟩, .int .i64 8, .int .i64 2, .int .i64 16] 30)))
  by_cases hlen : (pieces 58 9 s).length = 8
  · have HLN := Lib.hid hlen
    have hne : (((pieces 58 9 s).length : Int) != 8) = false := by rw [hlen]; rfl
    have hlt4 : (pieces 58 9 s).length ≤ 8 := by omega
    clear hlen
    go_enter Tryd.func28, Tryd.ntmps28
    go_wp2_with (go_at_call 36; refine P1.out.mono ?_; rintro e w' ⟨rfl, rfl⟩)
    obtain ⟨W0, hW0⟩ : ∃ W0, W0 = (w.alloc (.cells #[.string ⟨#[58]⟩, .int .i64 8, .int .i64 2, .int .i64 16] 30)).alloc (.cells (Lib.cellsOf (pieces 58 9 s) (min 9 (s.size + 1))) 9) := ⟨_, rfl⟩
    have hA0 : Below w.heap.size w W0 := by rw [hW0]; exact ((Below.refl _ _).alloc (Nat.le_refl _) _).alloc (by simp) _
    have hS0 : W0.heap.size = w.heap.size + 2 := by rw [hW0]; simp
    have hQ0 : ∀ j v, (#[.string ⟨#[58]⟩, .int .i64 8, .int .i64 2, .int .i64 16] : Array Value)[j]? = some v → W0.cell? ⟨w.heap.size, j, none⟩ = some v := fun j v hj => by
      rw [hW0, World.cell?_alloc_old _ _ _ (by simp), World.cell?_alloc_new]; exact hj
    have hP0 : ∀ k (h : k < (pieces 58 9 s).length), W0.cell? ⟨w.heap.size + 1, k, none⟩ = some (.string (pieces 58 9 s)[k]) := fun k h => by
      have := World.cell?_alloc_new (w.alloc (.cells #[.string ⟨#[58]⟩, .int .i64 8, .int .i64 2, .int .i64 16] 30)) (Lib.cellsOf (pieces 58 9 s) (min 9 (s.size + 1))) 9 k
      rw [piece_cell _ _ k h] at this
      rw [hW0]; simpa using this
    have HA := Lib.hid hA0
    have HS := Lib.hid hS0
    have HP := Lib.hid hP0
    have q1 := Lib.hid (hQ0 1 _ rfl)
    have q2 := Lib.hid (hQ0 2 _ rfl)
    have q3 := Lib.hid (hQ0 3 _ rfl)
    have q0 := Lib.hid (hQ0 0 _ rfl)
    rw [← hW0]
    clear hA0 hP0 hQ0 hS0 hW0
    have HD0 : Hid (Bld (w.heap.size + 1 + 1) (w.heap.size + 1 + 1) [] (W0.alloc (.cells #[.pointer none, .slice none 0 0] 40))) := Lib.hid (by
      have := bld_new W0
      rw [HS.out] at this; exact this)
    have HE0 : Hid (Below (w.heap.size + 1 + 1) W0 (W0.alloc (.cells #[.pointer none, .slice none 0 0] 40))) := Lib.hid ((Below.refl _ _).alloc (by have := HS.out; omega) _)
    go_loopw [27] (fun i wr => ∃ (k : Nat) (l : List UInt8), k ≤ 8 ∧ i = .int .i64 k ∧ Hid (l.length = k * 2) ∧ Hid (Bld (w.heap.size + 1 + 1) (w.heap.size + 1 + 1) l wr) ∧ Hid (Below (w.heap.size + 1 + 1) W0 wr) ∧ Hid (Upto 58 16 2 8 s k l)) (fun i _ => 8 - (intOf i).toNat)
    case atStart => exact ⟨0, [], by omega, rfl, Lib.hid rfl, HD0, HE0, Lib.hid (fun a _ _ => by simp)⟩
    case round =>
      obtain ⟨k, l, hk, rfl, HL, HB, HE, HU⟩ := hrel
      clear HD0 HE0
      have c2 : wr.cell? ⟨w.heap.size, 2, none⟩ = some (.int .i64 2) := by rw [HE.out.cell (by simp; omega)]; exact q2.out
      have c3 : wr.cell? ⟨w.heap.size, 3, none⟩ = some (.int .i64 16) := by rw [HE.out.cell (by simp; omega)]; exact q3.out
      have HTW := Lib.hid (HT.out.below (HA.out.trans (HE.out.mono (by omega))))
      have HSZ : Hid (w.heap.size + 1 + 1 ≤ wr.heap.size) := Lib.hid (by have := HE.out.size; have := HS.out; omega)
      by_cases hkn : k < 8
      · have hkl : k < (pieces 58 9 s).length := by have := HLN.out; omega
        have cp : wr.cell? ⟨w.heap.size + 1, k, none⟩ = some (.string (pieces 58 9 s)[k]) := by rw [HE.out.cell (by simp)]; exact HP.out k hkl
        have HSM := Lib.hid (piece_small 58 9 s k hkl)
        have HX := Lib.hid (fun v => upto_succ (v := v) (by decide) (by decide) colon_no (by decide) hkl hkn HU.out)
        have HY := Lib.hid (upto_none (c := 58) (b := 16) (z := 2) (n := 8) (s := s) (by decide) (by decide) colon_no (by decide) hkl hkn)
        generalize (pieces 58 9 s)[k] = pc at *
        go_wp2_with (go_at_call 37; refine (pub_16 pc (by have := HSM.out; omega) _ HTW.out).mono ?_)
        rintro e w1 ⟨hp, hb1⟩
        have HB1 := Lib.hid (bld_kept HB.out hb1)
        have HE1 := Lib.hid (HE.out.trans (hb1.mono HSZ.out))
        have d2 : w1.cell? ⟨w.heap.size, 2, none⟩ = some (.int .i64 2) := by rw [HE1.out.cell (by simp; omega)]; exact q2.out
        have HSZ1 : Hid (w.heap.size + 1 + 1 ≤ w1.heap.size) := Lib.hid (by have := HE1.out.size; have := HS.out; omega)
        clear HB HE c2 c3 cp HTW HSZ hb1
        rcases hp with ⟨n, rfl, hn, hm⟩ | ⟨n, te, ve, rfl, hm⟩
        · have HN := Lib.hid (HX.out n hm)
          have HNN := Lib.hid hn
          clear hm HX HY hn
          go_wp2_with (go_at_call 38; refine (put2_any _ _ _ n HNN.out _ HB1.out (by have := HL.out; omega) HSZ1.out).mono ?_)
          rintro e w2 ⟨rfl, h2, hb2⟩
          go_wp2
          go_roundw
          case rel => exact ⟨k + 1, l ++ putB 2 n, by omega, by go_num, Lib.hid (by have := HL.out; simp [putB_length]; omega), Lib.hid h2, Lib.hid (HE1.out.trans hb2), HN⟩
          case measure => simp [intOf]; omega
        · have HN := Lib.hid (HY.out hm)
          clear hm HX HY
          go_wp2
          go_ret2
          exact ⟨ByteArray.empty, false, rfl, .inr ⟨rfl, rfl, HN.out⟩, HA.out.trans (HE1.out.mono (by omega))⟩
      · have hkE : k = 8 := by omega
        have HKE := Lib.hid hkE
        have hge : (pieces 58 9 s).length ≤ k := by have := HLN.out; omega
        go_wp2_with (go_at_call 35; refine (text_any _ _ _ _ HB.out HSZ.out).mono ?_)
        rintro e w1 ⟨rfl, hb1⟩
        have HE1 := Lib.hid (HE.out.trans hb1)
        have d0 : w1.cell? ⟨w.heap.size, 0, none⟩ = some (.string ⟨#[58]⟩) := by rw [HE1.out.cell (by simp; omega)]; exact q0.out
        have d1 : w1.cell? ⟨w.heap.size, 1, none⟩ = some (.int .i64 8) := by rw [HE1.out.cell (by simp; omega)]; exact q1.out
        have d2 : w1.cell? ⟨w.heap.size, 2, none⟩ = some (.int .i64 2) := by rw [HE1.out.cell (by simp; omega)]; exact q2.out
        have d3 : w1.cell? ⟨w.heap.size, 3, none⟩ = some (.int .i64 16) := by rw [HE1.out.cell (by simp; omega)]; exact q3.out
        have HSL : Hid ((⟨l.toArray⟩ : ByteArray).size = 16) := Lib.hid (by have := HL.out; have := HKE.out; simp [ByteArray.size]; omega)
        have HTW1 := Lib.hid (HT.out.below (HA.out.trans (HE1.out.mono (by omega))))
        have P2 := Lib.hid (write8 ⟨l.toArray⟩ HSL.out w1 HTW1.out)
        clear c2 c3 HB HE HTW hb1 hge
        by_cases heq : txt 58 16 2 8 l = s.data.toList
        · have HQ := Lib.hid heq
          have hq : (txt 58 16 2 8 l == s.toList) = true := by rw [Lib.toList_data]; exact beq_iff_eq.2 heq
          clear heq
          go_wp2_with (go_at_call 26; refine P2.out.mono ?_; rintro e w2 ⟨rfl, hb2⟩)
          go_ret2
          exact ⟨⟨l.toArray⟩, true, rfl, .inl ⟨rfl, HSL.out, HQ.out⟩, HA.out.trans ((HE1.out.trans (hb2.mono (by have := HE1.out.size; have := HS.out; omega))).mono (by omega))⟩
        · have HQ := Lib.hid heq
          have hq : (txt 58 16 2 8 l == s.toList) = false := by rw [Lib.toList_data]; exact beq_eq_false_iff_ne.2 heq
          clear heq
          go_wp2_with (go_at_call 26; refine P2.out.mono ?_; rintro e w2 ⟨rfl, hb2⟩)
          go_ret2
          have HU2 : Hid (Upto 58 16 2 8 s 8 l) := by have := HKE.out; subst this; exact HU
          exact ⟨ByteArray.empty, false, rfl, .inr ⟨rfl, rfl, upto_other HU2.out HQ.out⟩, HA.out.trans ((HE1.out.trans (hb2.mono (by have := HE1.out.size; have := HS.out; omega))).mono (by omega))⟩
  · have hne : (((pieces 58 9 s).length : Int) != 8) = true := by rw [bne_iff_ne]; omega
    have HX : Hid (∀ a : List UInt8, a.length = 8 * 2 → txt 58 16 2 8 a ≠ s.data.toList) := Lib.hid fun a ha e => hlen (pieces_count 58 16 2 8 s a (by decide) (by decide) colon_no (by decide) e)
    clear hlen
    go_enter Tryd.func28, Tryd.ntmps28
    go_wp2_with (go_at_call 36; refine P1.out.mono ?_; rintro e w' ⟨rfl, rfl⟩)
    go_ret2
    exact ⟨ByteArray.empty, false, rfl, .inr ⟨rfl, rfl, HX.out⟩, ((Below.refl _ _).alloc (Nat.le_refl _) _).alloc (by simp) _⟩
end Go.Proofs.YtjppfalckfmalaaDoor.Rd
