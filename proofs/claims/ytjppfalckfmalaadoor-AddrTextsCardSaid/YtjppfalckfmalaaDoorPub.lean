/-
  strconv.ParseUint, the public one: a numeral's number; of another text a number that fits, or an error that is not nil. Conditions: the base is 10 (8 bits) or 16 (16 bits).
-/
import Derived.Test.YtjppfalckfmalaaDoorParse
namespace Go.Proofs.YtjppfalckfmalaaDoor.Parse
open Go.ChangeShapes Go.WideShapes Go.ChangeAt Go.RowKit
open Go.Proofs.YtjppfalckfmalaaDoor.Sb
open Go.Proofs.YtjppfalckfmalaaDoor.Ad
open Go.Proofs.YtjppfalckfmalaaDoor.Tab
open Go.Proofs.YtjppfalckfmalaaDoor.Fmt
set_option linter.unusedVariables false

def Pub (b z : Nat) (l : List UInt8) (e : Ending) : Prop :=
  (∃ n : Nat, e = .returned (.tuple #[.int .u64 n, .nilIface]) ∧ n < 256 ^ z ∧ ∀ m, m < 256 ^ z → l = num b m → n = m) ∨
  (∃ (n : Int) (t : TypeId) (v : Value), e = .returned (.tuple #[.int .u64 n, .iface t v]) ∧ ∀ m, m < 256 ^ z → l ≠ num b m)

theorem toError_any (fn s : ByteArray) (base bits c : Int) (w : World) (hlim : s.size ≤ 281474976710656) (ht : Tabs w) (hc : c = 1 ∨ c = 2) :
    Calls Tryd.prog 43 #[.string fn, .string s, .int .i64 base, .int .i64 bits, .iface 67 (.int .i64 c)] w fun e w' => ∃ t v, e = .returned (.iface t v) ∧ Below w.heap.size w w' := by
  obtain ⟨t1, v1, h1⟩ := ht.met.esyn
  obtain ⟨t2, v2, h2⟩ := ht.met.erng
  rcases hc with rfl | rfl
  · refine (AnyPu.strconv_toError_range { Tryd.laysPu14 with } fn s base bits _ w hlim h2 (.inr ⟨_, _, rfl⟩)).mono ?_
    rintro e w' ⟨N, he, _, _, hb⟩
    exact ⟨_, _, he, hb⟩
  · refine (AnyPu.strconv_toError_syntax { Tryd.laysPu14 with } fn s base bits _ w hlim h1 (.inr ⟨_, _, rfl⟩)).mono ?_
    rintro e w' ⟨N, he, _, _, hb⟩
    exact ⟨_, _, he, hb⟩

theorem inner_10 (t : ByteArray) (hmax : t.size ≤ 1000000) (w : World) :
    Calls Tryd.prog 42 #[.string t, .int .i64 10, .int .i64 8] w fun e w' => Got 10 1 t.data.toList e ∧ Below w.heap.size w w' := by
  by_cases h : t.size = 0
  · obtain rfl : t = ⟨#[]⟩ := ByteArray.ext (Array.eq_empty_of_size_eq_zero h)
    refine (none_any 10 8 w).mono ?_
    rintro e w' ⟨rfl, rfl⟩
    exact ⟨.inr ⟨0, 2, rfl, .inr rfl, fun m _ e => by have := num_pos 10 (by decide) m; rw [← e] at this; simp at this⟩, Below.refl _ _⟩
  · exact some_10 t h hmax w
theorem inner_16 (t : ByteArray) (hmax : t.size ≤ 1000000) (w : World) :
    Calls Tryd.prog 42 #[.string t, .int .i64 16, .int .i64 16] w fun e w' => Got 16 2 t.data.toList e ∧ Below w.heap.size w w' := by
  by_cases h : t.size = 0
  · obtain rfl : t = ⟨#[]⟩ := ByteArray.ext (Array.eq_empty_of_size_eq_zero h)
    refine (none_any 16 16 w).mono ?_
    rintro e w' ⟨rfl, rfl⟩
    exact ⟨.inr ⟨0, 2, rfl, .inr rfl, fun m _ e => by have := num_pos 16 (by decide) m; rw [← e] at this; simp at this⟩, Below.refl _ _⟩
  · exact some_16 t h hmax w

set_option maxHeartbeats 4000000 in
set_option maxRecDepth 100000 in
theorem pub_of (b z : Nat) (base bits : Int) (t : ByteArray) (hmax : t.size ≤ 1000000) (w : World) (ht : Tabs w)
    (key : Calls Tryd.prog 42 #[.string t, .int .i64 base, .int .i64 bits] w fun e w' => Got b z t.data.toList e ∧ Below w.heap.size w w') :
    Calls Tryd.prog 37 #[.string t, .int .i64 base, .int .i64 bits] w fun e w' => Pub b z t.data.toList e ∧ Below w.heap.size w w' := by
  have KEY := Lib.hid key
  have HT := Lib.hid ht
  clear key ht
  go_enter Tryd.func37, Tryd.ntmps37
  go_wp2_with (go_at_call 42; refine KEY.out.mono ?_)
  rintro e w1 ⟨hg, hb1⟩
  rcases hg with ⟨n, rfl, hn, hm⟩ | ⟨n, c, rfl, hc, hm⟩
  · have HM := Lib.hid hm
    clear hm
    go_wp2
    go_ret2
    exact ⟨.inl ⟨n, rfl, hn, HM.out⟩, hb1⟩
  · have HM := Lib.hid hm
    clear hm
    have Q := Lib.hid (toError_any ⟨#[80, 97, 114, 115, 101, 85, 105, 110, 116]⟩ t base bits c w1 (by omega) (HT.out.below hb1) hc)
    clear hc
    go_wp2_with (go_at_call 43; refine Q.out.mono ?_)
    rintro e w2 ⟨te, ve, rfl, hb2⟩
    go_wp2
    go_ret2
    exact ⟨.inr ⟨n, te, ve, rfl, HM.out⟩, bcall hb1 hb2 hb1.size⟩

theorem pub_10 (t : ByteArray) (hmax : t.size ≤ 1000000) (w : World) (ht : Tabs w) :
    Calls Tryd.prog 37 #[.string t, .int .i64 10, .int .i64 8] w fun e w' => Pub 10 1 t.data.toList e ∧ Below w.heap.size w w' :=
  pub_of 10 1 10 8 t hmax w ht (inner_10 t hmax w)
theorem pub_16 (t : ByteArray) (hmax : t.size ≤ 1000000) (w : World) (ht : Tabs w) :
    Calls Tryd.prog 37 #[.string t, .int .i64 16, .int .i64 16] w fun e w' => Pub 16 2 t.data.toList e ∧ Below w.heap.size w w' :=
  pub_of 16 2 16 16 t hmax w ht (inner_16 t hmax w)
end Go.Proofs.YtjppfalckfmalaaDoor.Parse
