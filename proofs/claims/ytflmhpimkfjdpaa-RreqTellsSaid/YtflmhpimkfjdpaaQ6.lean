/-
  The document's example of a request; facts on what bytes come to. No conditions.
-/
import Derived.Test.YtflmhpimkfjdpaaQ4
import Derived.Test.YtflmhpimkfjdpaaQ5
namespace Go.Proofs.Ytflmhpimkfjdpaa.Q6
open Go.ChangeShapes Go.WideShapes Go.ChangeAt Go.RowKit
open Go.Proofs.Ytflmhpimkfjdpaa.Ms
open Go.Proofs.Ytflmhpimkfjdpaa.Box
open Go.Proofs.Ytflmhpimkfjdpaa.Xv
open Go.Proofs.Ytflmhpimkfjdpaa.Q1
open Go.Proofs.Ytflmhpimkfjdpaa.Am
open Go.Proofs.Ytflmhpimkfjdpaa.Hs
open Go.Proofs.Ytflmhpimkfjdpaa.Or (st_yes)
open Go.Proofs.Ytflmhpimkfjdpaa.Own (k3)
set_option linter.unusedVariables false
set_option maxRecDepth 100000
theorem ok_pl {n m : M} (h : Pl n m) : okQ n = okQ m := by
  rw [show n = _ from h]
  rfl
theorem put_pl {n m : M} (h : Pl n m) : putQ n = putQ m := by
  rw [show n = _ from h]
  rfl
theorem ext_of {s : ByteArray} (k : ¬ s.size < 24) : (outX (s.extract 24 s.size)).1.length ≤ s.size := by
  have := out_len (s.extract 24 s.size)
  have h2 : (s.extract 24 s.size).size ≤ s.size := by simp
  omega
theorem out_parts (s : ByteArray) : (outQ s).1.ll = [] ∧ (outQ s).1.sl.length ≤ s.size := by
  by_cases h : s.size < 24
  · rw [out_short h]; exact ⟨rfl, Nat.zero_le _⟩
  by_cases k : bt s 1 % 8 ≠ 0 ∨ bt s 2 ≠ 0
  · rw [out_bits h k]; exact ⟨rfl, Nat.zero_le _⟩
  have hl := ext_of h
  obtain ⟨⟨l, i, x⟩, hX⟩ : ∃ p, outX (s.extract 24 s.size) = p := ⟨_, rfl⟩
  rw [hX] at hl
  by_cases hx : x = 0
  · subst hx
    rw [Q1.out_yes h k hX]
    exact ⟨rfl, hl⟩
  · rw [out_ext h k hX hx]; exact ⟨rfl, Nat.zero_le _⟩
/-- A request that may be, its bytes read: itself. -/
theorem put_out {m : M} (h : okQ m = true) : outQ (putQ m) = ({ k3 m with kind := 3, sa := none, sc := 0 }, 0, 0) ∧ M.same m { k3 m with kind := 3, sa := none, sc := 0 } = true := by
  rw [putQ_yes h]
  refine ⟨put_back m h, ?_⟩
  obtain ⟨hk, hb, _⟩ := (ok_iff m).1 h
  rw [← hk]
  exact hb
/-- Bytes of a request are those of what is read. -/
theorem out_put {s : ByteArray} (h : (outQ s).2.2 = 0) (h0 : bt s 0 = 1) : okQ (outQ s).1 = true ∧ putQ (outQ s).1 = s ∧ (outQ s).2.1 = 0 := by
  rcases Q1.out_cases s with ⟨h1, _⟩ | ⟨h1, _, h2⟩
  · exact absurd h h1
  · obtain ⟨h3, h4⟩ := h2 h0
    refine ⟨h3, ?_, h1⟩
    rw [putQ_yes h3]
    exact Nu.text_eq (by rw [← h4])
def exB : ByteArray := ⟨#[1, 128, 0, 5, 0, 0, 0, 7, 97, 98, 99, 100, 0, 0, 0, 8, 101, 102, 103, 104, 0, 0, 0, 9, 1, 0]⟩
theorem ex1 : outQ exB = ({ hdM exB with sl := [(⟨#[]⟩, 1)] }, 0, 0) := Q1.out_yes (by decide) (by decide) (Xv.out_yes (l := [(⟨#[]⟩, 1)]) rfl (by decide))
theorem ex2 : hdM exB = { M.zero with kind := 3, flags := 16, hops := 5, nonce := 7, addr := ⟨#[97, 98, 99, 100]⟩, seq := 8, orig := ⟨#[101, 102, 103, 104]⟩, seq2 := 9 } := by
  have e1 : exB.extract 8 12 = ⟨#[97, 98, 99, 100]⟩ := Nu.text_eq (by decide)
  have e2 : exB.extract 16 20 = ⟨#[101, 102, 103, 104]⟩ := Nu.text_eq (by decide)
  unfold hdM
  rw [e1, e2]
  rfl
theorem bytes_same (a : ByteArray) : (a.toList == a.toList) = true := by simp
set_option maxHeartbeats 3200000 in
theorem awake_any (w : World) : Calls Try.prog 7 #[] w fun e w' => e = .returned (.bool true) ∧ Below w.heap.size w w' := by
  have P1 := Lib.hid (fun W => Q4.get_any exB W (by decide))
  have HO := out_put (s := exB) (by rw [ex1]) rfl
  have HP := Lib.hid (fun (n : M) (hn : Pl n (outQ exB).1) W (h : n.In W) => Q5.put_any n W h (by rw [hn.sl, ex1]; decide) (by rw [hn.sl, ex1]; intro x hx; simp at hx; subst hx; decide))
  have HR := Lib.hid (fun (n : M) (hn : Pl n (outQ exB).1) W (h : n.In W) => Q2.right_any n W h (by rw [hn.sl, ex1]; intro x hx; simp at hx; subst hx; decide))
  have HC := Lib.hid (fun (n : M) (hn : Pl n (outQ exB).1) => show n.flags = 16 ∧ n.hops = 5 ∧ n.nonce = 7 ∧ n.addr = ⟨#[97, 98, 99, 100]⟩ ∧ n.seq2 = 9 ∧ n.sl.length = 1 by
    rw [show n = _ from hn, ex1, ex2]
    exact ⟨rfl, rfl, rfl, rfl, rfl, rfl⟩)
  have HK := Lib.hid (fun (n : M) (hn : Pl n (outQ exB).1) => show okQ n = true ∧ putQ n = exB by rw [ok_pl hn, put_pl hn]; exact ⟨HO.1, HO.2.1⟩)
  have HL := Lib.hid (out_parts exB)
  rw [ex1] at P1
  rw [ex1] at HP HR HC HK HL
  clear HO
  generalize hq : ({ hdM exB with sl := [(⟨#[]⟩, 1)] } : M) = q at *
  clear hq
  unfold exB at P1 HK
  have e4 := bytes_same ⟨#[97, 98, 99, 100]⟩
  have e26 := bytes_same ⟨#[1, 128, 0, 5, 0, 0, 0, 7, 97, 98, 99, 100, 0, 0, 0, 8, 101, 102, 103, 104, 0, 0, 0, 9, 1, 0]⟩
  go_enter Try.func7, Try.ntmps7
  go_wp2_with fail
  refine (P1.out _).mono ?_
  intro r w1 hr
  obtain ⟨n, rfl, hi, hp, hb⟩ := hr.at (by rw [HL.out.1]; decide) (Nat.le_trans HL.out.2 (by decide))
  have PP := Lib.hid (HP.out n hp)
  have PR := Lib.hid (HR.out n hp)
  obtain ⟨c0, c1, c2, c3, c4, c5⟩ := HC.out n hp
  obtain ⟨k0, k1⟩ := HK.out n hp
  rw [k0, k1] at PP
  rw [k0] at PR
  have HI := Lib.hid (hi.below (balloc (Below.refl _ w1) (.cells n.cells 25)))
  have HB := Lib.hid (balloc hb (.cells n.cells 25))
  have HX := Lib.hid (Bx.new w1 n)
  clear P1 HP HR HC HK hr hi hp hb k0 k1
  go_upto_region 2 with (refine wpList_storeM (b := w1.heap.size) (m := M.zero) (m' := n) rfl _ _ rfl rfl rfl (Bx.new w1 M.zero) ?_)
  change Code.wp _ _ _ _ ((w1.alloc (.cells M.zero.cells 25)).setRow w1.heap.size n.cells)
  rw [World.setRow_alloc_new]
  generalize w1.alloc (.cells n.cells 25) = W at *
  generalize w1.heap.size = g at *
  go_wp2_with (first | (refine wpList_loadM (b := g) (m := n) rfl _ rfl rfl HX.out ?_))
  refine (PP.out _ HI.out).mono ?_
  rintro r w2 ⟨rfl, hb⟩
  have HX := Lib.hid (HX.out.below hb)
  have HI := Lib.hid (HI.out.below hb)
  have HB := Lib.hid (bcall HB.out hb)
  clear hb PP
  go_wp2_with (first | (refine st_yes (v := .agg (M.cells n)) (by rfl) rfl (run_loadM (x := .tmp 1) rfl rfl HX.out) ?_))
  refine (PR.out _ HI.out).mono ?_
  rintro r w3 ⟨rfl, hb⟩
  have HX := Lib.hid (HX.out.below hb)
  have HB := Lib.hid (bcall HB.out hb)
  clear hb PR
  have d15 := HX.out.cs.c15
  have d16 := HX.out.cs.c16
  have d17 := HX.out.cs.c17
  have d19 := HX.out.cs.c19
  have d13 := HX.out.cs.c13
  have d24 := HX.out.cs.c24
  rw [c0] at d15
  rw [c1] at d16
  rw [c2] at d17
  rw [c3] at d19
  rw [c4] at d13
  rw [c5] at d24
  clear c0 c1 c2 c3 c4 c5
  go_wp2
  go_ret
  exact ⟨rfl, HB.out⟩
end Go.Proofs.Ytflmhpimkfjdpaa.Q6
