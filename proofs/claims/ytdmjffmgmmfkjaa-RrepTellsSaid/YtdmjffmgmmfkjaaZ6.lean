/-
  The document's example of a reply, and what acknowledges; facts on what bytes come to. No conditions.
-/
import Derived.Test.YtdmjffmgmmfkjaaZ4
import Derived.Test.YtdmjffmgmmfkjaaZ5
namespace Go.Proofs.Ytdmjffmgmmfkjaa.Z6
open Go.ChangeShapes Go.WideShapes Go.ChangeAt Go.RowKit
open Go.Proofs.Ytdmjffmgmmfkjaa.Ms
open Go.Proofs.Ytdmjffmgmmfkjaa.Box
open Go.Proofs.Ytdmjffmgmmfkjaa.Xv
open Go.Proofs.Ytdmjffmgmmfkjaa.Z1
open Go.Proofs.Ytdmjffmgmmfkjaa.Am
open Go.Proofs.Ytdmjffmgmmfkjaa.Hs
open Go.Proofs.Ytdmjffmgmmfkjaa.Or (st_yes)
open Go.Proofs.Ytdmjffmgmmfkjaa.Hx (ex_built)
open Go.Proofs.Ytdmjffmgmmfkjaa.Own (k4 k6 ownM)
set_option linter.unusedVariables false
set_option maxRecDepth 100000
theorem ok_rep' {m : M} (h : m.kind = 4) : okP m = (M.same m { k4 m with kind := 4 } && (reply m && okX m.sl)) := by
  rw [Z2.ok_rep h]
  unfold bare
  rw [(own_rep h).1, (own_rep h).2]
  rfl
theorem ok_ack' {m : M} (h : m.kind = 6) : okP m = (M.same m { k6 m with kind := 6 } && okX m.sl) := by
  rw [Z2.ok_ack h]
  unfold bare
  rw [(own_ack h).1, (own_ack h).2]
  rfl
theorem ok_pl {n m : M} (h : Pl n m) : okP n = okP m := by
  have hk : n.kind = m.kind := by rw [show n = _ from h]
  by_cases h4 : m.kind = 4
  · rw [ok_rep' h4, ok_rep' (hk.trans h4), show n = _ from h]
    rfl
  by_cases h6 : m.kind = 6
  · rw [ok_ack' h6, ok_ack' (hk.trans h6), show n = _ from h]
    rfl
  rw [Z2.ok_no h4 h6, Z2.ok_no (by omega) (by omega)]
theorem enc_pl {n m : M} (h : Pl n m) : encP n = encP m := by
  rw [show n = _ from h]
  rfl
theorem put_pl {n m : M} (h : Pl n m) : putP n = putP m := by
  unfold putP
  rw [ok_pl h, enc_pl h]
theorem ext_of {s : ByteArray} (n : Nat) : (outX (s.extract n s.size)).1.length ≤ s.size := by
  have := out_len (s.extract n s.size)
  have h2 : (s.extract n s.size).size ≤ s.size := by simp
  omega
theorem out_parts (s : ByteArray) : (outP s).1.ll = [] ∧ (outP s).1.sl.length ≤ s.size := by
  rcases head_cases s with ⟨i, e, h, he, _, _⟩ | ⟨r, n, h, _, _, _, _, hr, _⟩
  · rw [out_bad h he]; exact ⟨rfl, Nat.zero_le _⟩
  have hl := ext_of (s := s) n
  obtain ⟨⟨l, i, x⟩, hX⟩ : ∃ p, outX (s.extract n s.size) = p := ⟨_, rfl⟩
  rw [hX] at hl
  by_cases hx : x = 0
  · subst hx
    rw [Z1.out_yes h hX]
    exact ⟨hr, hl⟩
  · rw [out_ext h hX hx]; exact ⟨rfl, Nat.zero_le _⟩
theorem own_parts {m : M} (h : okP m = true) : ({ ownM m with sa := none, sc := 0 } : M).ll = [] ∧ ({ ownM m with sa := none, sc := 0 } : M).sl = m.sl ∧ M.same m { ownM m with sa := none, sc := 0 } = true := by
  obtain ⟨hb, _, hk⟩ := (ok_iff m).1 h
  have hs : M.same m (ownM m) = true := by
    unfold bare at hb
    rw [Bool.and_eq_true] at hb
    exact hb.2
  rcases hk with hk | ⟨hk, _⟩
  · rw [(own_ack hk).2] at hs ⊢
    exact ⟨rfl, rfl, hs⟩
  · rw [(own_rep hk).2] at hs ⊢
    exact ⟨rfl, rfl, hs⟩
/-- The bytes of one that may be begin with 2 or 4. -/
theorem first_of {m : M} (h : okP m = true) : bt (putP m) 0 = 2 ∨ bt (putP m) 0 = 4 := by
  obtain ⟨_, _, hk⟩ := (ok_iff m).1 h
  rw [putP_yes h]
  unfold bt
  show (((encP m).getD 0 0).toNat : Int) = 2 ∨ (((encP m).getD 0 0).toNat : Int) = 4
  unfold encP
  rcases hk with hk | ⟨hk, _⟩
  · right; rw [hd_ack hk]; rfl
  · left; rw [hd_rep hk]; rfl
/-- One that may be, its bytes read: itself. -/
theorem put_out {m : M} (h : okP m = true) : outP (putP m) = ({ ownM m with sa := none, sc := 0 }, 0, 0) := by
  rw [putP_yes h]
  exact put_back m h
/-- Bytes are those of what is read. -/
theorem out_put {s : ByteArray} (h : (outP s).2.2 = 0) (h0 : bt s 0 = 2 ∨ bt s 0 = 4) : okP (outP s).1 = true ∧ putP (outP s).1 = s ∧ (outP s).2.1 = 0 := by
  rcases Z1.out_cases s with ⟨h1, _⟩ | ⟨h1, _, h2⟩
  · exact absurd h h1
  · obtain ⟨h3, h4⟩ := h2 h0
    refine ⟨h3, ?_, h1⟩
    rw [putP_yes h3]
    exact Nu.text_eq (by rw [← h4])
def exB : ByteArray := ⟨#[2, 64, 24, 5, 97, 98, 99, 100, 0, 0, 0, 8, 101, 102, 103, 104, 0, 0, 0, 9]⟩
theorem ex1 : outP exB = ({ hdM exB with sl := [] }, 0, 0) := Z1.out_yes (head_rep (by decide) (by decide) (by decide)) (Xv.out_yes (l := []) rfl (by decide))
theorem ex2 : hdM exB = { M.zero with kind := 4, flags := 1, plen := 24, hops := 5, addr := ⟨#[97, 98, 99, 100]⟩, seq := 8, orig := ⟨#[101, 102, 103, 104]⟩, interval := 9 } := by
  have e1 : exB.extract 4 8 = ⟨#[97, 98, 99, 100]⟩ := Nu.text_eq (by decide)
  have e2 : exB.extract 12 16 = ⟨#[101, 102, 103, 104]⟩ := Nu.text_eq (by decide)
  unfold hdM
  rw [e1, e2]
  rfl
theorem ok_ackM : okP ackM = true := (ok_iff _).2 ⟨by unfold bare; rw [(own_ack rfl).1, (own_ack rfl).2]; unfold M.same M.flatE k6 ackM M.zero; simp, rfl, .inl rfl⟩
theorem bytes_same (a : ByteArray) : (a.toList == a.toList) = true := by simp
set_option maxHeartbeats 3200000 in
theorem awake_any (w : World) : Calls Try.prog 7 #[] w fun e w' => e = .returned (.bool true) ∧ Below w.heap.size w w' := by
  have P1 := Lib.hid (fun W => Z4.get_any exB W (.inl rfl) (by decide))
  have HO := out_put (s := exB) (by rw [ex1]) (.inl rfl)
  have HP := Lib.hid (fun (n : M) (hn : Pl n (outP exB).1) W (h : n.In W) => Z5.put_any n W h (by rw [hn.sl, ex1]; decide) (by rw [hn.sl, ex1]; intro x hx; simp at hx))
  have HR := Lib.hid (fun (n : M) (hn : Pl n (outP exB).1) W (h : n.In W) => Z2.right_any n W h (by rw [hn.sl, ex1]; intro x hx; simp at hx))
  have HC := Lib.hid (fun (n : M) (hn : Pl n (outP exB).1) => show n.flags = 1 ∧ n.plen = 24 ∧ n.interval = 9 by
    rw [show n = _ from hn, ex1, ex2]
    exact ⟨rfl, rfl, rfl⟩)
  have HK := Lib.hid (fun (n : M) (hn : Pl n (outP exB).1) => show okP n = true ∧ putP n = exB by rw [ok_pl hn, put_pl hn]; exact ⟨HO.1, HO.2.1⟩)
  have HL := Lib.hid (out_parts exB)
  have PA := Lib.hid (fun W => Z2.right_any ackM W ⟨DRow.nil _ _, SRow.nil _ _, Nat.zero_le _, Nat.zero_le _⟩ (by intro x hx; cases hx))
  rw [ok_ackM] at PA
  rw [ex1] at P1
  rw [ex1] at HP HR HC HK HL
  clear HO
  generalize hq : ({ hdM exB with sl := [] } : M) = q at *
  clear hq
  unfold exB at P1 HK
  have e20 := bytes_same ⟨#[2, 64, 24, 5, 97, 98, 99, 100, 0, 0, 0, 8, 101, 102, 103, 104, 0, 0, 0, 9]⟩
  go_enter Try.func7, Try.ntmps7
  go_wp2_with fail
  refine (P1.out _).mono ?_
  intro r w1 hr
  obtain ⟨n, rfl, hi, hp, hb⟩ := hr.at (by rw [HL.out.1]; decide) (Nat.le_trans HL.out.2 (by decide))
  have PP := Lib.hid (HP.out n hp)
  have PR := Lib.hid (HR.out n hp)
  obtain ⟨c0, c1, c2⟩ := HC.out n hp
  obtain ⟨k0, k1⟩ := HK.out n hp
  rw [k0, k1] at PP
  rw [k0] at PR
  have HI := Lib.hid (hi.below (balloc (Below.refl _ w1) (.cells n.cells 25)))
  have HB := Lib.hid (balloc hb (.cells n.cells 25))
  have HX := Lib.hid (Bx.new w1 n)
  clear P1 HP HR HC HK hr hi hp hb k0 k1
  go_upto_region 2 with (refine wpList_storeM (b := w1.heap.size) (m := M.zero) (m' := n) rfl _ _ rfl rfl rfl (Bx.new w1 M.zero) ?_)
  change Code.wp _ _ _ _ ((w1.alloc (.cells M.zero.cells 25)).setRow w1.heap.size n.cells)
  rw [World.setRow_alloc_new]
  generalize w1.alloc (.cells n.cells 25) = W at *
  generalize w1.heap.size = g at *
  go_wp2_with (first | (refine wpList_loadM (b := g) (m := n) rfl _ rfl rfl HX.out ?_))
  refine (PP.out _ HI.out).mono ?_
  rintro r w2 ⟨rfl, hb⟩
  have HX := Lib.hid (HX.out.below hb)
  have HI := Lib.hid (HI.out.below hb)
  have HB := Lib.hid (bcall HB.out hb)
  clear hb PP
  go_wp2_with (first | (refine st_yes (v := .agg (M.cells n)) (by rfl) rfl (run_loadM (x := .tmp 1) rfl rfl HX.out) ?_))
  refine (PR.out _ HI.out).mono ?_
  rintro r w3 ⟨rfl, hb⟩
  have HX := Lib.hid (HX.out.below hb)
  have HB := Lib.hid (bcall HB.out hb)
  clear hb PR
  have d15 := HX.out.cs.c15
  have d7 := HX.out.cs.c7
  have d14 := HX.out.cs.c14
  rw [c0] at d15
  rw [c1] at d7
  rw [c2] at d14
  clear c0 c1 c2
  go_wp2_with (first | (refine st_yes (v := .agg (M.cells ackM)) (by rfl) rfl (ex_built rfl (by kernel_rfl)) ?_))
  refine (PA.out _).mono ?_
  rintro r w4 ⟨rfl, hb⟩
  have HB := Lib.hid (bcall HB.out hb)
  clear hb PA d15 d7 d14
  go_wp2
  go_ret
  exact ⟨rfl, HB.out⟩
end Go.Proofs.Ytdmjffmgmmfkjaa.Z6
