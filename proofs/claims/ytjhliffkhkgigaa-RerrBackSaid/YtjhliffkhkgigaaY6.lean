/-
  The document's example of a route error; facts on what bytes come to. No conditions.
-/
import Derived.Test.YtjhliffkhkgigaaY4
import Derived.Test.YtjhliffkhkgigaaY5
namespace Go.Proofs.Ytjhliffkhkgigaa.Y6
open Go.ChangeShapes Go.WideShapes Go.ChangeAt Go.RowKit
open Go.Proofs.Ytjhliffkhkgigaa.Ms
open Go.Proofs.Ytjhliffkhkgigaa.Box
open Go.Proofs.Ytjhliffkhkgigaa.Xv
open Go.Proofs.Ytjhliffkhkgigaa.Y1
open Go.Proofs.Ytjhliffkhkgigaa.Am
open Go.Proofs.Ytjhliffkhkgigaa.Hs
open Go.Proofs.Ytjhliffkhkgigaa.Or (st_yes)
open Go.Proofs.Ytjhliffkhkgigaa.Hx (ex_built)
open Go.Proofs.Ytjhliffkhkgigaa.Own (k5 ownM)
set_option linter.unusedVariables false
set_option maxRecDepth 100000
theorem ok_err {m : M} (h : m.kind = 5) : okE m = (M.same m { k5 m with kind := 5 } && (nums m && (okD m.ll && okX m.sl))) := by
  unfold okE bare
  rw [(own_err h).1, (own_err h).2, decide_eq_true h]
  rfl
theorem ok_no {m : M} (h : ¬ m.kind = 5) : okE m = false := by
  unfold okE
  rw [decide_eq_false h]
  rfl
theorem ok_pl {n m : M} (h : Pl n m) : okE n = okE m := by
  have hk : n.kind = m.kind := by rw [show n = _ from h]
  by_cases h5 : m.kind = 5
  · rw [ok_err h5, ok_err (hk.trans h5), show n = _ from h]
    rfl
  rw [ok_no h5, ok_no (by omega)]
theorem enc_pl {n m : M} (h : Pl n m) : encE n = encE m := by
  rw [show n = _ from h]
  rfl
theorem put_pl {n m : M} (h : Pl n m) : putE n = putE m := by
  unfold putE
  rw [ok_pl h, enc_pl h]
theorem ext_of {s : ByteArray} (n : Nat) : (outX (s.extract n s.size)).1.length ≤ s.size := by
  have := out_len (s.extract n s.size)
  have h2 : (s.extract n s.size).size ≤ s.size := by simp
  omega
theorem out_parts (s : ByteArray) : (outE s).1.ll.length ≤ 255 ∧ (outE s).1.sl.length ≤ s.size := by
  rcases head_cases s with ⟨i, e, h, he, _, _⟩ | ⟨r, n, h, _, _, hr, _⟩
  · rw [out_bad h he]; exact ⟨Nat.zero_le _, Nat.zero_le _⟩
  have hl := ext_of (s := s) n
  obtain ⟨⟨l, i, x⟩, hX⟩ : ∃ p, outX (s.extract n s.size) = p := ⟨_, rfl⟩
  rw [hX] at hl
  by_cases hx : x = 0
  · subst hx
    rw [Y1.out_yes h hX]
    refine ⟨?_, hl⟩
    rw [hr]
    show (dests (cnt s) (s.data.toList.drop 4)).length ≤ 255
    rw [dests_len]
    have := cnt_lt s
    omega
  · rw [out_ext h hX hx]; exact ⟨Nat.zero_le _, Nat.zero_le _⟩
theorem own_parts {m : M} (h : okE m = true) : ({ ownM m with la := none, lc := 0, sa := none, sc := 0 } : M).ll = m.ll ∧ ({ ownM m with la := none, lc := 0, sa := none, sc := 0 } : M).sl = m.sl ∧ M.same m { ownM m with la := none, lc := 0, sa := none, sc := 0 } = true := by
  obtain ⟨hk, hb, _⟩ := (ok_iff m).1 h
  have hs : M.same m (ownM m) = true := by
    unfold bare at hb
    rw [Bool.and_eq_true] at hb
    exact hb.2
  rw [(own_err hk).2] at hs ⊢
  exact ⟨rfl, rfl, hs⟩
/-- The bytes of one that may be begin with 3. -/
theorem first_of {m : M} (h : okE m = true) : bt (putE m) 0 = 3 := by
  rw [putE_yes h]
  rfl
/-- One that may be, its bytes read: itself. -/
theorem put_out {m : M} (h : okE m = true) : outE (putE m) = ({ ownM m with la := none, lc := 0, sa := none, sc := 0 }, 0, 0) := by
  rw [putE_yes h]
  exact put_back m h
/-- Bytes are those of what is read. -/
theorem out_put {s : ByteArray} (h : (outE s).2.2 = 0) (h0 : bt s 0 = 3) : okE (outE s).1 = true ∧ putE (outE s).1 = s ∧ (outE s).2.1 = 0 := by
  rcases Y1.out_cases s with ⟨h1, _⟩ | ⟨h1, _, h2⟩
  · exact absurd h h1
  · obtain ⟨h3, h4⟩ := h2 h0
    refine ⟨h3, ?_, h1⟩
    rw [putE_yes h3]
    exact Nu.text_eq (by rw [← h4])
theorem run_eqlDest (x y : El) (W : World) : (binOp .eql 38 (.agg #[.string x.1, .int .i64 x.2]) (.agg #[.string y.1, .int .i64 y.2])).run Try.prog W = .ok (.bool (elE x y)) W := by
  have hf : Try.prog.underlying 38 = some (.struct (Try.prog.fieldsOf 38)) := by kernel_rfl
  have hp : Try.prog.stoodInHeld 38 = false := by kernel_rfl
  have hq : (Op.equalIn 10000 38 (.agg #[.string x.1, .int .i64 x.2]) (.agg #[.string y.1, .int .i64 y.2])).run Try.prog W = .ok (elE x y) W := by
    rw [run_equalIn_struct W 9999 38 _ _ hf hp, elE_eq]
    simp only [Program.fieldsOf, Try.underlying38]
    refine eqF_str (by decide) Try.underlying9 rfl rfl ?_
    refine eqF_int (by decide) Try.underlying3 rfl rfl ?_
    rfl
  rw [run_eql_struct, hq]; rfl
theorem run_guardEq (x y : El) (o p : Operand) (W : World) : (eqGuard .eql 38 o p (.agg #[.string x.1, .int .i64 x.2]) (.agg #[.string y.1, .int .i64 y.2])).run Try.prog W = .ok () W := run_eqGuard_agg W .eql _ o p _ _ (by kernel_rfl)
theorem add_none (p : Addr) : p.add 0 = p := by
  unfold Addr.add
  rw [if_pos rfl]
theorem elE_self (x : El) : elE x x = true := by unfold elE; simp
def exB : ByteArray := ⟨#[3, 128, 0, 1, 97, 98, 99, 100, 0, 0, 0, 8]⟩
def abcd : ByteArray := ⟨#[97, 98, 99, 100]⟩
theorem ex1 : outE exB = ({ hdM exB with sl := [] }, 0, 0) := Y1.out_yes (n := 12) (head_yes (by decide) (by decide) (by decide) (by decide)) (Xv.out_yes (l := []) rfl (by decide))
theorem ex2 : hdM exB = { M.zero with kind := 5, flags := 1, ll := [(abcd, 8)] } := by
  have e : dests (cnt exB) (exB.data.toList.drop 4) = [(abcd, 8)] := by
    show [one [97, 98, 99, 100, 0, 0, 0, 8]] = _
    rfl
  unfold hdM
  rw [e]
  rfl
theorem bytes_same (a : ByteArray) : (a.toList == a.toList) = true := by simp
set_option maxHeartbeats 3200000 in
theorem awake_any (w : World) : Calls Try.prog 8 #[] w fun e w' => e = .returned (.bool true) ∧ Below w.heap.size w w' := by
  have P1 := Lib.hid (fun W => Y4.get_any exB W (by decide))
  have HO := out_put (s := exB) (by rw [ex1]) rfl
  have HP := Lib.hid (fun (n : M) (hn : Pl n (outE exB).1) W (h : n.In W) => Y5.put_any n W h (by rw [hn.sl, ex1]; decide) (by rw [hn.sl, ex1]; intro x hx; simp at hx))
  have HR := Lib.hid (fun (n : M) (hn : Pl n (outE exB).1) W (h : n.In W) => Y2.right_any n W h (by rw [hn.sl, ex1]; intro x hx; simp at hx))
  have HC := Lib.hid (fun (n : M) (hn : Pl n (outE exB).1) => show n.flags = 1 ∧ n.ll = [(abcd, 8)] by
    rw [show n = _ from hn, ex1, ex2]
    exact ⟨rfl, rfl⟩)
  have HK := Lib.hid (fun (n : M) (hn : Pl n (outE exB).1) => show okE n = true ∧ putE n = exB by rw [ok_pl hn, put_pl hn]; exact ⟨HO.1, HO.2.1⟩)
  have HL := Lib.hid (out_parts exB)
  rw [ex1] at P1
  rw [ex1] at HP HR HC HK HL
  clear HO
  generalize hq : ({ hdM exB with sl := [] } : M) = q at *
  clear hq
  unfold exB at P1 HK
  have e20 := bytes_same ⟨#[3, 128, 0, 1, 97, 98, 99, 100, 0, 0, 0, 8]⟩
  go_enter Try.func8, Try.ntmps8
  go_wp2_with fail
  refine (P1.out _).mono ?_
  intro r w1 hr
  obtain ⟨n, rfl, hi, hp, hb⟩ := hr.at (Nat.le_trans HL.out.1 (by decide)) (Nat.le_trans HL.out.2 (by decide))
  have PP := Lib.hid (HP.out n hp)
  have PR := Lib.hid (HR.out n hp)
  obtain ⟨c0, c1⟩ := HC.out n hp
  obtain ⟨k0, k1⟩ := HK.out n hp
  rw [k0, k1] at PP
  rw [k0] at PR
  have HI := Lib.hid (hi.below (balloc (Below.refl _ w1) (.cells n.cells 25)))
  have HB := Lib.hid (balloc hb (.cells n.cells 25))
  have HX := Lib.hid (Bx.new w1 n)
  have H0 := Lib.hid c0
  have H1 := Lib.hid c1
  clear P1 HP HR HC HK hr hi hp hb k0 k1 c0 c1
  go_upto_region 2 with (refine wpList_storeM (b := w1.heap.size) (m := M.zero) (m' := n) rfl _ _ rfl rfl rfl (Bx.new w1 M.zero) ?_)
  change Code.wp _ _ _ _ ((w1.alloc (.cells M.zero.cells 25)).setRow w1.heap.size n.cells)
  rw [World.setRow_alloc_new]
  generalize w1.alloc (.cells n.cells 25) = W at *
  generalize w1.heap.size = g at *
  go_wp2_with (first | (refine wpList_loadM (b := g) (m := n) rfl _ rfl rfl HX.out ?_))
  refine (PP.out _ HI.out).mono ?_
  rintro r w2 ⟨rfl, hb⟩
  have HX := Lib.hid (HX.out.below hb)
  have HI := Lib.hid (HI.out.below hb)
  have HB := Lib.hid (bcall HB.out hb)
  clear hb PP
  go_wp2_with (first | (refine st_yes (v := .agg (M.cells n)) (by rfl) rfl (run_loadM (x := .tmp 1) rfl rfl HX.out) ?_))
  refine (PR.out _ HI.out).mono ?_
  rintro r w3 ⟨rfl, hb⟩
  have HX := Lib.hid (HX.out.below hb)
  have HI := Lib.hid (HI.out.below hb)
  have HB := Lib.hid (bcall HB.out hb)
  clear hb PR
  have d15 := HX.out.cs.c15
  have d21 := HX.out.cs.c21
  have hd := HI.out.d
  rw [H0.out] at d15
  rw [H1.out] at d21 hd
  obtain ⟨p, hp, _, d0, d1⟩ := hd 0 (by decide)
  rw [hp] at d21
  rw [add_one] at d1
  have ix := fun V => indexD p 1 n.lc 0 (by decide) V
  have eq1 := fun V => run_eqlDest (abcd, 8) (abcd, 8) V
  have eg1 := fun o p V => run_guardEq (abcd, 8) (abcd, 8) o p V
  rw [elE_self] at eq1
  clear hp hd HI H0 H1
  simp only [List.getElem_cons_zero, List.length_cons, List.length_nil, Nat.zero_mul, Nat.zero_add, add_none] at d0 d1 d21 ix
  unfold abcd at d0 eq1 eg1
  go_wp2
  go_ret
  exact ⟨rfl, HB.out⟩
end Go.Proofs.Ytjhliffkhkgigaa.Y6
