/-
  Whether what is known may be, whether a message is an Update that may be, an encoding's family: the program's answers, and the document's Ok and Family. Conditions: the message's lists stand in the world, and aren't long; the variables have what they are laid with.
  Bytes read one behind the other by a cursor that may be Bad: what each read answers, by its place alone; what leaves the blocks below one alone, but for one. Condition: at most 2^20 bytes.
  The program's calls on the reader: a number, a text, the rest, the fields of each type. Conditions: at most 2^20 bytes.
-/
import Derived.Test.YteecialdkfaejaaGreatDoorQ01
import Derived.Test.YteecialdkfaejaaGreatDoorQ02
import Derived.Test.YteecialdkfaejaaGreatDoorQ04
import Derived.Test.YteecialdkfaejaaGreatDoorQ05
import Derived.Test.YteecialdkfaejaaGreatDoorQ06
import Derived.Test.YteecialdkfaejaaGreatDoorQ07
namespace Go.Proofs.YteecialdkfaejaaGreatDoor.K2
open Go.ChangeShapes Go.WideShapes Go.ChangeAt Go.RowKit
open Go.Proofs.YteecialdkfaejaaGreatDoor.Ms
open Go.Proofs.YteecialdkfaejaaGreatDoor.Box
open Go.Proofs.YteecialdkfaejaaGreatDoor.S1
open Go.Proofs.YteecialdkfaejaaGreatDoor.Lk (link link_any rlink_bel)
open Go.Proofs.YteecialdkfaejaaGreatDoor.J1
open Go.Proofs.YteecialdkfaejaaGreatDoor.J2 (int_eq str_eq nil_eq nil_em size_eq family_any fam_0 fam_1 in_any)
open Go.Proofs.YteecialdkfaejaaGreatDoor.An
open Go.Proofs.YteecialdkfaejaaGreatDoor.Tc
open Go.Proofs.YteecialdkfaejaaGreatDoor.K1
open Go.Proofs.YteecialdkfaejaaGreatDoor.Kb
open Go.Proofs.YteecialdkfaejaaGreatDoor.Oct (fitsB)
open Go.Proofs.YteecialdkfaejaaGreatDoor.Bk (Bk alloc_size)
open Go.Proofs.YteecialdkfaejaaGreatDoor.Hs
open Go.Proofs.YteecialdkfaejaaGreatDoor.Or (st_yes)
set_option linter.unusedVariables false
set_option maxRecDepth 100000
theorem afam_any (s : ByteArray) (w : World) : Calls Tryz.prog 16 #[.string s] w fun e w' => e = .returned (.int .i64 (famA s)) ∧ w = w' := family_any s w
theorem afam_0 (a : ByteArray) : (famA a == 0) = decide (a.size = 4) := fam_0 a
theorem afam_1 (a : ByteArray) : (famA a == 1) = decide (a.size = 16) := fam_1 a
theorem fam_any (ae : Int) (w : World) : Calls Tryz.prog 10 #[.int .i64 ae] w fun e w' => e = .returned (.int .i64 (fam ae)) ∧ w = w' := by
  by_cases h1 : ae = 1
  · subst h1
    have HK := Lib.hid (show fam 1 = 0 from rfl)
    go_enter Tryz.func10, Tryz.ntmps10
    go_wp2
    go_ret
    exact ⟨int_eq HK.out.symm, rfl⟩
  by_cases h2 : ae = 2
  · subst h2
    have HK := Lib.hid (show fam 2 = 1 from rfl)
    go_enter Tryz.func10, Tryz.ntmps10
    go_wp2
    go_ret
    exact ⟨int_eq HK.out.symm, rfl⟩
  by_cases h3 : ae = 3
  · subst h3
    have HK := Lib.hid (show fam 3 = 1 from rfl)
    go_enter Tryz.func10, Tryz.ntmps10
    go_wp2
    go_ret
    exact ⟨int_eq HK.out.symm, rfl⟩
  have HK := Lib.hid (show fam ae = -1 by unfold fam; rw [if_neg h1, if_neg (fun h => h.elim h2 h3)])
  have e1 : (ae == 1) = false := by simpa using h1
  have e2 : (ae == 2) = false := by simpa using h2
  have e3 : (ae == 3) = false := by simpa using h3
  go_enter Tryz.func10, Tryz.ntmps10
  go_wp2
  go_ret
  exact ⟨int_eq HK.out.symm, rfl⟩
theorem rfam_any (ae : Int) (w : World) : Calls Tryz.prog 11 #[.int .i64 ae] w fun e w' => e = .returned (.int .i64 (fam ae)) ∧ w = w' := by
  by_cases h1 : ae = 1
  · subst h1
    have HK := Lib.hid (show fam 1 = 0 from rfl)
    go_enter Tryz.func11, Tryz.ntmps11
    go_wp2
    go_ret
    exact ⟨int_eq HK.out.symm, rfl⟩
  by_cases h2 : ae = 2
  · subst h2
    have HK := Lib.hid (show fam 2 = 1 from rfl)
    go_enter Tryz.func11, Tryz.ntmps11
    go_wp2
    go_ret
    exact ⟨int_eq HK.out.symm, rfl⟩
  by_cases h3 : ae = 3
  · subst h3
    have HK := Lib.hid (show fam 3 = 1 from rfl)
    go_enter Tryz.func11, Tryz.ntmps11
    go_wp2
    go_ret
    exact ⟨int_eq HK.out.symm, rfl⟩
  have HK := Lib.hid (show fam ae = -1 by unfold fam; rw [if_neg h1, if_neg (fun h => h.elim h2 h3)])
  have e1 : (ae == 1) = false := by simpa using h1
  have e2 : (ae == 2) = false := by simpa using h2
  have e3 : (ae == 3) = false := by simpa using h3
  go_enter Tryz.func11, Tryz.ntmps11
  go_wp2
  go_ret
  exact ⟨int_eq HK.out.symm, rfl⟩
/-- Is the address that is known one of its encoding? -/
def isB (ae : Int) (a : ByteArray) : Bool := !decide (ae = 0) && adrB ae a
theorem isa_any (ae : Int) (a : ByteArray) (w : World) (h0 : 0 ≤ ae) (h3 : ae ≤ 3) : Calls Tryz.prog 15 #[.int .i64 ae, .string a] w fun e w' => e = .returned (.bool (isB ae a)) ∧ w = w' := by
  rcases (show ae = 0 ∨ ae = 1 ∨ ae = 2 ∨ ae = 3 by omega) with rfl | rfl | rfl | rfl
  · have HK := Lib.hid (show isB 0 a = false from rfl)
    have PF := Lib.hid (fun V => fam_any 0 V)
    have PF := Lib.hid (show ∀ V, Calls Tryz.prog 10 #[.int .i64 0] V fun e w' => e = .returned (.int .i64 (-1)) ∧ V = w' from PF.out)
    generalize isB 0 a = y at *
    go_enter Tryz.func15, Tryz.ntmps15
    go_wp2_with fail
    refine (PF.out _).mono ?_
    rintro r w' ⟨rfl, rfl⟩
    go_wp2
    go_ret
    exact ⟨bool_eq HK.out.symm, rfl⟩
  · have HK := Lib.hid (show isB 1 a = decide (a.size = 4) from rfl)
    have PF := Lib.hid (fun V => fam_any 1 V)
    have PF := Lib.hid (show ∀ V, Calls Tryz.prog 10 #[.int .i64 1] V fun e w' => e = .returned (.int .i64 0) ∧ V = w' from PF.out)
    have PA := Lib.hid (fun V => afam_any a V)
    have he := afam_0 a
    generalize isB 1 a = y at *
    generalize decide (a.size = 4) = z at *
    generalize famA a = f at *
    go_enter Tryz.func15, Tryz.ntmps15
    go_wp2_with fail
    refine (PF.out _).mono ?_
    rintro r w' ⟨rfl, rfl⟩
    go_wp2_with fail
    refine (PA.out _).mono ?_
    rintro r w' ⟨rfl, rfl⟩
    go_wp2
    go_ret
    exact ⟨bool_eq HK.out.symm, rfl⟩
  · have HK := Lib.hid (show isB 2 a = decide (a.size = 16) from rfl)
    have PF := Lib.hid (fun V => fam_any 2 V)
    have PF := Lib.hid (show ∀ V, Calls Tryz.prog 10 #[.int .i64 2] V fun e w' => e = .returned (.int .i64 1) ∧ V = w' from PF.out)
    have PA := Lib.hid (fun V => afam_any a V)
    have he := afam_1 a
    generalize isB 2 a = y at *
    generalize decide (a.size = 16) = z at *
    generalize famA a = f at *
    go_enter Tryz.func15, Tryz.ntmps15
    go_wp2_with fail
    refine (PF.out _).mono ?_
    rintro r w' ⟨rfl, rfl⟩
    go_wp2_with fail
    refine (PA.out _).mono ?_
    rintro r w' ⟨rfl, rfl⟩
    go_wp2
    go_ret
    exact ⟨bool_eq HK.out.symm, rfl⟩
  · have HK := Lib.hid (show isB 3 a = link a from rfl)
    have PF := Lib.hid (fun V => link_any a V)
    generalize isB 3 a = y at *
    generalize link a = z at *
    go_enter Tryz.func15, Tryz.ntmps15
    go_wp2_with fail
    refine (PF.out _).mono ?_
    rintro r w' ⟨rfl, rfl⟩
    go_wp2
    go_ret
    exact ⟨bool_eq HK.out.symm, rfl⟩
/-- A part of a block, loaded whole. -/
theorem loadVarAt {P : Program} {w : World} {b off : Nat} {T tb : TypeId} {cs : Array Value} {l : List Value} (hb : Bk tb w b cs) (hl : ∀ j v, l[j]? = some v → cs[off + j]? = some v) (hagg : (isAgg T).run P w = .ok true w) (hsz : (sizeOf T).run P w = .ok l.length w) :
    (loadVar T ⟨b, off, none⟩).run P w = .ok (.agg l.toArray) w := by
  have h2 : (loadCells ⟨b, off, none⟩ l.length).run P w = .ok l.toArray w := run_loadCells_list (P := P) w ⟨b, off, none⟩ l (fun j v hv => by
    rw [Ap.add_at]
    exact hb.cell (off + j) v (hl j v hv))
  simp only [loadVar, Sem.run_bind, hagg, Result.andThen_ok, if_true, hsz, h2, Sem.run_pure]
theorem run_loadAt {P : Program} {o : Oper} {ρ : Operand → Value} {x : Operand} {w : World} {b off : Nat} {T tb : TypeId} {cs : Array Value} {l : List Value} (ho : o.op = .load T x) (hx : ρ x = .pointer (some ⟨b, off, none⟩)) (hb : Bk tb w b cs) (hl : ∀ j v, l[j]? = some v → cs[off + j]? = some v) (hagg : (isAgg T).run P w = .ok true w) (hsz : (sizeOf T).run P w = .ok l.length w) :
    (execOp ρ o).run P w = .ok (.value (.agg l.toArray)) w := by
  unfold execOp
  simp only [ho, hx, Instr.loadAt, Instr.sureAddr, Sem.run_bind, Sem.run_pure, Result.andThen_ok, loadVarAt hb hl hagg hsz]
theorem wpList_loadAt {P : Program} {ops : Array Oper} {rest : List Oper} {o : Oper} {a : Act} {w : World} {Q : Exit → Act → World → Prop} (hgd : o.guard = none) {T tb : TypeId} (x : Operand) (ho : o.op = .load T x) {b off : Nat} (hx : a.eval x = .pointer (some ⟨b, off, none⟩)) {cs : Array Value} {l : List Value} (hb : Bk tb w b cs)
    (hl : ∀ j v, l[j]? = some v → cs[off + j]? = some v) (hagg : (isAgg T).run P w = .ok true w) (hsz : (sizeOf T).run P w = .ok l.length w) (h : wpList P ops Q rest (a.put o.dst (.agg l.toArray)) w) : wpList P ops Q (o :: rest) a w :=
  wpList_plain hgd fun K hK => by
    unfold Oper.wp
    rw [run_loadAt ho hx hb hl hagg hsz]
    exact hK _ _ h
theorem ex_index {P : Program} {o : Oper} {ρ : Operand → Value} {T : TypeId} {x y : Operand} {vx vy r : Value} {w : World} (ho : o.op = .index T x y) (hx : ρ x = vx) (hy : ρ y = vy) (h : (Instr.index T vx vy).run P w = .ok r w) :
    (execOp ρ o).run P w = .ok (.value r) w := by
  unfold execOp
  simp only [ho, hx, hy, Sem.run_bind, h, Result.andThen_ok, Sem.run_pure]
theorem index4_0 (a b c e : ByteArray) (W : World) : (Instr.index 22 (.agg #[.string a, .string b, .string c, .string e]) (.int .i64 0)).run Tryz.prog W = .ok (.string a) W := by kernel_rfl
theorem index4_1 (a b c e : ByteArray) (W : World) : (Instr.index 22 (.agg #[.string a, .string b, .string c, .string e]) (.int .i64 1)).run Tryz.prog W = .ok (.string b) W := by kernel_rfl
theorem index4_2 (a b c e : ByteArray) (W : World) : (Instr.index 22 (.agg #[.string a, .string b, .string c, .string e]) (.int .i64 2)).run Tryz.prog W = .ok (.string c) W := by kernel_rfl
theorem index4_3 (a b c e : ByteArray) (W : World) : (Instr.index 22 (.agg #[.string a, .string b, .string c, .string e]) (.int .i64 3)).run Tryz.prog W = .ok (.string e) W := by kernel_rfl
theorem index2_0 (a b : ByteArray) (W : World) : (Instr.index 23 (.agg #[.string a, .string b]) (.int .i64 0)).run Tryz.prog W = .ok (.string a) W := by kernel_rfl
theorem index2_1 (a b : ByteArray) (W : World) : (Instr.index 23 (.agg #[.string a, .string b]) (.int .i64 1)).run Tryz.prog W = .ok (.string b) W := by kernel_rfl
theorem agg4 (w : World) : (isAgg 22).run Tryz.prog w = .ok true w := by go_simp
theorem agg2 (w : World) : (isAgg 23).run Tryz.prog w = .ok true w := by go_simp
theorem aggX (w : World) : (isAgg 25).run Tryz.prog w = .ok true w := by go_simp
theorem size4 (w : World) : (sizeOf 22).run Tryz.prog w = .ok 4 w := by go_simp
theorem size2 (w : World) : (sizeOf 23).run Tryz.prog w = .ok 2 w := by go_simp
theorem sizeX (w : World) : (sizeOf 25).run Tryz.prog w = .ok 7 w := by go_simp
theorem four_in (c : Kx) : ∀ j v, ([Value.string c.p0, .string c.p1, .string c.p2, .string c.p3] : List Value)[j]? = some v → c.cells[0 + j]? = some v := by
  intro j v hv
  match j, hv with
  | 0, hv => exact hv
  | 1, hv => exact hv
  | 2, hv => exact hv
  | 3, hv => exact hv
  | j + 4, hv => cases hv
theorem two_in (c : Kx) : ∀ j v, ([Value.string c.n0, .string c.n1] : List Value)[j]? = some v → c.cells[4 + j]? = some v := by
  intro j v hv
  match j, hv with
  | 0, hv => exact hv
  | 1, hv => exact hv
  | j + 2, hv => cases hv
/-- Are the k-th default prefix and the k-th next hop as they may be? -/
def qP (c : Kx) (k : Nat) : Bool := emB (c.pf k) || isB k (c.pf k)
def qN (c : Kx) (k : Nat) : Bool := emB (c.nx k) || decide (famA (c.nx k) = k)
def qI (c : Kx) : Bool := emB c.id || decide (c.id.size = 8)
theorem okC_is (c : Kx) : okC c = (qP c 0 && (qP c 1 && (qP c 2 && (qP c 3 && (qN c 0 && (qN c 1 && qI c)))))) := by
  have h0 : qP c 0 = emB c.p0 := Bool.or_false _
  have h4 : qN c 0 = okN 4 c.n0 := by
    show (emB c.n0 || decide (famA c.n0 = 0)) = (emB c.n0 || decide (c.n0.size = 4))
    congr 1
    rw [← afam_0]; rw [Bool.eq_iff_iff]; simp
  have h5 : qN c 1 = okN 16 c.n1 := by
    show (emB c.n1 || decide (famA c.n1 = 1)) = (emB c.n1 || decide (c.n1.size = 16))
    congr 1
    rw [← afam_1]; rw [Bool.eq_iff_iff]; simp
  rw [h0, h4, h5]
  rfl
theorem okC_p {c : Kx} {k : Nat} (hk : k < 4) (h : qP c k = false) : okC c = false := by
  rw [okC_is]
  rcases (show k = 0 ∨ k = 1 ∨ k = 2 ∨ k = 3 by omega) with rfl | rfl | rfl | rfl <;> rw [h] <;> simp
theorem okC_n {c : Kx} {k : Nat} (hk : k < 2) (h : qN c k = false) : okC c = false := by
  rw [okC_is]
  rcases (show k = 0 ∨ k = 1 by omega) with rfl | rfl <;> rw [h] <;> simp
theorem okC_i {c : Kx} (hp : ∀ j, j < 4 → qP c j = true) (hn : ∀ j, j < 2 → qN c j = true) : okC c = qI c := by
  rw [okC_is, hp 0 (by decide), hp 1 (by decide), hp 2 (by decide), hp 3 (by decide), hn 0 (by decide), hn 1 (by decide)]; rfl
theorem step_q {q : Nat → Bool} {k : Nat} (h : ∀ j, j < k → q j = true) (hk : q k = true) : ∀ j, j < k + 1 → q j = true := fun j hj => by
  by_cases e : j = k
  · rw [e]; exact hk
  · exact h j (by omega)
set_option maxHeartbeats 6400000 in
theorem ok_any (c : Kx) (w : World) : Calls Tryz.prog 6 #[.agg c.cells] w fun e w' => e = .returned (.bool (okC c)) ∧ Below w.heap.size w w' := by
  have C0 := Lib.hid (Bk.Bk.new 25 w c.cells)
  have HB := Lib.hid (balloc (Below.refl _ w) (.cells c.cells 25))
  go_enter Tryz.func6, Tryz.ntmps6
  go_upto_region 1 with fail
  change Code.wp _ _ _ _ (w.alloc (.cells c.cells 25))
  generalize w.alloc (.cells c.cells 25) = V at *
  go_wp2_with (first | (refine wpList_loadAt (b := w.heap.size) (off := 0) (l := [.string c.p0, .string c.p1, .string c.p2, .string c.p3]) rfl _ rfl rfl C0.out (four_in c) (agg4 _) (size4 _) ?_))
  go_loopw [9] (fun i wr => ∃ k : Nat, k ≤ 4 ∧ i = .int .i64 k ∧ Hid (∀ j, j < k → qP c j = true) ∧ Hid (Below V.heap.size V wr)) (fun i _ => 4 - (intOf i).toNat)
  case atStart => exact ⟨0, by decide, rfl, Lib.hid (fun j hj => absurd hj (by omega)), Lib.hid (Below.refl _ _)⟩
  case round =>
    obtain ⟨k, hk, rfl, HQ, HW⟩ := hrel
    by_cases hlt : k < 4
    · rcases (show k = 0 ∨ k = 1 ∨ k = 2 ∨ k = 3 by omega) with rfl | rfl | rfl | rfl
      · clear hk hlt
        have PA := Lib.hid (fun V => isa_any 0 c.p0 V (by decide) (by decide))
        have hn := nil_eq c.p0
        have hm := nil_em c.p0
        have HZ := Lib.hid (show qP c 0 = (decide (c.p0.size = 0) || isB 0 c.p0) from rfl)
        have HX := Lib.hid (fun h => okC_p (c := c) (k := 0) (by decide) h)
        generalize isB 0 c.p0 = y at *
        generalize decide (c.p0.size = 0) = z at *
        cases z
        rotate_left
        · clear PA HX
          go_wp2_with (first | (refine st_yes (v := .string c.p0) (by rfl) rfl (ex_index rfl rfl rfl (index4_0 _ _ _ _ _)) ?_))
          go_roundw
          case rel => exact ⟨1, by decide, rfl, Lib.hid (step_q HQ.out HZ.out), HW⟩
          case measure => simp [intOf]
        cases y
        · go_wp2_with (first | (refine st_yes (v := .string c.p0) (by rfl) rfl (ex_index rfl rfl rfl (index4_0 _ _ _ _ _)) ?_))
          refine (PA.out _).mono ?_
          rintro r w' ⟨rfl, rfl⟩
          go_wp2
          go_ret
          exact ⟨bool_eq (HX.out HZ.out).symm, HB.out.trans (HW.out.mono HB.out.size)⟩
        go_wp2_with (first | (refine st_yes (v := .string c.p0) (by rfl) rfl (ex_index rfl rfl rfl (index4_0 _ _ _ _ _)) ?_))
        refine (PA.out _).mono ?_
        rintro r w' ⟨rfl, rfl⟩
        go_wp2_with (first | (refine st_yes (v := .string c.p0) (by rfl) rfl (ex_index rfl rfl rfl (index4_0 _ _ _ _ _)) ?_))
        go_roundw
        case rel => exact ⟨1, by decide, rfl, Lib.hid (step_q HQ.out HZ.out), HW⟩
        case measure => simp [intOf]
      · clear hk hlt
        have PA := Lib.hid (fun V => isa_any 1 c.p1 V (by decide) (by decide))
        have hn := nil_eq c.p1
        have hm := nil_em c.p1
        have HZ := Lib.hid (show qP c 1 = (decide (c.p1.size = 0) || isB 1 c.p1) from rfl)
        have HX := Lib.hid (fun h => okC_p (c := c) (k := 1) (by decide) h)
        generalize isB 1 c.p1 = y at *
        generalize decide (c.p1.size = 0) = z at *
        cases z
        rotate_left
        · clear PA HX
          go_wp2_with (first | (refine st_yes (v := .string c.p1) (by rfl) rfl (ex_index rfl rfl rfl (index4_1 _ _ _ _ _)) ?_))
          go_roundw
          case rel => exact ⟨2, by decide, rfl, Lib.hid (step_q HQ.out HZ.out), HW⟩
          case measure => simp [intOf]
        cases y
        · go_wp2_with (first | (refine st_yes (v := .string c.p1) (by rfl) rfl (ex_index rfl rfl rfl (index4_1 _ _ _ _ _)) ?_))
          refine (PA.out _).mono ?_
          rintro r w' ⟨rfl, rfl⟩
          go_wp2
          go_ret
          exact ⟨bool_eq (HX.out HZ.out).symm, HB.out.trans (HW.out.mono HB.out.size)⟩
        go_wp2_with (first | (refine st_yes (v := .string c.p1) (by rfl) rfl (ex_index rfl rfl rfl (index4_1 _ _ _ _ _)) ?_))
        refine (PA.out _).mono ?_
        rintro r w' ⟨rfl, rfl⟩
        go_wp2_with (first | (refine st_yes (v := .string c.p1) (by rfl) rfl (ex_index rfl rfl rfl (index4_1 _ _ _ _ _)) ?_))
        go_roundw
        case rel => exact ⟨2, by decide, rfl, Lib.hid (step_q HQ.out HZ.out), HW⟩
        case measure => simp [intOf]
      · clear hk hlt
        have PA := Lib.hid (fun V => isa_any 2 c.p2 V (by decide) (by decide))
        have hn := nil_eq c.p2
        have hm := nil_em c.p2
        have HZ := Lib.hid (show qP c 2 = (decide (c.p2.size = 0) || isB 2 c.p2) from rfl)
        have HX := Lib.hid (fun h => okC_p (c := c) (k := 2) (by decide) h)
        generalize isB 2 c.p2 = y at *
        generalize decide (c.p2.size = 0) = z at *
        cases z
        rotate_left
        · clear PA HX
          go_wp2_with (first | (refine st_yes (v := .string c.p2) (by rfl) rfl (ex_index rfl rfl rfl (index4_2 _ _ _ _ _)) ?_))
          go_roundw
          case rel => exact ⟨3, by decide, rfl, Lib.hid (step_q HQ.out HZ.out), HW⟩
          case measure => simp [intOf]
        cases y
        · go_wp2_with (first | (refine st_yes (v := .string c.p2) (by rfl) rfl (ex_index rfl rfl rfl (index4_2 _ _ _ _ _)) ?_))
          refine (PA.out _).mono ?_
          rintro r w' ⟨rfl, rfl⟩
          go_wp2
          go_ret
          exact ⟨bool_eq (HX.out HZ.out).symm, HB.out.trans (HW.out.mono HB.out.size)⟩
        go_wp2_with (first | (refine st_yes (v := .string c.p2) (by rfl) rfl (ex_index rfl rfl rfl (index4_2 _ _ _ _ _)) ?_))
        refine (PA.out _).mono ?_
        rintro r w' ⟨rfl, rfl⟩
        go_wp2_with (first | (refine st_yes (v := .string c.p2) (by rfl) rfl (ex_index rfl rfl rfl (index4_2 _ _ _ _ _)) ?_))
        go_roundw
        case rel => exact ⟨3, by decide, rfl, Lib.hid (step_q HQ.out HZ.out), HW⟩
        case measure => simp [intOf]
      · clear hk hlt
        have PA := Lib.hid (fun V => isa_any 3 c.p3 V (by decide) (by decide))
        have hn := nil_eq c.p3
        have hm := nil_em c.p3
        have HZ := Lib.hid (show qP c 3 = (decide (c.p3.size = 0) || isB 3 c.p3) from rfl)
        have HX := Lib.hid (fun h => okC_p (c := c) (k := 3) (by decide) h)
        generalize isB 3 c.p3 = y at *
        generalize decide (c.p3.size = 0) = z at *
        cases z
        rotate_left
        · clear PA HX
          go_wp2_with (first | (refine st_yes (v := .string c.p3) (by rfl) rfl (ex_index rfl rfl rfl (index4_3 _ _ _ _ _)) ?_))
          go_roundw
          case rel => exact ⟨4, by decide, rfl, Lib.hid (step_q HQ.out HZ.out), HW⟩
          case measure => simp [intOf]
        cases y
        · go_wp2_with (first | (refine st_yes (v := .string c.p3) (by rfl) rfl (ex_index rfl rfl rfl (index4_3 _ _ _ _ _)) ?_))
          refine (PA.out _).mono ?_
          rintro r w' ⟨rfl, rfl⟩
          go_wp2
          go_ret
          exact ⟨bool_eq (HX.out HZ.out).symm, HB.out.trans (HW.out.mono HB.out.size)⟩
        go_wp2_with (first | (refine st_yes (v := .string c.p3) (by rfl) rfl (ex_index rfl rfl rfl (index4_3 _ _ _ _ _)) ?_))
        refine (PA.out _).mono ?_
        rintro r w' ⟨rfl, rfl⟩
        go_wp2_with (first | (refine st_yes (v := .string c.p3) (by rfl) rfl (ex_index rfl rfl rfl (index4_3 _ _ _ _ _)) ?_))
        go_roundw
        case rel => exact ⟨4, by decide, rfl, Lib.hid (step_q HQ.out HZ.out), HW⟩
        case measure => simp [intOf]
    · obtain rfl : k = 4 := by omega
      clear hk hlt
      have C0 := Lib.hid (C0.out.below HW.out)
      have HB := Lib.hid (HB.out.trans (HW.out.mono HB.out.size))
      have HP := HQ
      clear HQ HW
      generalize hV : wr = V2 at *
      go_wp2_with (first | (refine wpList_loadAt (b := w.heap.size) (off := 4) (l := [.string c.n0, .string c.n1]) rfl _ rfl rfl C0.out (two_in c) (agg2 _) (size2 _) ?_))
      go_loopw [24] (fun i wr => ∃ k : Nat, k ≤ 2 ∧ i = .int .i64 k ∧ Hid (∀ j, j < k → qN c j = true) ∧ Hid (Below V2.heap.size V2 wr)) (fun i _ => 2 - (intOf i).toNat)
      case atStart => exact ⟨0, by decide, rfl, Lib.hid (fun j hj => absurd hj (by omega)), Lib.hid (Below.refl _ _)⟩
      case round =>
        obtain ⟨k, hk, rfl, HQ, HW⟩ := hrel
        by_cases hlt : k < 2
        · rcases (show k = 0 ∨ k = 1 by omega) with rfl | rfl
          · clear hk hlt
            have PA := Lib.hid (fun V => afam_any c.n0 V)
            have hn := nil_eq c.n0
            have hm := nil_em c.n0
            have hf := afam_0 c.n0
            have HZ := Lib.hid (show qN c 0 = (decide (c.n0.size = 0) || (famA c.n0 == 0)) from by
              show (emB c.n0 || decide (famA c.n0 = 0)) = _
              unfold emB
              congr 1)
            have HX := Lib.hid (fun h => okC_n (c := c) (k := 0) (by decide) h)
            rw [hf] at HZ
            generalize famA c.n0 = x at *
            generalize decide (c.n0.size = 4) = y at *
            generalize decide (c.n0.size = 0) = z at *
            have hg : (x != 0) = !y := by rw [bne, hf]
            cases z
            rotate_left
            · clear PA HX hf hg
              go_wp2_with (first | (refine st_yes (v := .string c.n0) (by rfl) rfl (ex_index rfl rfl rfl (index2_0 _ _ _)) ?_))
              go_roundw
              case rel => exact ⟨1, by decide, rfl, Lib.hid (step_q HQ.out HZ.out), HW⟩
              case measure => simp [intOf]
            cases y
            · go_wp2_with (first | (refine st_yes (v := .string c.n0) (by rfl) rfl (ex_index rfl rfl rfl (index2_0 _ _ _)) ?_))
              refine (PA.out _).mono ?_
              rintro r w' ⟨rfl, rfl⟩
              go_wp2
              go_ret
              exact ⟨bool_eq (HX.out HZ.out).symm, HB.out.trans (HW.out.mono HB.out.size)⟩
            go_wp2_with (first | (refine st_yes (v := .string c.n0) (by rfl) rfl (ex_index rfl rfl rfl (index2_0 _ _ _)) ?_))
            refine (PA.out _).mono ?_
            rintro r w' ⟨rfl, rfl⟩
            go_wp2_with (first | (refine st_yes (v := .string c.n0) (by rfl) rfl (ex_index rfl rfl rfl (index2_0 _ _ _)) ?_))
            go_roundw
            case rel => exact ⟨1, by decide, rfl, Lib.hid (step_q HQ.out HZ.out), HW⟩
            case measure => simp [intOf]
          · clear hk hlt
            have PA := Lib.hid (fun V => afam_any c.n1 V)
            have hn := nil_eq c.n1
            have hm := nil_em c.n1
            have hf := afam_1 c.n1
            have HZ := Lib.hid (show qN c 1 = (decide (c.n1.size = 0) || (famA c.n1 == 1)) from by
              show (emB c.n1 || decide (famA c.n1 = 1)) = _
              unfold emB
              congr 1)
            have HX := Lib.hid (fun h => okC_n (c := c) (k := 1) (by decide) h)
            rw [hf] at HZ
            generalize famA c.n1 = x at *
            generalize decide (c.n1.size = 16) = y at *
            generalize decide (c.n1.size = 0) = z at *
            have hg : (x != 1) = !y := by rw [bne, hf]
            cases z
            rotate_left
            · clear PA HX hf hg
              go_wp2_with (first | (refine st_yes (v := .string c.n1) (by rfl) rfl (ex_index rfl rfl rfl (index2_1 _ _ _)) ?_))
              go_roundw
              case rel => exact ⟨2, by decide, rfl, Lib.hid (step_q HQ.out HZ.out), HW⟩
              case measure => simp [intOf]
            cases y
            · go_wp2_with (first | (refine st_yes (v := .string c.n1) (by rfl) rfl (ex_index rfl rfl rfl (index2_1 _ _ _)) ?_))
              refine (PA.out _).mono ?_
              rintro r w' ⟨rfl, rfl⟩
              go_wp2
              go_ret
              exact ⟨bool_eq (HX.out HZ.out).symm, HB.out.trans (HW.out.mono HB.out.size)⟩
            go_wp2_with (first | (refine st_yes (v := .string c.n1) (by rfl) rfl (ex_index rfl rfl rfl (index2_1 _ _ _)) ?_))
            refine (PA.out _).mono ?_
            rintro r w' ⟨rfl, rfl⟩
            go_wp2_with (first | (refine st_yes (v := .string c.n1) (by rfl) rfl (ex_index rfl rfl rfl (index2_1 _ _ _)) ?_))
            go_roundw
            case rel => exact ⟨2, by decide, rfl, Lib.hid (step_q HQ.out HZ.out), HW⟩
            case measure => simp [intOf]
        · obtain rfl : k = 2 := by omega
          clear hk hlt
          have C0 := Lib.hid (C0.out.below HW.out)
          have HB := Lib.hid (HB.out.trans (HW.out.mono HB.out.size))
          have HO := Lib.hid ((okC_i HP.out HQ.out).trans (show qI c = (decide (c.id.size = 0) || decide (c.id.size = 8)) from rfl))
          have c6 := C0.out.cell 6 (.string c.id) rfl
          have hn := nil_eq c.id
          have hm := nil_em c.id
          have h8 : ((c.id.size : Int) == 8) = decide (c.id.size = 8) := size_eq c.id 8
          clear HQ HW HP C0
          generalize decide (c.id.size = 0) = z at *
          generalize decide (c.id.size = 8) = y at *
          cases z
          · go_wp2
            go_ret
            exact ⟨bool_eq HO.out.symm, HB.out⟩
          · go_wp2
            go_ret
            exact ⟨bool_eq HO.out.symm, HB.out⟩
def numB (m : M) : Bool := fitsB m.interval 2 && (fitsB m.seq 2 && fitsB m.metric 2)
theorem nums_any (m : M) (w : World) : Calls Tryz.prog 21 #[.agg m.cells] w fun e w' => e = .returned (.bool (numB m)) ∧ Below w.heap.size w w' := by
  have HB := Lib.hid (balloc (Below.refl _ w) (.cells m.cells 31))
  have b0 := Bx.new w m
  have HK := Lib.hid (show numB m = (fitsB m.interval 2 && (fitsB m.seq 2 && fitsB m.metric 2)) from rfl)
  have P1 := Lib.hid (fun V => Oct.fits_any m.interval 2 V)
  have P2 := Lib.hid (fun V => Oct.fits_any m.seq 2 V)
  have P3 := Lib.hid (fun V => Oct.fits_any m.metric 2 V)
  generalize numB m = y at *
  generalize fitsB m.interval 2 = x1 at *
  generalize fitsB m.seq 2 = x2 at *
  generalize fitsB m.metric 2 = x3 at *
  cases x1
  · go_enter Tryz.func21, Tryz.ntmps21
    go_upto_region 1 with fail
    generalize w.alloc (.cells m.cells 31) = V at *
    have c10 := b0.cs.c10
    have c12 := b0.cs.c12
    have c14 := b0.cs.c14
    clear b0
    go_wp2_with fail
    refine (P1.out _).mono ?_
    rintro r w' ⟨rfl, rfl⟩
    go_wp2
    go_ret
    exact ⟨bool_eq HK.out.symm, HB.out⟩
  cases x2
  · go_enter Tryz.func21, Tryz.ntmps21
    go_upto_region 1 with fail
    generalize w.alloc (.cells m.cells 31) = V at *
    have c10 := b0.cs.c10
    have c12 := b0.cs.c12
    have c14 := b0.cs.c14
    clear b0
    go_wp2_with fail
    refine (P1.out _).mono ?_
    rintro r w' ⟨rfl, rfl⟩
    go_wp2_with fail
    refine (P2.out _).mono ?_
    rintro r w' ⟨rfl, rfl⟩
    go_wp2
    go_ret
    exact ⟨bool_eq HK.out.symm, HB.out⟩
  go_enter Tryz.func21, Tryz.ntmps21
  go_upto_region 1 with fail
  generalize w.alloc (.cells m.cells 31) = V at *
  have c10 := b0.cs.c10
  have c12 := b0.cs.c12
  have c14 := b0.cs.c14
  clear b0
  go_wp2_with fail
  refine (P1.out _).mono ?_
  rintro r w' ⟨rfl, rfl⟩
  go_wp2_with fail
  refine (P2.out _).mono ?_
  rintro r w' ⟨rfl, rfl⟩
  go_wp2_with fail
  refine (P3.out _).mono ?_
  rintro r w' ⟨rfl, rfl⟩
  go_wp2
  go_ret
  exact ⟨bool_eq HK.out.symm, HB.out⟩
theorem S2' {w W : World} {m : M} {x : Ending} (hS : Bx W w.heap.size m ∧ Below w.heap.size w W) : ∀ e w', e = x ∧ W = w' → e = x ∧ (Bx w' w.heap.size m ∧ Below w.heap.size w w') := fun e w' h => ⟨h.1, h.2 ▸ hS⟩
theorem way_is (m : M) : wayB m = if m.metric = 65535 then decide (m.id.size = 0) && decide (m.next.size = 0) else !decide (m.ae = 0) && (decide (m.id.size = 8) && (decide (m.next.size = 0) || decide (famA m.next = fam m.ae))) := rfl
set_option maxHeartbeats 6400000 in
theorem way_any (m : M) (w : World) : Calls Tryz.prog 22 #[.agg m.cells] w fun e w' => e = .returned (.bool (wayB m)) ∧ Below w.heap.size w w' := by
  have HB := Lib.hid (balloc (Below.refl _ w) (.cells m.cells 31))
  have b0 := Bx.new w m
  have n1 := nil_eq m.id
  have n2 := nil_em m.id
  have n3 := nil_eq m.next
  have n4 := nil_em m.next
  have HK := Lib.hid (way_is m)
  by_cases hm : m.metric = 65535
  · rw [if_pos hm] at HK
    generalize wayB m = y at *
    generalize decide (m.id.size = 0) = z1 at *
    generalize decide (m.next.size = 0) = z2 at *
    cases z1
    · go_enter Tryz.func22, Tryz.ntmps22
      go_upto_region 1 with fail
      generalize w.alloc (.cells m.cells 31) = V at *
      have c9 := b0.cs.c9
      have c10 := b0.cs.c10
      have c11 := b0.cs.c11
      clear b0
      rw [hm] at c10
      clear hm
      go_wp2
      go_ret
      exact ⟨bool_eq HK.out.symm, HB.out⟩
    go_enter Tryz.func22, Tryz.ntmps22
    go_upto_region 1 with fail
    generalize w.alloc (.cells m.cells 31) = V at *
    have c9 := b0.cs.c9
    have c10 := b0.cs.c10
    have c11 := b0.cs.c11
    clear b0
    rw [hm] at c10
    clear hm
    go_wp2
    go_ret
    exact ⟨bool_eq HK.out.symm, HB.out⟩
  rw [if_neg hm] at HK
  have hm2 : (m.metric == 65535) = false := by simpa using hm
  generalize wayB m = y at *
  by_cases h0 : m.ae = 0
  · rw [decide_eq_true h0] at HK
    have h03 : (m.ae != 0) = false := by rw [h0]; rfl
    clear h0
    go_enter Tryz.func22, Tryz.ntmps22
    go_upto_region 1 with fail
    generalize w.alloc (.cells m.cells 31) = V at *
    have B0 := Lib.hid b0
    clear b0
    have c10 := B0.out.cs.c10
    go_upto_region 3 with fail
    clear c10 hm hm2
    refine wp_region_held_drew (S := fun W => Bx W w.heap.size m ∧ Below w.heap.size w W) (by kernel_rfl) ⟨B0.out, HB.out.drew⟩ (fun hS => ?_)
    clear HB B0
    generalize V.drew = X0 at *
    refine H.tk (i := 0) (v := ?v0a) ?h0a hS ?_
    case h0a => (intro w hw; go_simp; first | done | (with_reducible rfl))
    try simp only [Act.put, List.setIfInBounds_toArray, List.set_cons_zero, List.set_cons_succ]
    refine H.tk (i := 1) (v := .int .i64 m.ae) ?h1a hS ?_
    case h1a => exact (fun w hw => by have c := (hw.1).cs.c5; go_simp)
    try simp only [Act.put, List.setIfInBounds_toArray, List.set_cons_zero, List.set_cons_succ]
    refine H.tk (i := 2) (v := .bool false) ?h2a hS ?_
    case h2a => exact (fun w hw => by go_simp)
    try simp only [Act.put, List.setIfInBounds_toArray, List.set_cons_zero, List.set_cons_succ]
    refine H.tk (i := 3) (v := (.bool false)) (fun w _ => rfl) hS ?_
    try simp only [Act.put, List.setIfInBounds_toArray, List.set_cons_zero, List.set_cons_succ]
    refine H.sk (i := 4) (d := 18) hS ?_
    try simp only [Act.put, List.setIfInBounds_toArray, List.set_cons_zero, List.set_cons_succ]
    refine H.sk (i := 5) (d := 19) hS ?_
    try simp only [Act.put, List.setIfInBounds_toArray, List.set_cons_zero, List.set_cons_succ]
    refine H.sk (i := 6) (d := 20) hS ?_
    try simp only [Act.put, List.setIfInBounds_toArray, List.set_cons_zero, List.set_cons_succ]
    refine H.sk (i := 7) (d := 21) hS ?_
    try simp only [Act.put, List.setIfInBounds_toArray, List.set_cons_zero, List.set_cons_succ]
    refine H.tk (i := 8) (v := .bool false) ?h8a hS ?_
    case h8a => exact (fun w hw => by go_simp)
    try simp only [Act.put, List.setIfInBounds_toArray, List.set_cons_zero, List.set_cons_succ]
    refine H.tk (i := 9) (v := (.bool false)) (fun w _ => rfl) hS ?_
    try simp only [Act.put, List.setIfInBounds_toArray, List.set_cons_zero, List.set_cons_succ]
    refine H.sk (i := 10) (d := 24) hS ?_
    try simp only [Act.put, List.setIfInBounds_toArray, List.set_cons_zero, List.set_cons_succ]
    refine H.sk (i := 11) (d := 25) hS ?_
    try simp only [Act.put, List.setIfInBounds_toArray, List.set_cons_zero, List.set_cons_succ]
    refine H.sk (i := 12) (d := 26) hS ?_
    try simp only [Act.put, List.setIfInBounds_toArray, List.set_cons_zero, List.set_cons_succ]
    refine H.sk (i := 13) (d := 27) hS ?_
    try simp only [Act.put, List.setIfInBounds_toArray, List.set_cons_zero, List.set_cons_succ]
    refine H.sk (i := 14) (d := 28) hS ?_
    try simp only [Act.put, List.setIfInBounds_toArray, List.set_cons_zero, List.set_cons_succ]
    refine H.sk (i := 15) (d := 29) hS ?_
    try simp only [Act.put, List.setIfInBounds_toArray, List.set_cons_zero, List.set_cons_succ]
    refine H.sk (i := 16) (d := 30) hS ?_
    try simp only [Act.put, List.setIfInBounds_toArray, List.set_cons_zero, List.set_cons_succ]
    refine H.sk (i := 17) (d := 31) hS ?_
    try simp only [Act.put, List.setIfInBounds_toArray, List.set_cons_zero, List.set_cons_succ]
    refine H.sk (i := 18) (d := 32) hS ?_
    try simp only [Act.put, List.setIfInBounds_toArray, List.set_cons_zero, List.set_cons_succ]
    refine H.sk (i := 19) (d := 33) hS ?_
    try simp only [Act.put, List.setIfInBounds_toArray, List.set_cons_zero, List.set_cons_succ]
    refine H.sk (i := 20) (d := 34) hS ?_
    try simp only [Act.put, List.setIfInBounds_toArray, List.set_cons_zero, List.set_cons_succ]
    refine H.sk (i := 21) (d := 35) hS ?_
    try simp only [Act.put, List.setIfInBounds_toArray, List.set_cons_zero, List.set_cons_succ]
    refine H.tk (i := 22) (v := (Value.bool false)) (fun w _ => rfl) hS ?_
    try simp only [Act.put, List.setIfInBounds_toArray, List.set_cons_zero, List.set_cons_succ]
    refine H.tk (i := 23) (v := (Value.bool false)) (fun w _ => rfl) hS ?_
    try simp only [Act.put, List.setIfInBounds_toArray, List.set_cons_zero, List.set_cons_succ]
    refine wpAnyH_done (by kernel_rfl) ?_ _
    go_wp2
    go_ret
    exact ⟨bool_eq HK.out.symm, hS.2⟩
  have h02 : (m.ae == 0) = false := by simpa using h0
  have h03 : (m.ae != 0) = true := by rw [bne, h02]; rfl
  rw [decide_eq_false h0] at HK
  have h8 : ((m.id.size : Int) == 8) = decide (m.id.size = 8) := size_eq m.id 8
  clear h0
  generalize decide (m.id.size = 8) = z3 at *
  cases z3
  · go_enter Tryz.func22, Tryz.ntmps22
    go_upto_region 1 with fail
    generalize w.alloc (.cells m.cells 31) = V at *
    have B0 := Lib.hid b0
    clear b0
    have c10 := B0.out.cs.c10
    go_upto_region 3 with fail
    clear c10 hm hm2
    refine wp_region_held_drew (S := fun W => Bx W w.heap.size m ∧ Below w.heap.size w W) (by kernel_rfl) ⟨B0.out, HB.out.drew⟩ (fun hS => ?_)
    clear HB B0
    generalize V.drew = X0 at *
    refine H.tk (i := 0) (v := ?v0b) ?h0b hS ?_
    case h0b => (intro w hw; go_simp; first | done | (with_reducible rfl))
    try simp only [Act.put, List.setIfInBounds_toArray, List.set_cons_zero, List.set_cons_succ]
    refine H.tk (i := 1) (v := .int .i64 m.ae) ?h1b hS ?_
    case h1b => exact (fun w hw => by have c := (hw.1).cs.c5; go_simp)
    try simp only [Act.put, List.setIfInBounds_toArray, List.set_cons_zero, List.set_cons_succ]
    refine H.tk (i := 2) (v := .bool true) ?h2b hS ?_
    case h2b => exact (fun w hw => by go_simp)
    try simp only [Act.put, List.setIfInBounds_toArray, List.set_cons_zero, List.set_cons_succ]
    refine H.tk (i := 3) (v := (.bool true)) (fun w _ => rfl) hS ?_
    try simp only [Act.put, List.setIfInBounds_toArray, List.set_cons_zero, List.set_cons_succ]
    refine H.tk (i := 4) (v := ?v4b) ?h4b hS ?_
    case h4b => (intro w hw; go_simp; first | done | (with_reducible rfl))
    try simp only [Act.put, List.setIfInBounds_toArray, List.set_cons_zero, List.set_cons_succ]
    refine H.tk (i := 5) (v := .string m.id) ?h5b hS ?_
    case h5b => exact (fun w hw => by have c := (hw.1).cs.c11; go_simp)
    try simp only [Act.put, List.setIfInBounds_toArray, List.set_cons_zero, List.set_cons_succ]
    refine H.tk (i := 6) (v := .int .i64 (m.id.size : Int)) ?h6b hS ?_
    case h6b => exact (fun w hw => by go_simp)
    try simp only [Act.put, List.setIfInBounds_toArray, List.set_cons_zero, List.set_cons_succ]
    refine H.tk (i := 7) (v := .bool false) ?h7b hS ?_
    case h7b => exact (fun w hw => by go_simp)
    try simp only [Act.put, List.setIfInBounds_toArray, List.set_cons_zero, List.set_cons_succ]
    refine H.tk (i := 8) (v := .bool false) ?h8b hS ?_
    case h8b => exact (fun w hw => by go_simp)
    try simp only [Act.put, List.setIfInBounds_toArray, List.set_cons_zero, List.set_cons_succ]
    refine H.tk (i := 9) (v := (.bool false)) (fun w _ => rfl) hS ?_
    try simp only [Act.put, List.setIfInBounds_toArray, List.set_cons_zero, List.set_cons_succ]
    refine H.sk (i := 10) (d := 24) hS ?_
    try simp only [Act.put, List.setIfInBounds_toArray, List.set_cons_zero, List.set_cons_succ]
    refine H.sk (i := 11) (d := 25) hS ?_
    try simp only [Act.put, List.setIfInBounds_toArray, List.set_cons_zero, List.set_cons_succ]
    refine H.sk (i := 12) (d := 26) hS ?_
    try simp only [Act.put, List.setIfInBounds_toArray, List.set_cons_zero, List.set_cons_succ]
    refine H.sk (i := 13) (d := 27) hS ?_
    try simp only [Act.put, List.setIfInBounds_toArray, List.set_cons_zero, List.set_cons_succ]
    refine H.sk (i := 14) (d := 28) hS ?_
    try simp only [Act.put, List.setIfInBounds_toArray, List.set_cons_zero, List.set_cons_succ]
    refine H.sk (i := 15) (d := 29) hS ?_
    try simp only [Act.put, List.setIfInBounds_toArray, List.set_cons_zero, List.set_cons_succ]
    refine H.sk (i := 16) (d := 30) hS ?_
    try simp only [Act.put, List.setIfInBounds_toArray, List.set_cons_zero, List.set_cons_succ]
    refine H.sk (i := 17) (d := 31) hS ?_
    try simp only [Act.put, List.setIfInBounds_toArray, List.set_cons_zero, List.set_cons_succ]
    refine H.sk (i := 18) (d := 32) hS ?_
    try simp only [Act.put, List.setIfInBounds_toArray, List.set_cons_zero, List.set_cons_succ]
    refine H.sk (i := 19) (d := 33) hS ?_
    try simp only [Act.put, List.setIfInBounds_toArray, List.set_cons_zero, List.set_cons_succ]
    refine H.sk (i := 20) (d := 34) hS ?_
    try simp only [Act.put, List.setIfInBounds_toArray, List.set_cons_zero, List.set_cons_succ]
    refine H.sk (i := 21) (d := 35) hS ?_
    try simp only [Act.put, List.setIfInBounds_toArray, List.set_cons_zero, List.set_cons_succ]
    refine H.tk (i := 22) (v := (Value.bool false)) (fun w _ => rfl) hS ?_
    try simp only [Act.put, List.setIfInBounds_toArray, List.set_cons_zero, List.set_cons_succ]
    refine H.tk (i := 23) (v := (Value.bool false)) (fun w _ => rfl) hS ?_
    try simp only [Act.put, List.setIfInBounds_toArray, List.set_cons_zero, List.set_cons_succ]
    refine wpAnyH_done (by kernel_rfl) ?_ _
    go_wp2
    go_ret
    exact ⟨bool_eq HK.out.symm, hS.2⟩
  generalize decide (m.next.size = 0) = z2 at *
  cases z2
  rotate_left
  · go_enter Tryz.func22, Tryz.ntmps22
    go_upto_region 1 with fail
    generalize w.alloc (.cells m.cells 31) = V at *
    have B0 := Lib.hid b0
    clear b0
    have c10 := B0.out.cs.c10
    go_upto_region 3 with fail
    clear c10 hm hm2
    refine wp_region_held_drew (S := fun W => Bx W w.heap.size m ∧ Below w.heap.size w W) (by kernel_rfl) ⟨B0.out, HB.out.drew⟩ (fun hS => ?_)
    clear HB B0
    generalize V.drew = X0 at *
    refine H.tk (i := 0) (v := ?v0c) ?h0c hS ?_
    case h0c => (intro w hw; go_simp; first | done | (with_reducible rfl))
    try simp only [Act.put, List.setIfInBounds_toArray, List.set_cons_zero, List.set_cons_succ]
    refine H.tk (i := 1) (v := .int .i64 m.ae) ?h1c hS ?_
    case h1c => exact (fun w hw => by have c := (hw.1).cs.c5; go_simp)
    try simp only [Act.put, List.setIfInBounds_toArray, List.set_cons_zero, List.set_cons_succ]
    refine H.tk (i := 2) (v := .bool true) ?h2c hS ?_
    case h2c => exact (fun w hw => by go_simp)
    try simp only [Act.put, List.setIfInBounds_toArray, List.set_cons_zero, List.set_cons_succ]
    refine H.tk (i := 3) (v := (.bool true)) (fun w _ => rfl) hS ?_
    try simp only [Act.put, List.setIfInBounds_toArray, List.set_cons_zero, List.set_cons_succ]
    refine H.tk (i := 4) (v := ?v4c) ?h4c hS ?_
    case h4c => (intro w hw; go_simp; first | done | (with_reducible rfl))
    try simp only [Act.put, List.setIfInBounds_toArray, List.set_cons_zero, List.set_cons_succ]
    refine H.tk (i := 5) (v := .string m.id) ?h5c hS ?_
    case h5c => exact (fun w hw => by have c := (hw.1).cs.c11; go_simp)
    try simp only [Act.put, List.setIfInBounds_toArray, List.set_cons_zero, List.set_cons_succ]
    refine H.tk (i := 6) (v := .int .i64 (m.id.size : Int)) ?h6c hS ?_
    case h6c => exact (fun w hw => by go_simp)
    try simp only [Act.put, List.setIfInBounds_toArray, List.set_cons_zero, List.set_cons_succ]
    refine H.tk (i := 7) (v := .bool true) ?h7c hS ?_
    case h7c => exact (fun w hw => by go_simp)
    try simp only [Act.put, List.setIfInBounds_toArray, List.set_cons_zero, List.set_cons_succ]
    refine H.tk (i := 8) (v := .bool true) ?h8c hS ?_
    case h8c => exact (fun w hw => by go_simp)
    try simp only [Act.put, List.setIfInBounds_toArray, List.set_cons_zero, List.set_cons_succ]
    refine H.tk (i := 9) (v := (.bool true)) (fun w _ => rfl) hS ?_
    try simp only [Act.put, List.setIfInBounds_toArray, List.set_cons_zero, List.set_cons_succ]
    refine H.tk (i := 10) (v := ?v10c) ?h10c hS ?_
    case h10c => (intro w hw; go_simp; first | done | (with_reducible rfl))
    try simp only [Act.put, List.setIfInBounds_toArray, List.set_cons_zero, List.set_cons_succ]
    refine H.tk (i := 11) (v := .string m.next) ?h11c hS ?_
    case h11c => exact (fun w hw => by have c := (hw.1).cs.c9; go_simp)
    try simp only [Act.put, List.setIfInBounds_toArray, List.set_cons_zero, List.set_cons_succ]
    refine H.tk (i := 12) (v := .bool true) ?h12c hS ?_
    case h12c => exact (fun w hw => by go_simp)
    try simp only [Act.put, List.setIfInBounds_toArray, List.set_cons_zero, List.set_cons_succ]
    refine H.tk (i := 13) (v := (.bool true)) (fun w _ => rfl) hS ?_
    try simp only [Act.put, List.setIfInBounds_toArray, List.set_cons_zero, List.set_cons_succ]
    refine H.sk (i := 14) (d := 28) hS ?_
    try simp only [Act.put, List.setIfInBounds_toArray, List.set_cons_zero, List.set_cons_succ]
    refine H.sk (i := 15) (d := 29) hS ?_
    try simp only [Act.put, List.setIfInBounds_toArray, List.set_cons_zero, List.set_cons_succ]
    refine H.sk (i := 16) (d := 30) hS ?_
    try simp only [Act.put, List.setIfInBounds_toArray, List.set_cons_zero, List.set_cons_succ]
    refine H.sk (i := 17) (d := 31) hS ?_
    try simp only [Act.put, List.setIfInBounds_toArray, List.set_cons_zero, List.set_cons_succ]
    refine H.sk (i := 18) (d := 32) hS ?_
    try simp only [Act.put, List.setIfInBounds_toArray, List.set_cons_zero, List.set_cons_succ]
    refine H.sk (i := 19) (d := 33) hS ?_
    try simp only [Act.put, List.setIfInBounds_toArray, List.set_cons_zero, List.set_cons_succ]
    refine H.sk (i := 20) (d := 34) hS ?_
    try simp only [Act.put, List.setIfInBounds_toArray, List.set_cons_zero, List.set_cons_succ]
    refine H.tk (i := 21) (v := (Value.bool true)) (fun w _ => rfl) hS ?_
    try simp only [Act.put, List.setIfInBounds_toArray, List.set_cons_zero, List.set_cons_succ]
    refine H.tk (i := 22) (v := (Value.bool true)) (fun w _ => rfl) hS ?_
    try simp only [Act.put, List.setIfInBounds_toArray, List.set_cons_zero, List.set_cons_succ]
    refine H.tk (i := 23) (v := (Value.bool true)) (fun w _ => rfl) hS ?_
    try simp only [Act.put, List.setIfInBounds_toArray, List.set_cons_zero, List.set_cons_succ]
    refine wpAnyH_done (by kernel_rfl) ?_ _
    go_wp2
    go_ret
    exact ⟨bool_eq HK.out.symm, hS.2⟩
  have PA := Lib.hid (fun V => afam_any m.next V)
  have PF := Lib.hid (fun V => fam_any m.ae V)
  have hq : (famA m.next == fam m.ae) = decide (famA m.next = fam m.ae) := rfl
  generalize famA m.next = f at *
  generalize fam m.ae = g at *
  generalize decide (f = g) = z4 at *
  go_enter Tryz.func22, Tryz.ntmps22
  go_upto_region 1 with fail
  generalize w.alloc (.cells m.cells 31) = V at *
  have B0 := Lib.hid b0
  clear b0
  have c10 := B0.out.cs.c10
  go_upto_region 3 with fail
  clear c10 hm hm2
  refine wp_region_held_drew (S := fun W => Bx W w.heap.size m ∧ Below w.heap.size w W) (by kernel_rfl) ⟨B0.out, HB.out.drew⟩ (fun hS => ?_)
  clear HB B0
  generalize V.drew = X0 at *
  refine H.tk (i := 0) (v := ?v0d) ?h0d hS ?_
  case h0d => (intro w hw; go_simp; first | done | (with_reducible rfl))
  try simp only [Act.put, List.setIfInBounds_toArray, List.set_cons_zero, List.set_cons_succ]
  refine H.tk (i := 1) (v := .int .i64 m.ae) ?h1d hS ?_
  case h1d => exact (fun w hw => by have c := (hw.1).cs.c5; go_simp)
  try simp only [Act.put, List.setIfInBounds_toArray, List.set_cons_zero, List.set_cons_succ]
  refine H.tk (i := 2) (v := .bool true) ?h2d hS ?_
  case h2d => exact (fun w hw => by go_simp)
  try simp only [Act.put, List.setIfInBounds_toArray, List.set_cons_zero, List.set_cons_succ]
  refine H.tk (i := 3) (v := (.bool true)) (fun w _ => rfl) hS ?_
  try simp only [Act.put, List.setIfInBounds_toArray, List.set_cons_zero, List.set_cons_succ]
  refine H.tk (i := 4) (v := ?v4d) ?h4d hS ?_
  case h4d => (intro w hw; go_simp; first | done | (with_reducible rfl))
  try simp only [Act.put, List.setIfInBounds_toArray, List.set_cons_zero, List.set_cons_succ]
  refine H.tk (i := 5) (v := .string m.id) ?h5d hS ?_
  case h5d => exact (fun w hw => by have c := (hw.1).cs.c11; go_simp)
  try simp only [Act.put, List.setIfInBounds_toArray, List.set_cons_zero, List.set_cons_succ]
  refine H.tk (i := 6) (v := .int .i64 (m.id.size : Int)) ?h6d hS ?_
  case h6d => exact (fun w hw => by go_simp)
  try simp only [Act.put, List.setIfInBounds_toArray, List.set_cons_zero, List.set_cons_succ]
  refine H.tk (i := 7) (v := .bool true) ?h7d hS ?_
  case h7d => exact (fun w hw => by go_simp)
  try simp only [Act.put, List.setIfInBounds_toArray, List.set_cons_zero, List.set_cons_succ]
  refine H.tk (i := 8) (v := .bool true) ?h8d hS ?_
  case h8d => exact (fun w hw => by go_simp)
  try simp only [Act.put, List.setIfInBounds_toArray, List.set_cons_zero, List.set_cons_succ]
  refine H.tk (i := 9) (v := (.bool true)) (fun w _ => rfl) hS ?_
  try simp only [Act.put, List.setIfInBounds_toArray, List.set_cons_zero, List.set_cons_succ]
  refine H.tk (i := 10) (v := ?v10d) ?h10d hS ?_
  case h10d => (intro w hw; go_simp; first | done | (with_reducible rfl))
  try simp only [Act.put, List.setIfInBounds_toArray, List.set_cons_zero, List.set_cons_succ]
  refine H.tk (i := 11) (v := .string m.next) ?h11d hS ?_
  case h11d => exact (fun w hw => by have c := (hw.1).cs.c9; go_simp)
  try simp only [Act.put, List.setIfInBounds_toArray, List.set_cons_zero, List.set_cons_succ]
  refine H.tk (i := 12) (v := .bool false) ?h12d hS ?_
  case h12d => exact (fun w hw => by go_simp)
  try simp only [Act.put, List.setIfInBounds_toArray, List.set_cons_zero, List.set_cons_succ]
  refine H.tk (i := 13) (v := (.bool false)) (fun w _ => rfl) hS ?_
  try simp only [Act.put, List.setIfInBounds_toArray, List.set_cons_zero, List.set_cons_succ]
  refine H.tk (i := 14) (v := ?v14d) ?h14d hS ?_
  case h14d => (intro w hw; go_simp; first | done | (with_reducible rfl))
  try simp only [Act.put, List.setIfInBounds_toArray, List.set_cons_zero, List.set_cons_succ]
  refine H.tk (i := 15) (v := .string m.next) ?h15d hS ?_
  case h15d => exact (fun w hw => by have c := (hw.1).cs.c9; go_simp)
  try simp only [Act.put, List.setIfInBounds_toArray, List.set_cons_zero, List.set_cons_succ]
  refine H.tk (i := 17) (v := ?v17d) ?h17d hS ?_
  case h17d => (intro w hw; go_simp; first | done | (with_reducible rfl))
  try simp only [Act.put, List.setIfInBounds_toArray, List.set_cons_zero, List.set_cons_succ]
  refine H.tk (i := 18) (v := .int .i64 m.ae) ?h18d hS ?_
  case h18d => exact (fun w hw => by have c := (hw.1).cs.c5; go_simp)
  try simp only [Act.put, List.setIfInBounds_toArray, List.set_cons_zero, List.set_cons_succ]
  refine wpAnyH_ready (rs := [16]) (by kernel_rfl) (by simp) ?_
  refine AllReadyH.cons rfl (fun K hK => ?_) AllReadyH.nil
  go_simp
  refine ((PA.out _).mono (S2' hS)).mono ?_
  rintro e w16 ⟨rfl, hS16⟩
  refine hK.out _ _ hS16 (fun _ => ?_)
  clear hK K hS
  have hS := hS16
  clear hS16
  try simp only [Act.put, List.setIfInBounds_toArray, List.set_cons_zero, List.set_cons_succ]
  refine wpAnyH_ready (rs := [19]) (by kernel_rfl) (by simp) ?_
  refine AllReadyH.cons rfl (fun K hK => ?_) AllReadyH.nil
  go_simp
  refine ((PF.out _).mono (S2' hS)).mono ?_
  rintro e w19 ⟨rfl, hS19⟩
  refine hK.out _ _ hS19 (fun _ => ?_)
  clear hK K hS
  have hS := hS19
  clear hS19
  try simp only [Act.put, List.setIfInBounds_toArray, List.set_cons_zero, List.set_cons_succ]
  refine H.tk (i := 20) (v := .bool z4) ?h20d hS ?_
  case h20d => exact (fun w hw => by go_simp)
  try simp only [Act.put, List.setIfInBounds_toArray, List.set_cons_zero, List.set_cons_succ]
  refine H.tk (i := 21) (v := (.bool z4)) (fun w _ => rfl) hS ?_
  try simp only [Act.put, List.setIfInBounds_toArray, List.set_cons_zero, List.set_cons_succ]
  refine H.tk (i := 22) (v := (.bool z4)) (fun w _ => rfl) hS ?_
  try simp only [Act.put, List.setIfInBounds_toArray, List.set_cons_zero, List.set_cons_succ]
  refine H.tk (i := 23) (v := (.bool z4)) (fun w _ => rfl) hS ?_
  try simp only [Act.put, List.setIfInBounds_toArray, List.set_cons_zero, List.set_cons_succ]
  refine wpAnyH_done (by kernel_rfl) ?_ _
  go_wp2
  go_ret
  exact ⟨bool_eq HK.out.symm, hS.2⟩
theorem mbare_any (m : M) (w : World) (hm : m.In w) : Calls Tryz.prog 18 #[.agg m.cells] w fun e w' => e = .returned (.bool (bare m)) ∧ Below w.heap.size w w' := Bare.bare_any m w hm
set_option maxHeartbeats 12800000 in
theorem right_any (m : M) (w : World) (hm : m.In w) (lb : ∀ x ∈ m.sl, x.1.size ≤ 1099511627776) (hp : m.pfx.size ≤ maxLen) (ht : Tab w) : Calls Tryz.prog 8 #[.agg m.cells] w fun e w' => e = .returned (.bool (okU m)) ∧ Below w.heap.size w w' := by
  have HF := Lib.hid (Fs.new w m hm)
  have HM := Lib.hid (ht.below (balloc (Below.refl _ w) (.cells m.cells 31)))
  have HK := Lib.hid (show okU m = (decide (m.kind = 11) && (bare m && (okS m.sl && (inB m.ae m.pfx m.plen && (numB m && wayB m))))) from by
    unfold okU numB
    simp only [Bool.and_assoc])
  have P1 := Lib.hid (fun V (h : m.In V) => mbare_any m V h)
  have P2 := Lib.hid (fun V (h : Tab V) => in_any m.ae m.pfx m.plen V hp h)
  have P3 := Lib.hid (fun V (h : m.In V) => S2.right_any m.sa m.sc m.sl V h.s h.sl lb)
  have P4 := Lib.hid (fun V => nums_any m V)
  have P5 := Lib.hid (fun V => way_any m V)
  clear lb hm ht hp
  generalize okU m = y at *
  generalize bare m = x1 at *
  generalize inB m.ae m.pfx m.plen = x2 at *
  generalize okS m.sl = x3 at *
  generalize numB m = x4 at *
  generalize wayB m = x5 at *
  by_cases h11 : m.kind = 11
  rotate_left
  · have e11 : (m.kind == 11) = false := by simpa using h11
    rw [decide_eq_false h11] at HK
    go_enter Tryz.func8, Tryz.ntmps8
    go_upto_region 1 with fail
    generalize w.alloc (.cells m.cells 31) = V at *
    have c0 := HF.out.m.cs.c0
    have c5 := HF.out.m.cs.c5
    have c6 := HF.out.m.cs.c6
    have c7 := HF.out.m.cs.c7
    have c24 := HF.out.m.cs.c24
    clear h11
    go_wp2_with (first | (refine st_yes (v := .agg (M.cells m)) (by rfl) rfl (run_loadM (x := .tmp 1) rfl rfl HF.out.m) ?_))
    go_ret
    exact ⟨bool_eq HK.out.symm, HF.out.bel⟩
  rw [decide_eq_true h11] at HK
  cases x1
  · go_enter Tryz.func8, Tryz.ntmps8
    go_upto_region 1 with fail
    generalize w.alloc (.cells m.cells 31) = V at *
    have c0 := HF.out.m.cs.c0
    have c5 := HF.out.m.cs.c5
    have c6 := HF.out.m.cs.c6
    have c7 := HF.out.m.cs.c7
    have c24 := HF.out.m.cs.c24
    rw [h11] at c0
    go_wp2_with (first | (refine st_yes (v := .agg (M.cells m)) (by rfl) rfl (run_loadM (x := .tmp 1) rfl rfl HF.out.m) ?_))
    refine (P1.out _ HF.out.i).mono ?_
    rintro r w' ⟨rfl, hb⟩
    have HM := Lib.hid (HM.out.below hb)
    have HF := Lib.hid (HF.out.call hb)
    clear hb c0 c5 c6 c7 c24
    have c0 := HF.out.m.cs.c0
    have c5 := HF.out.m.cs.c5
    have c6 := HF.out.m.cs.c6
    have c7 := HF.out.m.cs.c7
    have c24 := HF.out.m.cs.c24
    rw [h11] at c0
    go_wp2_with (first | (refine st_yes (v := .agg (M.cells m)) (by rfl) rfl (run_loadM (x := .tmp 1) rfl rfl HF.out.m) ?_))
    go_ret
    exact ⟨bool_eq HK.out.symm, HF.out.bel⟩
  cases x3
  · go_enter Tryz.func8, Tryz.ntmps8
    go_upto_region 1 with fail
    generalize w.alloc (.cells m.cells 31) = V at *
    have c0 := HF.out.m.cs.c0
    have c5 := HF.out.m.cs.c5
    have c6 := HF.out.m.cs.c6
    have c7 := HF.out.m.cs.c7
    have c24 := HF.out.m.cs.c24
    rw [h11] at c0
    go_wp2_with (first | (refine st_yes (v := .agg (M.cells m)) (by rfl) rfl (run_loadM (x := .tmp 1) rfl rfl HF.out.m) ?_))
    refine (P1.out _ HF.out.i).mono ?_
    rintro r w' ⟨rfl, hb⟩
    have HM := Lib.hid (HM.out.below hb)
    have HF := Lib.hid (HF.out.call hb)
    clear hb c0 c5 c6 c7 c24
    have c0 := HF.out.m.cs.c0
    have c5 := HF.out.m.cs.c5
    have c6 := HF.out.m.cs.c6
    have c7 := HF.out.m.cs.c7
    have c24 := HF.out.m.cs.c24
    rw [h11] at c0
    go_wp2_with (first | (refine st_yes (v := .agg (M.cells m)) (by rfl) rfl (run_loadM (x := .tmp 1) rfl rfl HF.out.m) ?_))
    refine (P3.out _ HF.out.i).mono ?_
    rintro r w' ⟨rfl, hb⟩
    have HM := Lib.hid (HM.out.below hb)
    have HF := Lib.hid (HF.out.call hb)
    clear hb c0 c5 c6 c7 c24
    have c0 := HF.out.m.cs.c0
    have c5 := HF.out.m.cs.c5
    have c6 := HF.out.m.cs.c6
    have c7 := HF.out.m.cs.c7
    have c24 := HF.out.m.cs.c24
    rw [h11] at c0
    go_wp2_with (first | (refine st_yes (v := .agg (M.cells m)) (by rfl) rfl (run_loadM (x := .tmp 1) rfl rfl HF.out.m) ?_))
    go_ret
    exact ⟨bool_eq HK.out.symm, HF.out.bel⟩
  cases x2
  · go_enter Tryz.func8, Tryz.ntmps8
    go_upto_region 1 with fail
    generalize w.alloc (.cells m.cells 31) = V at *
    have c0 := HF.out.m.cs.c0
    have c5 := HF.out.m.cs.c5
    have c6 := HF.out.m.cs.c6
    have c7 := HF.out.m.cs.c7
    have c24 := HF.out.m.cs.c24
    rw [h11] at c0
    go_wp2_with (first | (refine st_yes (v := .agg (M.cells m)) (by rfl) rfl (run_loadM (x := .tmp 1) rfl rfl HF.out.m) ?_))
    refine (P1.out _ HF.out.i).mono ?_
    rintro r w' ⟨rfl, hb⟩
    have HM := Lib.hid (HM.out.below hb)
    have HF := Lib.hid (HF.out.call hb)
    clear hb c0 c5 c6 c7 c24
    have c0 := HF.out.m.cs.c0
    have c5 := HF.out.m.cs.c5
    have c6 := HF.out.m.cs.c6
    have c7 := HF.out.m.cs.c7
    have c24 := HF.out.m.cs.c24
    rw [h11] at c0
    go_wp2_with (first | (refine st_yes (v := .agg (M.cells m)) (by rfl) rfl (run_loadM (x := .tmp 1) rfl rfl HF.out.m) ?_))
    refine (P3.out _ HF.out.i).mono ?_
    rintro r w' ⟨rfl, hb⟩
    have HM := Lib.hid (HM.out.below hb)
    have HF := Lib.hid (HF.out.call hb)
    clear hb c0 c5 c6 c7 c24
    have c0 := HF.out.m.cs.c0
    have c5 := HF.out.m.cs.c5
    have c6 := HF.out.m.cs.c6
    have c7 := HF.out.m.cs.c7
    have c24 := HF.out.m.cs.c24
    rw [h11] at c0
    go_wp2_with (first | (refine st_yes (v := .agg (M.cells m)) (by rfl) rfl (run_loadM (x := .tmp 1) rfl rfl HF.out.m) ?_))
    refine (P2.out _ HM.out).mono ?_
    rintro r w' ⟨rfl, hb⟩
    have HM := Lib.hid (HM.out.below hb)
    have HF := Lib.hid (HF.out.call hb)
    clear hb c0 c5 c6 c7 c24
    have c0 := HF.out.m.cs.c0
    have c5 := HF.out.m.cs.c5
    have c6 := HF.out.m.cs.c6
    have c7 := HF.out.m.cs.c7
    have c24 := HF.out.m.cs.c24
    rw [h11] at c0
    go_wp2_with (first | (refine st_yes (v := .agg (M.cells m)) (by rfl) rfl (run_loadM (x := .tmp 1) rfl rfl HF.out.m) ?_))
    go_ret
    exact ⟨bool_eq HK.out.symm, HF.out.bel⟩
  cases x4
  · go_enter Tryz.func8, Tryz.ntmps8
    go_upto_region 1 with fail
    generalize w.alloc (.cells m.cells 31) = V at *
    have c0 := HF.out.m.cs.c0
    have c5 := HF.out.m.cs.c5
    have c6 := HF.out.m.cs.c6
    have c7 := HF.out.m.cs.c7
    have c24 := HF.out.m.cs.c24
    rw [h11] at c0
    go_wp2_with (first | (refine st_yes (v := .agg (M.cells m)) (by rfl) rfl (run_loadM (x := .tmp 1) rfl rfl HF.out.m) ?_))
    refine (P1.out _ HF.out.i).mono ?_
    rintro r w' ⟨rfl, hb⟩
    have HM := Lib.hid (HM.out.below hb)
    have HF := Lib.hid (HF.out.call hb)
    clear hb c0 c5 c6 c7 c24
    have c0 := HF.out.m.cs.c0
    have c5 := HF.out.m.cs.c5
    have c6 := HF.out.m.cs.c6
    have c7 := HF.out.m.cs.c7
    have c24 := HF.out.m.cs.c24
    rw [h11] at c0
    go_wp2_with (first | (refine st_yes (v := .agg (M.cells m)) (by rfl) rfl (run_loadM (x := .tmp 1) rfl rfl HF.out.m) ?_))
    refine (P3.out _ HF.out.i).mono ?_
    rintro r w' ⟨rfl, hb⟩
    have HM := Lib.hid (HM.out.below hb)
    have HF := Lib.hid (HF.out.call hb)
    clear hb c0 c5 c6 c7 c24
    have c0 := HF.out.m.cs.c0
    have c5 := HF.out.m.cs.c5
    have c6 := HF.out.m.cs.c6
    have c7 := HF.out.m.cs.c7
    have c24 := HF.out.m.cs.c24
    rw [h11] at c0
    go_wp2_with (first | (refine st_yes (v := .agg (M.cells m)) (by rfl) rfl (run_loadM (x := .tmp 1) rfl rfl HF.out.m) ?_))
    refine (P2.out _ HM.out).mono ?_
    rintro r w' ⟨rfl, hb⟩
    have HM := Lib.hid (HM.out.below hb)
    have HF := Lib.hid (HF.out.call hb)
    clear hb c0 c5 c6 c7 c24
    have c0 := HF.out.m.cs.c0
    have c5 := HF.out.m.cs.c5
    have c6 := HF.out.m.cs.c6
    have c7 := HF.out.m.cs.c7
    have c24 := HF.out.m.cs.c24
    rw [h11] at c0
    go_wp2_with (first | (refine st_yes (v := .agg (M.cells m)) (by rfl) rfl (run_loadM (x := .tmp 1) rfl rfl HF.out.m) ?_))
    refine (P4.out _).mono ?_
    rintro r w' ⟨rfl, hb⟩
    have HM := Lib.hid (HM.out.below hb)
    have HF := Lib.hid (HF.out.call hb)
    clear hb c0 c5 c6 c7 c24
    have c0 := HF.out.m.cs.c0
    have c5 := HF.out.m.cs.c5
    have c6 := HF.out.m.cs.c6
    have c7 := HF.out.m.cs.c7
    have c24 := HF.out.m.cs.c24
    rw [h11] at c0
    go_wp2_with (first | (refine st_yes (v := .agg (M.cells m)) (by rfl) rfl (run_loadM (x := .tmp 1) rfl rfl HF.out.m) ?_))
    go_ret
    exact ⟨bool_eq HK.out.symm, HF.out.bel⟩
  go_enter Tryz.func8, Tryz.ntmps8
  go_upto_region 1 with fail
  generalize w.alloc (.cells m.cells 31) = V at *
  have c0 := HF.out.m.cs.c0
  have c5 := HF.out.m.cs.c5
  have c6 := HF.out.m.cs.c6
  have c7 := HF.out.m.cs.c7
  have c24 := HF.out.m.cs.c24
  rw [h11] at c0
  go_wp2_with (first | (refine st_yes (v := .agg (M.cells m)) (by rfl) rfl (run_loadM (x := .tmp 1) rfl rfl HF.out.m) ?_))
  refine (P1.out _ HF.out.i).mono ?_
  rintro r w' ⟨rfl, hb⟩
  have HM := Lib.hid (HM.out.below hb)
  have HF := Lib.hid (HF.out.call hb)
  clear hb c0 c5 c6 c7 c24
  have c0 := HF.out.m.cs.c0
  have c5 := HF.out.m.cs.c5
  have c6 := HF.out.m.cs.c6
  have c7 := HF.out.m.cs.c7
  have c24 := HF.out.m.cs.c24
  rw [h11] at c0
  go_wp2_with (first | (refine st_yes (v := .agg (M.cells m)) (by rfl) rfl (run_loadM (x := .tmp 1) rfl rfl HF.out.m) ?_))
  refine (P3.out _ HF.out.i).mono ?_
  rintro r w' ⟨rfl, hb⟩
  have HM := Lib.hid (HM.out.below hb)
  have HF := Lib.hid (HF.out.call hb)
  clear hb c0 c5 c6 c7 c24
  have c0 := HF.out.m.cs.c0
  have c5 := HF.out.m.cs.c5
  have c6 := HF.out.m.cs.c6
  have c7 := HF.out.m.cs.c7
  have c24 := HF.out.m.cs.c24
  rw [h11] at c0
  go_wp2_with (first | (refine st_yes (v := .agg (M.cells m)) (by rfl) rfl (run_loadM (x := .tmp 1) rfl rfl HF.out.m) ?_))
  refine (P2.out _ HM.out).mono ?_
  rintro r w' ⟨rfl, hb⟩
  have HM := Lib.hid (HM.out.below hb)
  have HF := Lib.hid (HF.out.call hb)
  clear hb c0 c5 c6 c7 c24
  have c0 := HF.out.m.cs.c0
  have c5 := HF.out.m.cs.c5
  have c6 := HF.out.m.cs.c6
  have c7 := HF.out.m.cs.c7
  have c24 := HF.out.m.cs.c24
  rw [h11] at c0
  go_wp2_with (first | (refine st_yes (v := .agg (M.cells m)) (by rfl) rfl (run_loadM (x := .tmp 1) rfl rfl HF.out.m) ?_))
  refine (P4.out _).mono ?_
  rintro r w' ⟨rfl, hb⟩
  have HM := Lib.hid (HM.out.below hb)
  have HF := Lib.hid (HF.out.call hb)
  clear hb c0 c5 c6 c7 c24
  have c0 := HF.out.m.cs.c0
  have c5 := HF.out.m.cs.c5
  have c6 := HF.out.m.cs.c6
  have c7 := HF.out.m.cs.c7
  have c24 := HF.out.m.cs.c24
  rw [h11] at c0
  go_wp2_with (first | (refine st_yes (v := .agg (M.cells m)) (by rfl) rfl (run_loadM (x := .tmp 1) rfl rfl HF.out.m) ?_))
  refine (P5.out _).mono ?_
  rintro r w' ⟨rfl, hb⟩
  have HM := Lib.hid (HM.out.below hb)
  have HF := Lib.hid (HF.out.call hb)
  clear hb c0 c5 c6 c7 c24
  have c0 := HF.out.m.cs.c0
  have c5 := HF.out.m.cs.c5
  have c6 := HF.out.m.cs.c6
  have c7 := HF.out.m.cs.c7
  have c24 := HF.out.m.cs.c24
  rw [h11] at c0
  go_wp2_with (first | (refine st_yes (v := .agg (M.cells m)) (by rfl) rfl (run_loadM (x := .tmp 1) rfl rfl HF.out.m) ?_))
  go_ret
  exact ⟨bool_eq HK.out.symm, HF.out.bel⟩
end Go.Proofs.YteecialdkfaejaaGreatDoor.K2
namespace Go.Proofs.YteecialdkfaejaaGreatDoor.Rg
open Go.ChangeShapes Go.WideShapes Go.ChangeAt Go.RowKit
open Go.Proofs.YteecialdkfaejaaGreatDoor.Ms
open Go.Proofs.YteecialdkfaejaaGreatDoor.Box
open Go.Proofs.YteecialdkfaejaaGreatDoor.Cur (numL num_yes num_no text_yes text_no hasB)
open Go.Proofs.YteecialdkfaejaaGreatDoor.Bk (Bk cur cur_one)
set_option linter.unusedVariables false
set_option maxRecDepth 100000
set_option maxRecDepth 100000
/-- May k bytes be taken at a place? -/
def okR (s : ByteArray) (p : Nat × Bool) (k : Nat) : Bool := !p.2 && decide (p.1 + k ≤ s.size)
/-- The place behind; the number, the text there. -/
def nx (s : ByteArray) (k : Nat) (p : Nat × Bool) : Nat × Bool := if okR s p k then (p.1 + k, false) else (p.1, true)
def rdV (s : ByteArray) (p : Nat × Bool) (k : Nat) : Int := if okR s p k then ((numL ((s.data.toList.drop p.1).take k) : Nat) : Int) else 0
def rdT (s : ByteArray) (p : Nat × Bool) (k : Nat) : ByteArray := if okR s p k then s.extract p.1 (p.1 + k) else ⟨#[]⟩
theorem ok_yes {s : ByteArray} {a k : Nat} (h : a + k ≤ s.size) : okR s (a, false) k = true := by unfold okR; simp [h]
theorem ok_no {s : ByteArray} {a k : Nat} (h : ¬ a + k ≤ s.size) : okR s (a, false) k = false := by unfold okR; simp; omega
theorem ok_bad (s : ByteArray) (a k : Nat) : okR s (a, true) k = false := rfl
theorem ok_cases {s : ByteArray} {a k : Nat} {y : Bool} (h : okR s (a, y) k = true) : y = false ∧ a + k ≤ s.size := by unfold okR at h; simpa using h
theorem nx_yes {s : ByteArray} {a k : Nat} (h : a + k ≤ s.size) : nx s k (a, false) = (a + k, false) := by unfold nx; rw [if_pos (ok_yes h)]
theorem nx_no {s : ByteArray} {a k : Nat} (h : ¬ a + k ≤ s.size) : nx s k (a, false) = (a, true) := by unfold nx; rw [ok_no h]; rfl
theorem nx_bad {s : ByteArray} {k : Nat} {p : Nat × Bool} (h : p.2 = true) : (nx s k p).2 = true := by
  obtain ⟨a, y⟩ := p
  simp only [] at h
  subst h
  unfold nx; rw [ok_bad]; rfl
theorem v_yes {s : ByteArray} {a k : Nat} (h : a + k ≤ s.size) : rdV s (a, false) k = ((numL ((s.data.toList.drop a).take k) : Nat) : Int) := by unfold rdV; rw [if_pos (ok_yes h)]
theorem t_yes {s : ByteArray} {a k : Nat} (h : a + k ≤ s.size) : rdT s (a, false) k = s.extract a (a + k) := by unfold rdT; rw [if_pos (ok_yes h)]
theorem v_no {s : ByteArray} {p : Nat × Bool} {k : Nat} (h : okR s p k = false) : rdV s p k = 0 := by unfold rdV; rw [h]; rfl
theorem t_no {s : ByteArray} {p : Nat × Bool} {k : Nat} (h : okR s p k = false) : rdT s p k = ⟨#[]⟩ := by unfold rdT; rw [h]; rfl
theorem nx_le {s : ByteArray} {k : Nat} {p : Nat × Bool} (h : p.1 ≤ s.size) : (nx s k p).1 ≤ s.size := by
  obtain ⟨a, y⟩ := p
  unfold nx
  cases hk : okR s (a, y) k
  · exact h
  · obtain ⟨_, h2⟩ := ok_cases hk
    exact h2
theorem has_no {s : ByteArray} {a k : Nat} {y : Bool} (hk : okR s (a, y) k = false) : hasB a s.size k y = false := by
  cases y with
  | true => rfl
  | false =>
    have h : ¬ a + k ≤ s.size := fun h => by rw [ok_yes h] at hk; cases hk
    unfold hasB
    simp
    omega
theorem cnum (s : ByteArray) (p : Nat × Bool) (k : Nat) (ki : Int) (hki : ki = k) (hs : s.size ≤ maxLen) (hp : p.1 ≤ s.size) (h1 : 1 ≤ k) (h7 : k ≤ 7) (w : World) :
    Calls Tryz.prog 104 #[.agg #[.string s, .int .i64 (p.1 : Int), .int .i64 (s.size : Int), .bool p.2], .int .i64 ki] w fun e w' => e = .returned (.tuple #[.int .i64 (rdV s p k), .agg #[.string s, .int .i64 ((nx s k p).1 : Int), .int .i64 (s.size : Int), .bool (nx s k p).2]]) ∧ Below w.heap.size w w' := by
  subst hki
  obtain ⟨a, y⟩ := p
  cases hk : okR s (a, y) k
  · have := num_no s a s.size k y w hs hp (Nat.le_refl _) (has_no hk) (by omega) (by omega)
    rw [v_no hk, show nx s k (a, y) = (a, true) by unfold nx; rw [hk]; rfl]
    exact this
  · obtain ⟨rfl, h⟩ := ok_cases hk
    have := num_yes s a s.size k w hs hp (Nat.le_refl _) h h1 h7
    rw [v_yes h, nx_yes h]
    exact this
theorem ctext (s : ByteArray) (p : Nat × Bool) (k : Nat) (ki : Int) (hki : ki = k) (hs : s.size ≤ maxLen) (hp : p.1 ≤ s.size) (w : World) :
    Calls Tryz.prog 105 #[.agg #[.string s, .int .i64 (p.1 : Int), .int .i64 (s.size : Int), .bool p.2], .int .i64 ki] w fun e w' => e = .returned (.tuple #[.string (rdT s p k), .agg #[.string s, .int .i64 ((nx s k p).1 : Int), .int .i64 (s.size : Int), .bool (nx s k p).2]]) ∧ Below w.heap.size w w' := by
  subst hki
  obtain ⟨a, y⟩ := p
  cases hk : okR s (a, y) k
  · have := text_no s a s.size k y w hs hp (Nat.le_refl _) (has_no hk)
    rw [t_no hk, show nx s k (a, y) = (a, true) by unfold nx; rw [hk]; rfl]
    exact this
  · obtain ⟨rfl, h⟩ := ok_cases hk
    have := text_yes s a s.size k w hs hp (Nat.le_refl _) h
    rw [t_yes h, nx_yes h]
    exact this
/-- Nothing below B is changed, but block b. -/
structure Bel (B b : Nat) (w w' : World) : Prop where
  os : w'.os = w.os
  tape : w'.tape = w.tape
  output : w'.output = w.output
  size : w.heap.size ≤ w'.heap.size
  block : ∀ k, k < B → k ≠ b → w'.heap[k]? = w.heap[k]?
section
variable {B b : Nat} {w w' w'' : World}
theorem Bel.trans (h : Bel B b w w') (k : Bel B b w' w'') : Bel B b w w'' := ⟨k.os.trans h.os, k.tape.trans h.tape, k.output.trans h.output, Nat.le_trans h.size k.size, fun i hi hn => (k.block i hi hn).trans (h.block i hi hn)⟩
theorem Bel.mono {B' : Nat} (h : Bel B b w w') (hB : B' ≤ B) : Bel B' b w w' := ⟨h.os, h.tape, h.output, h.size, fun k hk => h.block k (by omega)⟩
theorem Bel.of (h : Below B w w') : Bel B b w w' := ⟨h.os, h.tape, h.output, h.size, fun k hk _ => h.block k hk⟩
theorem Bel.to {C : Nat} (h : Bel B b w w') (hB : C ≤ B) (hb : C ≤ b) : Below C w w' := ⟨h.os, h.tape, h.output, h.size, fun k hk => h.block k (by omega) (by omega)⟩
theorem Bel.rowb (B : Nat) (cs : Array Value) : Bel B b w (w.setRow b cs) := ⟨rfl, rfl, rfl, by simp, fun k _ hn => setRow_other w b k cs hn⟩
theorem Bel.row {g : Nat} (h : Bel B b w w') (hg : B ≤ g) (cs : Array Value) : Bel B b w (w'.setRow g cs) := h.trans ⟨rfl, rfl, rfl, by simp, fun k hk _ => setRow_other w' g k cs (by omega)⟩
theorem Bel.cell {p : Addr} (h : Bel B b w w') (hg : B ≤ p.block) (v : Value) : Bel B b w (w'.setCell p v) := h.trans ⟨rfl, rfl, rfl, by simp [World.setCell], fun k hk _ => heap_setCell_other w' p k v (by omega)⟩
theorem Bel.bk {T : TypeId} {g : Nat} {cs : Array Value} (h : Bel w.heap.size b w w') (hn : g ≠ b) (hm : Bk T w g cs) : Bk T w' g cs := (h.block g hm.lt hn).trans hm
end
/-- A reader's cells. -/
def cu (s : ByteArray) (p : Nat × Bool) : Array Value := cur s (p.1 : Int) (s.size : Int) p.2
end Go.Proofs.YteecialdkfaejaaGreatDoor.Rg
namespace Go.Proofs.YteecialdkfaejaaGreatDoor.J4
open Go.ChangeShapes Go.WideShapes Go.ChangeAt Go.RowKit
open Go.Proofs.YteecialdkfaejaaGreatDoor.Ms
open Go.Proofs.YteecialdkfaejaaGreatDoor.Box
open Go.Proofs.YteecialdkfaejaaGreatDoor.Nu
open Go.Proofs.YteecialdkfaejaaGreatDoor.J1
open Go.Proofs.YteecialdkfaejaaGreatDoor.J2
open Go.Proofs.YteecialdkfaejaaGreatDoor.An
open Go.Proofs.YteecialdkfaejaaGreatDoor.Tc
open Go.Proofs.YteecialdkfaejaaGreatDoor.Rg
open Go.Proofs.YteecialdkfaejaaGreatDoor.F1 (bt bt_nn bt_lt num_one)
open Go.Proofs.YteecialdkfaejaaGreatDoor.Cur (numL left_ok)
open Go.Proofs.YteecialdkfaejaaGreatDoor.Bk (Bk Sh shC cur cur_one loadVarK wpList_builtK wpList_loadK wpList_storeK run_loadK alloc_size results_one results_pair)
open Go.Proofs.YteecialdkfaejaaGreatDoor.Hs
set_option linter.unusedVariables false
set_option maxRecDepth 100000
set_option maxRecDepth 100000
theorem _root_.Go.Proofs.YteecialdkfaejaaGreatDoor.Rg.Bel.tab {B b : Nat} {w w' : World} (h : Bel B b w w') (hB : 1 < B) (hb : 1 < b) (ht : Tab w) : Tab w' := ht.under (h.to (C := 2) (by omega) (by omega)) (by omega)
/-- What a call on the reader in block b leaves: the answer, the place. -/
def Took (v : Value) (s : ByteArray) (p : Nat × Bool) (b : Nat) (w : World) (e : Ending) (w' : World) : Prop := e = .returned v ∧ Bk 105 w' b (cu s p) ∧ Bel w.heap.size b w w'
set_option maxHeartbeats 800000 in
theorem rdnum (s : ByteArray) (p : Nat × Bool) (k b : Nat) (ki : Int) (hki : ki = k) (hs : s.size ≤ maxLen) (hp : p.1 ≤ s.size) (h4 : 1 ≤ k) (h5 : k ≤ 7) (w : World) (hb : Bk 105 w b (cu s p)) :
    Calls Tryz.prog 96 #[.pointer (some ⟨b, 0, none⟩), .int .i64 ki] w (Took (.int .i64 (rdV s p k)) s (nx s k p) b w) := by
  have P := Lib.hid (cnum s p k ki hki hs hp h4 h5 w)
  have HQ := Lib.hid (show cu s (nx s k p) = #[.string s, .int .i64 ((nx s k p).1 : Int), .int .i64 (s.size : Int), .bool (nx s k p).2] from rfl)
  have HB := Lib.hid hb
  have hlt := hb.lt
  clear hb hki hp
  unfold Took
  generalize rdV s p k = v at *
  generalize nx s k p = q at *
  rw [HQ.out]
  clear HQ
  go_enter Tryz.func96, Tryz.ntmps96
  go_wp2_with (first | (refine wpList_loadK shC rfl _ rfl rfl HB.out rfl ?_))
  refine P.out.mono ?_
  rintro e w1 ⟨rfl, hb1⟩
  have HB1 := Lib.hid (HB.out.below hb1)
  have hlt1 := HB1.out.lt
  go_wp2_with (first | (refine wpList_storeK (b := b) shC rfl _ _ rfl rfl rfl (HB1.out.old _) rfl rfl (cur_one s (q.1 : Int) s.size q.2) ?_))
  go_ret
  exact ⟨rfl, (HB1.out.old _).put _, (Bel.of (hb1.alloc hb1.size _)).trans (Bel.rowb _ _)⟩
set_option maxHeartbeats 800000 in
theorem rdtext (s : ByteArray) (p : Nat × Bool) (k b : Nat) (ki : Int) (hki : ki = k) (hs : s.size ≤ maxLen) (hp : p.1 ≤ s.size) (w : World) (hb : Bk 105 w b (cu s p)) :
    Calls Tryz.prog 98 #[.pointer (some ⟨b, 0, none⟩), .int .i64 ki] w (Took (.string (rdT s p k)) s (nx s k p) b w) := by
  have P := Lib.hid (ctext s p k ki hki hs hp w)
  have HQ := Lib.hid (show cu s (nx s k p) = #[.string s, .int .i64 ((nx s k p).1 : Int), .int .i64 (s.size : Int), .bool (nx s k p).2] from rfl)
  have HB := Lib.hid hb
  have hlt := hb.lt
  clear hb hki hp
  unfold Took
  generalize rdT s p k = v at *
  generalize nx s k p = q at *
  rw [HQ.out]
  clear HQ
  go_enter Tryz.func98, Tryz.ntmps98
  go_wp2_with (first | (refine wpList_loadK shC rfl _ rfl rfl HB.out rfl ?_))
  refine P.out.mono ?_
  rintro e w1 ⟨rfl, hb1⟩
  have HB1 := Lib.hid (HB.out.below hb1)
  have hlt1 := HB1.out.lt
  go_wp2_with (first | (refine wpList_storeK (b := b) shC rfl _ _ rfl rfl rfl (HB1.out.old _) rfl rfl (cur_one s (q.1 : Int) s.size q.2) ?_))
  go_ret
  exact ⟨rfl, (HB1.out.old _).put _, (Bel.of (hb1.alloc hb1.size _)).trans (Bel.rowb _ _)⟩
set_option maxHeartbeats 800000 in
theorem rest_any (s : ByteArray) (a b : Nat) (hs : s.size ≤ maxLen) (ha : a ≤ s.size) (w : World) (hb : Bk 105 w b (cu s (a, false))) :
    Calls Tryz.prog 99 #[.pointer (some ⟨b, 0, none⟩)] w (Took (.string (s.extract a s.size)) s (s.size, false) b w) := by
  have hm := hs
  unfold maxLen at hm
  have PL := Lib.hid (left_ok s a s.size w)
  rw [IntWalk.wrap64_in _ ⟨by omega, by omega⟩] at PL
  have PT := Lib.hid (fun V (h : Bk 105 V b (cu s (a, false))) => rdtext s (a, false) (s.size - a) b ((s.size : Int) - a) (by omega) hs ha V h)
  have e1 : nx s (s.size - a) (a, false) = (s.size, false) := by rw [nx_yes (by omega)]; simp; omega
  have e2 : rdT s (a, false) (s.size - a) = s.extract a s.size := by rw [t_yes (by omega)]; congr 1; omega
  rw [e1, e2] at PT
  have HB := Lib.hid hb
  clear hb hs hm ha e1 e2
  go_enter Tryz.func99, Tryz.ntmps99
  go_wp2_with (first | (refine wpList_loadK shC rfl _ rfl rfl HB.out rfl ?_))
  refine PL.out.mono ?_
  rintro e w1 ⟨rfl, hb1⟩
  have HB := Lib.hid (HB.out.below hb1)
  have HL := Lib.hid (show Bel w.heap.size b w w1 from Bel.of hb1)
  have hsz := hb1.size
  clear hb1 PL
  go_wp2_with fail
  refine (PT.out _ HB.out).mono ?_
  rintro e w2 ⟨rfl, h1, h2⟩
  have HX := Lib.hid h1
  have HL := Lib.hid (HL.out.trans (h2.mono hsz))
  clear h1 h2
  go_wp2
  go_ret
  exact ⟨rfl, HX.out, HL.out⟩
/-- What stands in the middle of fields: the answer's block, the cells in block mb (a struct of the type T), the reader in block b. -/
structure R (T : TypeId) (w0 W : World) (b mb : Nat) (s : ByteArray) (zs cs : Array Value) (p : Nat × Bool) : Prop where
  msg : Bk T W mb cs
  rd : Bk 105 W b (cu s p)
  res : Bk T W w0.heap.size zs
  o1 : w0.heap.size < mb
  o2 : b < w0.heap.size
  bel : Bel w0.heap.size b w0 W
  le : p.1 ≤ s.size
section
variable {T : TypeId} {w0 W W' : World} {b mb : Nat} {s : ByteArray} {zs cs cs' : Array Value} {p p' : Nat × Bool}
theorem R.step {v : Value} {k : Nat} {e : Ending} (g : R T w0 W b mb s zs cs p) (h : Took v s (nx s k p) b W e W') : R T w0 W' b mb s zs cs (nx s k p) :=
  ⟨h.2.2.bk (by have := g.o1; have := g.o2; omega) g.msg, h.2.1, h.2.2.bk (by have := g.o2; omega) g.res, g.o1, g.o2, g.bel.trans (h.2.2.mono g.bel.size), nx_le g.le⟩
theorem R.set (g : R T w0 W b mb s zs cs p) {i : Nat} {v : Value} (hm : cs.setIfInBounds i v = cs') : R T w0 (W.setCell ⟨mb, i, none⟩ v) b mb s zs cs' p :=
  ⟨g.msg.set hm, g.rd.off (by have := g.o1; have := g.o2; show b ≠ mb; omega) _, g.res.off (by have := g.o1; show w0.heap.size ≠ mb; omega) _, g.o1, g.o2, g.bel.cell (p := ⟨mb, i, none⟩) (by have := g.o1; show w0.heap.size ≤ mb; omega) _, g.le⟩
theorem R.start (w : World) (s : ByteArray) (zs m0 : Array Value) (hb : Bk 105 w b (cu s p)) (hp : p.1 ≤ s.size) :
    R T w (((w.alloc (.cells zs T)).alloc (.cells zs T)).setRow (w.heap.size + 1) m0) b (w.heap.size + 1) s zs m0 p := by
  have A := Bk.Bk.new T (w.alloc (.cells zs T)) zs
  rw [alloc_size] at A
  have hl := hb.lt
  exact ⟨A.put _, ((hb.old _).old _).row (by omega) _, ((Bk.Bk.new T w zs).old _).row (by omega) _, by omega, hl,
    (Bel.of (balloc (balloc (Below.refl _ w) _) _)).row (by omega) _, hp⟩
theorem R.plain (w : World) (s : ByteArray) (zs : Array Value) (hb : Bk 105 w b (cu s p)) (hp : p.1 ≤ s.size) :
    R T w ((w.alloc (.cells zs T)).alloc (.cells zs T)) b (w.heap.size + 1) s zs zs p := by
  have A := Bk.Bk.new T (w.alloc (.cells zs T)) zs
  rw [alloc_size] at A
  have hl := hb.lt
  exact ⟨A, (hb.old _).old _, (Bk.Bk.new T w zs).old _, by omega, hl, Bel.of (balloc (balloc (Below.refl _ w) _) _), hp⟩
theorem R.ends (g : R T w0 W b mb s zs cs p) (r : Array Value) : Bk T (W.setRow w0.heap.size r) w0.heap.size r ∧ Bk 105 (W.setRow w0.heap.size r) b (cu s p) ∧ Bel w0.heap.size b w0 (W.setRow w0.heap.size r) :=
  ⟨g.res.put _, g.rd.row (by have := g.o2; omega) _, g.bel.row (Nat.le_refl _) _⟩
end
theorem shU : Sh Tryz.prog 74 10 := ⟨_, Tryz.underlying74, by kernel_rfl⟩
theorem oneU (x : Up) : (x.cells.all fun x => x.oneCell') = true := by simp [Up.cells, Value.oneCell']
theorem wpList_loadU {ops : Array Oper} {rest : List Oper} {o : Oper} {a : Act} {w : World} {Q : Exit → Act → World → Prop} (hgd : o.guard = none) (x : Operand) (ho : o.op = .load 74 x) {b : Nat} (hx : a.eval x = .pointer (some ⟨b, 0, none⟩)) {m : Up} (hb : Bk 74 w b m.cells)
    (h : wpList Tryz.prog ops Q rest (a.put o.dst (.agg m.cells)) w) : wpList Tryz.prog ops Q (o :: rest) a w := wpList_loadK shU hgd x ho hx hb rfl h
theorem wpList_storeU {ops : Array Oper} {rest : List Oper} {o : Oper} {a : Act} {w : World} {Q : Exit → Act → World → Prop} (hgd : o.guard = none) (x y : Operand) (ho : o.op = .store 74 x y) {b : Nat} (hx : a.eval x = .pointer (some ⟨b, 0, none⟩)) {m m' : Up} (hy : a.eval y = .agg m'.cells) (hb : Bk 74 w b m.cells)
    (h : wpList Tryz.prog ops Q rest (a.put o.dst undef) (w.setRow b m'.cells)) : wpList Tryz.prog ops Q (o :: rest) a w := wpList_storeK shU hgd x y ho hx hy hb rfl rfl (oneU m') h
/-- What update takes. -/
def R8 (s : ByteArray) : Up := { Up.zero with ae := (rdV s (0, false) 1), flags := (rdV s (nx s 1 (0, false)) 1), plen := (rdV s (nx s 1 (nx s 1 (0, false))) 1), om := (rdV s (nx s 1 (nx s 1 (nx s 1 (0, false)))) 1), iv := (rdV s (nx s 1 (nx s 1 (nx s 1 (nx s 1 (0, false))))) 2), seq := (rdV s (nx s 2 (nx s 1 (nx s 1 (nx s 1 (nx s 1 (0, false)))))) 2), metric := (rdV s (nx s 2 (nx s 2 (nx s 1 (nx s 1 (nx s 1 (nx s 1 (0, false))))))) 2) }
set_option maxHeartbeats 6400000 in
theorem update_any (s : ByteArray) (b : Nat) (hs : s.size ≤ maxLen) (w : World) (hb : Bk 105 w b (cu s (0, false))) :
    Calls Tryz.prog 85 #[.pointer (some ⟨b, 0, none⟩)] w (Took (.agg (R8 s).cells) s (nx s 2 (nx s 2 (nx s 2 (nx s 1 (nx s 1 (nx s 1 (nx s 1 (0, false)))))))) b w) := by
  show Calls _ _ _ _ (Took (.agg (Up.cells ({ Up.zero with ae := (rdV s (0, false) 1), flags := (rdV s (nx s 1 (0, false)) 1), plen := (rdV s (nx s 1 (nx s 1 (0, false))) 1), om := (rdV s (nx s 1 (nx s 1 (nx s 1 (0, false)))) 1), iv := (rdV s (nx s 1 (nx s 1 (nx s 1 (nx s 1 (0, false))))) 2), seq := (rdV s (nx s 2 (nx s 1 (nx s 1 (nx s 1 (nx s 1 (0, false)))))) 2), metric := (rdV s (nx s 2 (nx s 2 (nx s 1 (nx s 1 (nx s 1 (nx s 1 (0, false))))))) 2) } : Up))) s (nx s 2 (nx s 2 (nx s 2 (nx s 1 (nx s 1 (nx s 1 (nx s 1 (0, false)))))))) b w)
  go_enter Tryz.func85, Tryz.ntmps85
  go_upto_region 2 with fail
  change Code.wp _ _ _ _ ((w.alloc (.cells Up.zero.cells 74)).alloc (.cells Up.zero.cells 74))
  have hz := alloc_size w (.cells Up.zero.cells 74)
  have HG := Lib.hid (R.plain (T := 74) w s Up.zero.cells hb (Nat.zero_le _))
  clear hb
  generalize (w.alloc (.cells Up.zero.cells 74)).alloc (.cells Up.zero.cells 74) = V at *
  try rw [hz]
  clear hz
  go_wp2_with fail
  refine (rdnum s (0, false) 1 b 1 rfl hs HG.out.le (by omega) (by omega) _ HG.out.rd).mono ?_
  intro e V9 ht
  have G0 := HG.out.step ht
  obtain ⟨rfl, ht⟩ := ht
  clear ht HG
  have d := G0.msg.cell 0 (.int .i64 0) rfl
  have fd := G0.msg.frozen 0
  have HG := Lib.hid (show R 74 w (V9.setCell ⟨w.heap.size + 1, 0, none⟩ (.int .i64 (rdV s (0, false) 1))) b (w.heap.size + 1) s Up.zero.cells (Up.cells ({ Up.zero with ae := (rdV s (0, false) 1) } : Up)) (nx s 1 (0, false)) from G0.set rfl)
  clear G0
  go_upto_region 3 with fail
  clear d fd
  generalize V9.setCell ⟨w.heap.size + 1, 0, none⟩ (.int .i64 (rdV s (0, false) 1)) = W9 at *
  go_wp2_with fail
  refine (rdnum s (nx s 1 (0, false)) 1 b 1 rfl hs HG.out.le (by omega) (by omega) _ HG.out.rd).mono ?_
  intro e V10 ht
  have G0 := HG.out.step ht
  obtain ⟨rfl, ht⟩ := ht
  clear ht HG
  have d := G0.msg.cell 1 (.int .i64 0) rfl
  have fd := G0.msg.frozen 1
  have HG := Lib.hid (show R 74 w (V10.setCell ⟨w.heap.size + 1, 1, none⟩ (.int .i64 (rdV s (nx s 1 (0, false)) 1))) b (w.heap.size + 1) s Up.zero.cells (Up.cells ({ Up.zero with ae := (rdV s (0, false) 1), flags := (rdV s (nx s 1 (0, false)) 1) } : Up)) (nx s 1 (nx s 1 (0, false))) from G0.set rfl)
  clear G0
  go_upto_region 4 with fail
  clear d fd
  generalize V10.setCell ⟨w.heap.size + 1, 1, none⟩ (.int .i64 (rdV s (nx s 1 (0, false)) 1)) = W10 at *
  go_wp2_with fail
  refine (rdnum s (nx s 1 (nx s 1 (0, false))) 1 b 1 rfl hs HG.out.le (by omega) (by omega) _ HG.out.rd).mono ?_
  intro e V11 ht
  have G0 := HG.out.step ht
  obtain ⟨rfl, ht⟩ := ht
  clear ht HG
  have d := G0.msg.cell 2 (.int .i64 0) rfl
  have fd := G0.msg.frozen 2
  have HG := Lib.hid (show R 74 w (V11.setCell ⟨w.heap.size + 1, 2, none⟩ (.int .i64 (rdV s (nx s 1 (nx s 1 (0, false))) 1))) b (w.heap.size + 1) s Up.zero.cells (Up.cells ({ Up.zero with ae := (rdV s (0, false) 1), flags := (rdV s (nx s 1 (0, false)) 1), plen := (rdV s (nx s 1 (nx s 1 (0, false))) 1) } : Up)) (nx s 1 (nx s 1 (nx s 1 (0, false)))) from G0.set rfl)
  clear G0
  go_upto_region 5 with fail
  clear d fd
  generalize V11.setCell ⟨w.heap.size + 1, 2, none⟩ (.int .i64 (rdV s (nx s 1 (nx s 1 (0, false))) 1)) = W11 at *
  go_wp2_with fail
  refine (rdnum s (nx s 1 (nx s 1 (nx s 1 (0, false)))) 1 b 1 rfl hs HG.out.le (by omega) (by omega) _ HG.out.rd).mono ?_
  intro e V12 ht
  have G0 := HG.out.step ht
  obtain ⟨rfl, ht⟩ := ht
  clear ht HG
  have d := G0.msg.cell 3 (.int .i64 0) rfl
  have fd := G0.msg.frozen 3
  have HG := Lib.hid (show R 74 w (V12.setCell ⟨w.heap.size + 1, 3, none⟩ (.int .i64 (rdV s (nx s 1 (nx s 1 (nx s 1 (0, false)))) 1))) b (w.heap.size + 1) s Up.zero.cells (Up.cells ({ Up.zero with ae := (rdV s (0, false) 1), flags := (rdV s (nx s 1 (0, false)) 1), plen := (rdV s (nx s 1 (nx s 1 (0, false))) 1), om := (rdV s (nx s 1 (nx s 1 (nx s 1 (0, false)))) 1) } : Up)) (nx s 1 (nx s 1 (nx s 1 (nx s 1 (0, false))))) from G0.set rfl)
  clear G0
  go_upto_region 6 with fail
  clear d fd
  generalize V12.setCell ⟨w.heap.size + 1, 3, none⟩ (.int .i64 (rdV s (nx s 1 (nx s 1 (nx s 1 (0, false)))) 1)) = W12 at *
  go_wp2_with fail
  refine (rdnum s (nx s 1 (nx s 1 (nx s 1 (nx s 1 (0, false))))) 2 b 2 rfl hs HG.out.le (by omega) (by omega) _ HG.out.rd).mono ?_
  intro e V13 ht
  have G0 := HG.out.step ht
  obtain ⟨rfl, ht⟩ := ht
  clear ht HG
  have d := G0.msg.cell 4 (.int .i64 0) rfl
  have fd := G0.msg.frozen 4
  have HG := Lib.hid (show R 74 w (V13.setCell ⟨w.heap.size + 1, 4, none⟩ (.int .i64 (rdV s (nx s 1 (nx s 1 (nx s 1 (nx s 1 (0, false))))) 2))) b (w.heap.size + 1) s Up.zero.cells (Up.cells ({ Up.zero with ae := (rdV s (0, false) 1), flags := (rdV s (nx s 1 (0, false)) 1), plen := (rdV s (nx s 1 (nx s 1 (0, false))) 1), om := (rdV s (nx s 1 (nx s 1 (nx s 1 (0, false)))) 1), iv := (rdV s (nx s 1 (nx s 1 (nx s 1 (nx s 1 (0, false))))) 2) } : Up)) (nx s 2 (nx s 1 (nx s 1 (nx s 1 (nx s 1 (0, false)))))) from G0.set rfl)
  clear G0
  go_upto_region 7 with fail
  clear d fd
  generalize V13.setCell ⟨w.heap.size + 1, 4, none⟩ (.int .i64 (rdV s (nx s 1 (nx s 1 (nx s 1 (nx s 1 (0, false))))) 2)) = W13 at *
  go_wp2_with fail
  refine (rdnum s (nx s 2 (nx s 1 (nx s 1 (nx s 1 (nx s 1 (0, false)))))) 2 b 2 rfl hs HG.out.le (by omega) (by omega) _ HG.out.rd).mono ?_
  intro e V14 ht
  have G0 := HG.out.step ht
  obtain ⟨rfl, ht⟩ := ht
  clear ht HG
  have d := G0.msg.cell 5 (.int .i64 0) rfl
  have fd := G0.msg.frozen 5
  have HG := Lib.hid (show R 74 w (V14.setCell ⟨w.heap.size + 1, 5, none⟩ (.int .i64 (rdV s (nx s 2 (nx s 1 (nx s 1 (nx s 1 (nx s 1 (0, false)))))) 2))) b (w.heap.size + 1) s Up.zero.cells (Up.cells ({ Up.zero with ae := (rdV s (0, false) 1), flags := (rdV s (nx s 1 (0, false)) 1), plen := (rdV s (nx s 1 (nx s 1 (0, false))) 1), om := (rdV s (nx s 1 (nx s 1 (nx s 1 (0, false)))) 1), iv := (rdV s (nx s 1 (nx s 1 (nx s 1 (nx s 1 (0, false))))) 2), seq := (rdV s (nx s 2 (nx s 1 (nx s 1 (nx s 1 (nx s 1 (0, false)))))) 2) } : Up)) (nx s 2 (nx s 2 (nx s 1 (nx s 1 (nx s 1 (nx s 1 (0, false))))))) from G0.set rfl)
  clear G0
  go_upto_region 8 with fail
  clear d fd
  generalize V14.setCell ⟨w.heap.size + 1, 5, none⟩ (.int .i64 (rdV s (nx s 2 (nx s 1 (nx s 1 (nx s 1 (nx s 1 (0, false)))))) 2)) = W14 at *
  go_wp2_with fail
  refine (rdnum s (nx s 2 (nx s 2 (nx s 1 (nx s 1 (nx s 1 (nx s 1 (0, false))))))) 2 b 2 rfl hs HG.out.le (by omega) (by omega) _ HG.out.rd).mono ?_
  intro e V15 ht
  have G0 := HG.out.step ht
  obtain ⟨rfl, ht⟩ := ht
  clear ht HG
  have d := G0.msg.cell 6 (.int .i64 0) rfl
  have fd := G0.msg.frozen 6
  have HG := Lib.hid (show R 74 w (V15.setCell ⟨w.heap.size + 1, 6, none⟩ (.int .i64 (rdV s (nx s 2 (nx s 2 (nx s 1 (nx s 1 (nx s 1 (nx s 1 (0, false))))))) 2))) b (w.heap.size + 1) s Up.zero.cells (Up.cells ({ Up.zero with ae := (rdV s (0, false) 1), flags := (rdV s (nx s 1 (0, false)) 1), plen := (rdV s (nx s 1 (nx s 1 (0, false))) 1), om := (rdV s (nx s 1 (nx s 1 (nx s 1 (0, false)))) 1), iv := (rdV s (nx s 1 (nx s 1 (nx s 1 (nx s 1 (0, false))))) 2), seq := (rdV s (nx s 2 (nx s 1 (nx s 1 (nx s 1 (nx s 1 (0, false)))))) 2), metric := (rdV s (nx s 2 (nx s 2 (nx s 1 (nx s 1 (nx s 1 (nx s 1 (0, false))))))) 2) } : Up)) (nx s 2 (nx s 2 (nx s 2 (nx s 1 (nx s 1 (nx s 1 (nx s 1 (0, false)))))))) from G0.set rfl)
  clear G0
  go_upto_region 9 with fail
  clear d fd
  generalize V15.setCell ⟨w.heap.size + 1, 6, none⟩ (.int .i64 (rdV s (nx s 2 (nx s 2 (nx s 1 (nx s 1 (nx s 1 (nx s 1 (0, false))))))) 2)) = W15 at *
  have HE := Lib.hid (HG.out.ends (Up.cells ({ Up.zero with ae := (rdV s (0, false) 1), flags := (rdV s (nx s 1 (0, false)) 1), plen := (rdV s (nx s 1 (nx s 1 (0, false))) 1), om := (rdV s (nx s 1 (nx s 1 (nx s 1 (0, false)))) 1), iv := (rdV s (nx s 1 (nx s 1 (nx s 1 (nx s 1 (0, false))))) 2), seq := (rdV s (nx s 2 (nx s 1 (nx s 1 (nx s 1 (nx s 1 (0, false)))))) 2), metric := (rdV s (nx s 2 (nx s 2 (nx s 1 (nx s 1 (nx s 1 (nx s 1 (0, false))))))) 2) } : Up)))
  go_wp2_with (first | (refine wpList_loadU (b := w.heap.size + 1) (m := ({ Up.zero with ae := (rdV s (0, false) 1), flags := (rdV s (nx s 1 (0, false)) 1), plen := (rdV s (nx s 1 (nx s 1 (0, false))) 1), om := (rdV s (nx s 1 (nx s 1 (nx s 1 (0, false)))) 1), iv := (rdV s (nx s 1 (nx s 1 (nx s 1 (nx s 1 (0, false))))) 2), seq := (rdV s (nx s 2 (nx s 1 (nx s 1 (nx s 1 (nx s 1 (0, false)))))) 2), metric := (rdV s (nx s 2 (nx s 2 (nx s 1 (nx s 1 (nx s 1 (nx s 1 (0, false))))))) 2) } : Up)) rfl _ rfl rfl HG.out.msg ?_) | (refine wpList_storeU (b := w.heap.size) (m := Up.zero) (m' := ({ Up.zero with ae := (rdV s (0, false) 1), flags := (rdV s (nx s 1 (0, false)) 1), plen := (rdV s (nx s 1 (nx s 1 (0, false))) 1), om := (rdV s (nx s 1 (nx s 1 (nx s 1 (0, false)))) 1), iv := (rdV s (nx s 1 (nx s 1 (nx s 1 (nx s 1 (0, false))))) 2), seq := (rdV s (nx s 2 (nx s 1 (nx s 1 (nx s 1 (nx s 1 (0, false)))))) 2), metric := (rdV s (nx s 2 (nx s 2 (nx s 1 (nx s 1 (nx s 1 (nx s 1 (0, false))))))) 2) } : Up)) rfl _ _ rfl rfl rfl HG.out.res ?_))
  exact bodyPost_ret (v := .agg (Up.cells ({ Up.zero with ae := (rdV s (0, false) 1), flags := (rdV s (nx s 1 (0, false)) 1), plen := (rdV s (nx s 1 (nx s 1 (0, false))) 1), om := (rdV s (nx s 1 (nx s 1 (nx s 1 (0, false)))) 1), iv := (rdV s (nx s 1 (nx s 1 (nx s 1 (nx s 1 (0, false))))) 2), seq := (rdV s (nx s 2 (nx s 1 (nx s 1 (nx s 1 (nx s 1 (0, false)))))) 2), metric := (rdV s (nx s 2 (nx s 2 (nx s 1 (nx s 1 (nx s 1 (nx s 1 (0, false))))))) 2) } : Up))) (results_one rfl _ _ w.heap.size _ rfl shU HE.out.1 rfl) rfl ⟨rfl, HE.out.2.1, HE.out.2.2⟩
end Go.Proofs.YteecialdkfaejaaGreatDoor.J4
