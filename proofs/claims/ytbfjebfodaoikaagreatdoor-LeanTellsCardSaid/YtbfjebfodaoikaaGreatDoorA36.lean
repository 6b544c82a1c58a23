/-
  Whether what is known may be: the document's answer. No condition.
  The document's Take: the Update that a TLV is. Condition: at most 100000 bytes.
  The document's example; the cells of a list of one message. Condition: the variables have what they are laid with.
-/
import Derived.Test.YtbfjebfodaoikaaGreatDoorA01
import Derived.Test.YtbfjebfodaoikaaGreatDoorA02
import Derived.Test.YtbfjebfodaoikaaGreatDoorA03
import Derived.Test.YtbfjebfodaoikaaGreatDoorA10
import Derived.Test.YtbfjebfodaoikaaGreatDoorA12
import Derived.Test.YtbfjebfodaoikaaGreatDoorA13
import Derived.Test.YtbfjebfodaoikaaGreatDoorA16
import Derived.Test.YtbfjebfodaoikaaGreatDoorA24
namespace Go.Proofs.YtbfjebfodaoikaaGreatDoor.Ko
open Go.ChangeShapes Go.WideShapes Go.ChangeAt Go.RowKit
open Go.Proofs.YtbfjebfodaoikaaGreatDoor.Ms
open Go.Proofs.YtbfjebfodaoikaaGreatDoor.Lk (link rlink_bel)
open Go.Proofs.YtbfjebfodaoikaaGreatDoor.J1
open Go.Proofs.YtbfjebfodaoikaaGreatDoor.J2 (nil_eq nil_em size_eq)
open Go.Proofs.YtbfjebfodaoikaaGreatDoor.K1
open Go.Proofs.YtbfjebfodaoikaaGreatDoor.Kb
open Go.Proofs.YtbfjebfodaoikaaGreatDoor.K2
open Go.Proofs.YtbfjebfodaoikaaGreatDoor.Bk (Bk alloc_size)
set_option linter.unusedVariables false
set_option maxRecDepth 100000
set_option maxRecDepth 100000
theorem wpList_store4 {ops : Array Oper} {rest : List Oper} {o : Oper} {a : Act} {w : World} {Q : Exit → Act → World → Prop} (hgd : o.guard = none) (x y : Operand) (ho : o.op = .store 22 x y)
    {g : Nat} (hx : a.eval x = .pointer (some ⟨g, 0, none⟩)) {p q r s p' q' r' s' : ByteArray} (hy : a.eval y = .agg #[.string p', .string q', .string r', .string s']) (hb : Bk 22 w g #[.string p, .string q, .string r, .string s])
    (h : wpList Tryz.prog ops Q rest (a.put o.dst undef) (w.setRow g #[.string p', .string q', .string r', .string s'])) : wpList Tryz.prog ops Q (o :: rest) a w :=
  wpList_store_row hgd 22 x y ho g _ hx hy 22 _ hb (by kernel_rfl) rfl (by simp [Value.oneCell']) h
theorem ne_of {x : Int} {k : Int} {b : Bool} (h : (x == k) = b) : (x != k) = !b := by rw [bne, h]
set_option maxHeartbeats 12800000 in
theorem rok_any (c : Kx) (w : World) : Calls Tryz.prog 5 #[.agg c.cells] w fun e w' => e = .returned (.bool (okC c)) ∧ Below w.heap.size w w' := by
  have HK := Lib.hid (show okC c = (decide (c.p0.size = 0) && ((decide (c.p1.size = 0) || decide (c.p1.size = 4)) && ((decide (c.p2.size = 0) || decide (c.p2.size = 16)) && ((decide (c.p3.size = 0) || link c.p3) && ((decide (c.n0.size = 0) || decide (c.n0.size = 4)) && ((decide (c.n1.size = 0) || decide (c.n1.size = 16)) && (decide (c.id.size = 0) || decide (c.id.size = 8)))))))) from rfl)
  have C0 := Lib.hid (Bk.Bk.new 25 w c.cells)
  have HB := Lib.hid (balloc (Below.refl _ w) (.cells c.cells 25))
  have PL := Lib.hid (fun V => rlink_bel c.p3 V)
  have n0 := nil_eq c.p0
  have m0 := nil_em c.p0
  have n1 := nil_eq c.p1
  have m1 := nil_em c.p1
  have q1 : ((c.p1.size : Int) == 4) = decide (c.p1.size = 4) := size_eq c.p1 4
  have r1 := ne_of q1
  have n2 := nil_eq c.p2
  have m2 := nil_em c.p2
  have q2 : ((c.p2.size : Int) == 16) = decide (c.p2.size = 16) := size_eq c.p2 16
  have r2 := ne_of q2
  have n3 := nil_eq c.p3
  have m3 := nil_em c.p3
  have n4 := nil_eq c.n0
  have m4 := nil_em c.n0
  have q4 : ((c.n0.size : Int) == 4) = decide (c.n0.size = 4) := size_eq c.n0 4
  have r4 := ne_of q4
  have n5 := nil_eq c.n1
  have m5 := nil_em c.n1
  have q5 : ((c.n1.size : Int) == 16) = decide (c.n1.size = 16) := size_eq c.n1 16
  have r5 := ne_of q5
  have n6 := nil_eq c.id
  have m6 := nil_em c.id
  have q6 : ((c.id.size : Int) == 8) = decide (c.id.size = 8) := size_eq c.id 8
  have r6 := ne_of q6
  generalize okC c = y at *
  generalize decide (c.p0.size = 0) = z0 at *
  generalize decide (c.p1.size = 0) = z1 at *
  generalize decide (c.p1.size = 4) = s1 at *
  generalize decide (c.p2.size = 0) = z2 at *
  generalize decide (c.p2.size = 16) = s2 at *
  generalize decide (c.p3.size = 0) = z3 at *
  generalize decide (c.n0.size = 0) = z4 at *
  generalize decide (c.n0.size = 4) = s4 at *
  generalize decide (c.n1.size = 0) = z5 at *
  generalize decide (c.n1.size = 16) = s5 at *
  generalize decide (c.id.size = 0) = z6 at *
  generalize decide (c.id.size = 8) = s6 at *
  generalize link c.p3 = s3 at *
  go_enter Tryz.func5, Tryz.ntmps5
  go_upto_region 1 with fail
  change Code.wp _ _ _ _ (w.alloc (.cells c.cells 25))
  generalize w.alloc (.cells c.cells 25) = V at *
  go_upto_region 2 with (first | (refine wpList_loadAt (b := w.heap.size) (off := 0) (l := [.string c.p0, .string c.p1, .string c.p2, .string c.p3]) rfl _ rfl rfl C0.out (four_in c) (agg4 _) (size4 _) ?_) | (refine wpList_store4 (g := V.heap.size) rfl _ _ rfl rfl rfl (Bk.Bk.new 22 V #[.string ByteArray.empty, .string ByteArray.empty, .string ByteArray.empty, .string ByteArray.empty]) ?_))
  change Code.wp _ _ _ _ ((V.alloc (.cells #[.string ByteArray.empty, .string ByteArray.empty, .string ByteArray.empty, .string ByteArray.empty] 22)).setRow V.heap.size #[.string c.p0, .string c.p1, .string c.p2, .string c.p3])
  rw [World.setRow_alloc_new]
  have A0 := Lib.hid (Bk.Bk.new 22 V #[.string c.p0, .string c.p1, .string c.p2, .string c.p3])
  have bel := balloc (Below.refl V.heap.size V) (.cells #[.string c.p0, .string c.p1, .string c.p2, .string c.p3] 22)
  have C0 := Lib.hid (C0.out.below bel)
  have HB := Lib.hid (bcall HB.out bel)
  clear bel
  generalize V.alloc (.cells #[.string c.p0, .string c.p1, .string c.p2, .string c.p3] 22) = W at *
  generalize V.heap.size = g at *
  simp only [Act.put]
  go_cut [41] (fun m wx => m = .bool (!(z0 && ((z1 || s1) && ((z2 || s2) && (z3 || s3))))) ∧ Below W.heap.size W wx)
  case first =>
    have HB := Lib.hid (Below.refl W.heap.size W)
    have a0 := A0.out.cell 0 (.string c.p0) rfl
    have a1 := A0.out.cell 1 (.string c.p1) rfl
    have a2 := A0.out.cell 2 (.string c.p2) rfl
    have a3 := A0.out.cell 3 (.string c.p3) rfl
    clear A0 C0 HK
    cases z0
    rotate_left
    · cases z1
      rotate_left
      · cases z2
        rotate_left
        · cases z3
          rotate_left
          · go_wp2_with fail
            go_meet
            exact ⟨rfl, HB.out⟩
          cases s3
          · go_wp2_with fail
            refine (PL.out _).mono ?_
            rintro r w' ⟨rfl, hb⟩
            have HB := Lib.hid (bcall HB.out hb)
            clear hb
            go_wp2_with fail
            go_meet
            exact ⟨rfl, HB.out⟩
          go_wp2_with fail
          refine (PL.out _).mono ?_
          rintro r w' ⟨rfl, hb⟩
          have HB := Lib.hid (bcall HB.out hb)
          clear hb
          go_wp2_with fail
          go_meet
          exact ⟨rfl, HB.out⟩
        cases s2
        · go_wp2_with fail
          go_meet
          exact ⟨rfl, HB.out⟩
        cases z3
        rotate_left
        · go_wp2_with fail
          go_meet
          exact ⟨rfl, HB.out⟩
        cases s3
        · go_wp2_with fail
          refine (PL.out _).mono ?_
          rintro r w' ⟨rfl, hb⟩
          have HB := Lib.hid (bcall HB.out hb)
          clear hb
          go_wp2_with fail
          go_meet
          exact ⟨rfl, HB.out⟩
        go_wp2_with fail
        refine (PL.out _).mono ?_
        rintro r w' ⟨rfl, hb⟩
        have HB := Lib.hid (bcall HB.out hb)
        clear hb
        go_wp2_with fail
        go_meet
        exact ⟨rfl, HB.out⟩
      cases s1
      · go_wp2_with fail
        go_meet
        exact ⟨rfl, HB.out⟩
      cases z2
      rotate_left
      · cases z3
        rotate_left
        · go_wp2_with fail
          go_meet
          exact ⟨rfl, HB.out⟩
        cases s3
        · go_wp2_with fail
          refine (PL.out _).mono ?_
          rintro r w' ⟨rfl, hb⟩
          have HB := Lib.hid (bcall HB.out hb)
          clear hb
          go_wp2_with fail
          go_meet
          exact ⟨rfl, HB.out⟩
        go_wp2_with fail
        refine (PL.out _).mono ?_
        rintro r w' ⟨rfl, hb⟩
        have HB := Lib.hid (bcall HB.out hb)
        clear hb
        go_wp2_with fail
        go_meet
        exact ⟨rfl, HB.out⟩
      cases s2
      · go_wp2_with fail
        go_meet
        exact ⟨rfl, HB.out⟩
      cases z3
      rotate_left
      · go_wp2_with fail
        go_meet
        exact ⟨rfl, HB.out⟩
      cases s3
      · go_wp2_with fail
        refine (PL.out _).mono ?_
        rintro r w' ⟨rfl, hb⟩
        have HB := Lib.hid (bcall HB.out hb)
        clear hb
        go_wp2_with fail
        go_meet
        exact ⟨rfl, HB.out⟩
      go_wp2_with fail
      refine (PL.out _).mono ?_
      rintro r w' ⟨rfl, hb⟩
      have HB := Lib.hid (bcall HB.out hb)
      clear hb
      go_wp2_with fail
      go_meet
      exact ⟨rfl, HB.out⟩
    go_wp2_with fail
    go_meet
    exact ⟨rfl, HB.out⟩
  case rest =>
    obtain ⟨rfl, hbc⟩ := hcut
    have C0 := Lib.hid (C0.out.below hbc)
    have HB := Lib.hid (bcall HB.out hbc)
    clear hbc A0 PL n0 n1 n2 n3 m0 m1 m2 m3 q1 q2 r1 r2
    generalize hzz : (z0 && ((z1 || s1) && ((z2 || s2) && (z3 || s3)))) = zz at *
    have HK := Lib.hid (show y = (zz && ((z4 || s4) && ((z5 || s5) && (z6 || s6)))) from by rw [HK.out, ← hzz]; simp only [Bool.and_assoc])
    clear hzz
    have c4 := C0.out.cell 4 (.string c.n0) rfl
    have c5 := C0.out.cell 5 (.string c.n1) rfl
    have c6 := C0.out.cell 6 (.string c.id) rfl
    clear C0
    cases zz
    · go_wp2
      go_ret
      exact ⟨bool_eq HK.out.symm, HB.out⟩
    cases z4
    rotate_left
    · cases z5
      rotate_left
      · cases z6
        rotate_left
        · go_wp2
          go_ret
          exact ⟨bool_eq HK.out.symm, HB.out⟩
        cases s6
        · go_wp2
          go_ret
          exact ⟨bool_eq HK.out.symm, HB.out⟩
        go_wp2
        go_ret
        exact ⟨bool_eq HK.out.symm, HB.out⟩
      cases s5
      · go_wp2
        go_ret
        exact ⟨bool_eq HK.out.symm, HB.out⟩
      cases z6
      rotate_left
      · go_wp2
        go_ret
        exact ⟨bool_eq HK.out.symm, HB.out⟩
      cases s6
      · go_wp2
        go_ret
        exact ⟨bool_eq HK.out.symm, HB.out⟩
      go_wp2
      go_ret
      exact ⟨bool_eq HK.out.symm, HB.out⟩
    cases s4
    · go_wp2
      go_ret
      exact ⟨bool_eq HK.out.symm, HB.out⟩
    cases z5
    rotate_left
    · cases z6
      rotate_left
      · go_wp2
        go_ret
        exact ⟨bool_eq HK.out.symm, HB.out⟩
      cases s6
      · go_wp2
        go_ret
        exact ⟨bool_eq HK.out.symm, HB.out⟩
      go_wp2
      go_ret
      exact ⟨bool_eq HK.out.symm, HB.out⟩
    cases s5
    · go_wp2
      go_ret
      exact ⟨bool_eq HK.out.symm, HB.out⟩
    cases z6
    rotate_left
    · go_wp2
      go_ret
      exact ⟨bool_eq HK.out.symm, HB.out⟩
    cases s6
    · go_wp2
      go_ret
      exact ⟨bool_eq HK.out.symm, HB.out⟩
    go_wp2
    go_ret
    exact ⟨bool_eq HK.out.symm, HB.out⟩
end Go.Proofs.YtbfjebfodaoikaaGreatDoor.Ko
namespace Go.Proofs.YtbfjebfodaoikaaGreatDoor.Jt
open Go.ChangeShapes Go.WideShapes Go.ChangeAt Go.RowKit
open Go.Proofs.YtbfjebfodaoikaaGreatDoor.Ms
open Go.Proofs.YtbfjebfodaoikaaGreatDoor.Box
open Go.Proofs.YtbfjebfodaoikaaGreatDoor.S1
open Go.Proofs.YtbfjebfodaoikaaGreatDoor.Nu
open Go.Proofs.YtbfjebfodaoikaaGreatDoor.J1
open Go.Proofs.YtbfjebfodaoikaaGreatDoor.J2
open Go.Proofs.YtbfjebfodaoikaaGreatDoor.An
open Go.Proofs.YtbfjebfodaoikaaGreatDoor.F1 (bt bt_nn bt_lt)
open Go.Proofs.YtbfjebfodaoikaaGreatDoor.F2 (idx sl_l)
open Go.Proofs.YtbfjebfodaoikaaGreatDoor.Pre (leastN)
open Go.Proofs.YtbfjebfodaoikaaGreatDoor.Bk (Bk wpList_builtK alloc_size loadVarK)
open Go.Proofs.YtbfjebfodaoikaaGreatDoor.Hs
open Go.Proofs.YtbfjebfodaoikaaGreatDoor.Hy
set_option linter.unusedVariables false
set_option maxRecDepth 100000
set_option maxRecDepth 100000
theorem cutG {T G : Prop} (t : T) (h : T → G) : G := h t
end Go.Proofs.YtbfjebfodaoikaaGreatDoor.Jt
namespace Go.Proofs.YtbfjebfodaoikaaGreatDoor.K9
open Go.ChangeShapes Go.WideShapes Go.ChangeAt Go.RowKit
open Go.Proofs.YtbfjebfodaoikaaGreatDoor.Ms
open Go.Proofs.YtbfjebfodaoikaaGreatDoor.Box
open Go.Proofs.YtbfjebfodaoikaaGreatDoor.S1
open Go.Proofs.YtbfjebfodaoikaaGreatDoor.J1
open Go.Proofs.YtbfjebfodaoikaaGreatDoor.An
open Go.Proofs.YtbfjebfodaoikaaGreatDoor.Tc
open Go.Proofs.YtbfjebfodaoikaaGreatDoor.K1
open Go.Proofs.YtbfjebfodaoikaaGreatDoor.Kb
open Go.Proofs.YtbfjebfodaoikaaGreatDoor.K2
open Go.Proofs.YtbfjebfodaoikaaGreatDoor.F1 (bt)
open Go.Proofs.YtbfjebfodaoikaaGreatDoor.Bk (Bk alloc_size wpList_builtK run_loadK)
open Go.Proofs.YtbfjebfodaoikaaGreatDoor.Hs
open Go.Proofs.YtbfjebfodaoikaaGreatDoor.Or (st_yes)
set_option linter.unusedVariables false
set_option maxRecDepth 100000
set_option maxRecDepth 100000
theorem bool_same (a : Bool) : (a == a) = true := by simp
theorem int_same (a : Int) : (a == a) = true := by simp
end Go.Proofs.YtbfjebfodaoikaaGreatDoor.K9
