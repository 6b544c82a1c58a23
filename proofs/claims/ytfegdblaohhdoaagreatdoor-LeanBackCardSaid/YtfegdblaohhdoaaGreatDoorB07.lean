/-
  Whether what is known may be, whether a message is an Update that may be, an encoding's family: the program's answers, and the document's Ok and Family. Conditions: the message's lists stand in the world, and aren't long; the variables have what they are laid with.
  The bytes of a TLV and of a datagram: Put and Wrap, the program's and the document's. Condition: at most 2^20 bytes.
  The program's little pieces of a message's bytes: numbers, what stands of an address, the TLVs of a router-id and of a next hop, an Update's fields. Conditions: an address isn't long; a router-id has 8 bytes, a next hop 4 or 16.
  The bytes of Subs: the program's Put. Condition: at most 2000 Subs.
-/
import Derived.Test.YtfegdblaohhdoaaGreatDoorB04
import Derived.Test.YtfegdblaohhdoaaGreatDoorB05
import Derived.Test.YtfegdblaohhdoaaGreatDoorB06
import Derived.Lib.MinMax
namespace Go.Proofs.YtfegdblaohhdoaaGreatDoor.K2
open Go.ChangeShapes Go.WideShapes Go.ChangeAt Go.RowKit
open Go.Proofs.YtfegdblaohhdoaaGreatDoor.Ms
open Go.Proofs.YtfegdblaohhdoaaGreatDoor.Box
open Go.Proofs.YtfegdblaohhdoaaGreatDoor.S1
open Go.Proofs.YtfegdblaohhdoaaGreatDoor.Lk (link link_any rlink_bel)
open Go.Proofs.YtfegdblaohhdoaaGreatDoor.J1
open Go.Proofs.YtfegdblaohhdoaaGreatDoor.J2 (int_eq str_eq nil_eq nil_em size_eq family_any fam_0 fam_1 in_any)
open Go.Proofs.YtfegdblaohhdoaaGreatDoor.An
open Go.Proofs.YtfegdblaohhdoaaGreatDoor.Tc
open Go.Proofs.YtfegdblaohhdoaaGreatDoor.K1
open Go.Proofs.YtfegdblaohhdoaaGreatDoor.Kb
open Go.Proofs.YtfegdblaohhdoaaGreatDoor.Oct (fitsB)
open Go.Proofs.YtfegdblaohhdoaaGreatDoor.Bk (Bk alloc_size)
open Go.Proofs.YtfegdblaohhdoaaGreatDoor.Hs
open Go.Proofs.YtfegdblaohhdoaaGreatDoor.Or (st_yes)
set_option linter.unusedVariables false
set_option maxRecDepth 100000
set_option maxRecDepth 100000
theorem afam_any (s : ByteArray) (w : World) : Calls Tryz.prog 98 #[.string s] w fun e w' => e = .returned (.int .i64 (famA s)) ∧ w = w' := family_any s w
theorem fam_any (ae : Int) (w : World) : Calls Tryz.prog 99 #[.int .i64 ae] w fun e w' => e = .returned (.int .i64 (fam ae)) ∧ w = w' := by
  by_cases h1 : ae = 1
  · subst h1
    have HK := Lib.hid (show fam 1 = 0 from rfl)
    go_enter Tryz.func99, Tryz.ntmps99
    go_wp2
    go_ret
    exact ⟨int_eq HK.out.symm, rfl⟩
  by_cases h2 : ae = 2
  · subst h2
    have HK := Lib.hid (show fam 2 = 1 from rfl)
    go_enter Tryz.func99, Tryz.ntmps99
    go_wp2
    go_ret
    exact ⟨int_eq HK.out.symm, rfl⟩
  by_cases h3 : ae = 3
  · subst h3
    have HK := Lib.hid (show fam 3 = 1 from rfl)
    go_enter Tryz.func99, Tryz.ntmps99
    go_wp2
    go_ret
    exact ⟨int_eq HK.out.symm, rfl⟩
  have HK := Lib.hid (show fam ae = -1 by unfold fam; rw [if_neg h1, if_neg (fun h => h.elim h2 h3)])
  have e1 : (ae == 1) = false := by simpa using h1
  have e2 : (ae == 2) = false := by simpa using h2
  have e3 : (ae == 3) = false := by simpa using h3
  go_enter Tryz.func99, Tryz.ntmps99
  go_wp2
  go_ret
  exact ⟨int_eq HK.out.symm, rfl⟩
theorem rfam_any (ae : Int) (w : World) : Calls Tryz.prog 21 #[.int .i64 ae] w fun e w' => e = .returned (.int .i64 (fam ae)) ∧ w = w' := by
  by_cases h1 : ae = 1
  · subst h1
    have HK := Lib.hid (show fam 1 = 0 from rfl)
    go_enter Tryz.func21, Tryz.ntmps21
    go_wp2
    go_ret
    exact ⟨int_eq HK.out.symm, rfl⟩
  by_cases h2 : ae = 2
  · subst h2
    have HK := Lib.hid (show fam 2 = 1 from rfl)
    go_enter Tryz.func21, Tryz.ntmps21
    go_wp2
    go_ret
    exact ⟨int_eq HK.out.symm, rfl⟩
  by_cases h3 : ae = 3
  · subst h3
    have HK := Lib.hid (show fam 3 = 1 from rfl)
    go_enter Tryz.func21, Tryz.ntmps21
    go_wp2
    go_ret
    exact ⟨int_eq HK.out.symm, rfl⟩
  have HK := Lib.hid (show fam ae = -1 by unfold fam; rw [if_neg h1, if_neg (fun h => h.elim h2 h3)])
  have e1 : (ae == 1) = false := by simpa using h1
  have e2 : (ae == 2) = false := by simpa using h2
  have e3 : (ae == 3) = false := by simpa using h3
  go_enter Tryz.func21, Tryz.ntmps21
  go_wp2
  go_ret
  exact ⟨int_eq HK.out.symm, rfl⟩
/-- A part of a block, loaded whole. -/
theorem loadVarAt {P : Program} {w : World} {b off : Nat} {T tb : TypeId} {cs : Array Value} {l : List Value} (hb : Bk tb w b cs) (hl : ∀ j v, l[j]? = some v → cs[off + j]? = some v) (hagg : (isAgg T).run P w = .ok true w) (hsz : (sizeOf T).run P w = .ok l.length w) :
    (loadVar T ⟨b, off, none⟩).run P w = .ok (.agg l.toArray) w := by
  have h2 : (loadCells ⟨b, off, none⟩ l.length).run P w = .ok l.toArray w := run_loadCells_list (P := P) w ⟨b, off, none⟩ l (fun j v hv => by
    rw [Ap.add_at]
    exact hb.cell (off + j) v (hl j v hv))
  simp only [loadVar, Sem.run_bind, hagg, Result.andThen_ok, if_true, hsz, h2, Sem.run_pure]
theorem run_loadAt {P : Program} {o : Oper} {ρ : Operand → Value} {x : Operand} {w : World} {b off : Nat} {T tb : TypeId} {cs : Array Value} {l : List Value} (ho : o.op = .load T x) (hx : ρ x = .pointer (some ⟨b, off, none⟩)) (hb : Bk tb w b cs) (hl : ∀ j v, l[j]? = some v → cs[off + j]? = some v) (hagg : (isAgg T).run P w = .ok true w) (hsz : (sizeOf T).run P w = .ok l.length w) :
    (execOp ρ o).run P w = .ok (.value (.agg l.toArray)) w := by
  unfold execOp
  simp only [ho, hx, Instr.loadAt, Instr.sureAddr, Sem.run_bind, Sem.run_pure, Result.andThen_ok, loadVarAt hb hl hagg hsz]
theorem wpList_loadAt {P : Program} {ops : Array Oper} {rest : List Oper} {o : Oper} {a : Act} {w : World} {Q : Exit → Act → World → Prop} (hgd : o.guard = none) {T tb : TypeId} (x : Operand) (ho : o.op = .load T x) {b off : Nat} (hx : a.eval x = .pointer (some ⟨b, off, none⟩)) {cs : Array Value} {l : List Value} (hb : Bk tb w b cs)
    (hl : ∀ j v, l[j]? = some v → cs[off + j]? = some v) (hagg : (isAgg T).run P w = .ok true w) (hsz : (sizeOf T).run P w = .ok l.length w) (h : wpList P ops Q rest (a.put o.dst (.agg l.toArray)) w) : wpList P ops Q (o :: rest) a w :=
  wpList_plain hgd fun K hK => by
    unfold Oper.wp
    rw [run_loadAt ho hx hb hl hagg hsz]
    exact hK _ _ h
theorem agg4 (w : World) : (isAgg 22).run Tryz.prog w = .ok true w := by go_simp
theorem size4 (w : World) : (sizeOf 22).run Tryz.prog w = .ok 4 w := by go_simp
theorem four_in (c : Kx) : ∀ j v, ([Value.string c.p0, .string c.p1, .string c.p2, .string c.p3] : List Value)[j]? = some v → c.cells[0 + j]? = some v := by
  intro j v hv
  match j, hv with
  | 0, hv => exact hv
  | 1, hv => exact hv
  | 2, hv => exact hv
  | 3, hv => exact hv
  | j + 4, hv => cases hv
def numB (m : M) : Bool := fitsB m.interval 2 && (fitsB m.seq 2 && fitsB m.metric 2)
theorem nums_any (m : M) (w : World) : Calls Tryz.prog 59 #[.agg m.cells] w fun e w' => e = .returned (.bool (numB m)) ∧ Below w.heap.size w w' := by
  have HB := Lib.hid (balloc (Below.refl _ w) (.cells m.cells 29))
  have b0 := Bx.new w m
  have HK := Lib.hid (show numB m = (fitsB m.interval 2 && (fitsB m.seq 2 && fitsB m.metric 2)) from rfl)
  have P1 := Lib.hid (fun V => Oct.fits_any m.interval 2 V)
  have P2 := Lib.hid (fun V => Oct.fits_any m.seq 2 V)
  have P3 := Lib.hid (fun V => Oct.fits_any m.metric 2 V)
  generalize numB m = y at *
  generalize fitsB m.interval 2 = x1 at *
  generalize fitsB m.seq 2 = x2 at *
  generalize fitsB m.metric 2 = x3 at *
  cases x1
  · go_enter Tryz.func59, Tryz.ntmps59
    go_upto_region 1 with fail
    generalize w.alloc (.cells m.cells 29) = V at *
    have c10 := b0.cs.c10
    have c12 := b0.cs.c12
    have c14 := b0.cs.c14
    clear b0
    go_wp2_with fail
    refine (P1.out _).mono ?_
    rintro r w' ⟨rfl, rfl⟩
    go_wp2
    go_ret
    exact ⟨bool_eq HK.out.symm, HB.out⟩
  cases x2
  · go_enter Tryz.func59, Tryz.ntmps59
    go_upto_region 1 with fail
    generalize w.alloc (.cells m.cells 29) = V at *
    have c10 := b0.cs.c10
    have c12 := b0.cs.c12
    have c14 := b0.cs.c14
    clear b0
    go_wp2_with fail
    refine (P1.out _).mono ?_
    rintro r w' ⟨rfl, rfl⟩
    go_wp2_with fail
    refine (P2.out _).mono ?_
    rintro r w' ⟨rfl, rfl⟩
    go_wp2
    go_ret
    exact ⟨bool_eq HK.out.symm, HB.out⟩
  go_enter Tryz.func59, Tryz.ntmps59
  go_upto_region 1 with fail
  generalize w.alloc (.cells m.cells 29) = V at *
  have c10 := b0.cs.c10
  have c12 := b0.cs.c12
  have c14 := b0.cs.c14
  clear b0
  go_wp2_with fail
  refine (P1.out _).mono ?_
  rintro r w' ⟨rfl, rfl⟩
  go_wp2_with fail
  refine (P2.out _).mono ?_
  rintro r w' ⟨rfl, rfl⟩
  go_wp2_with fail
  refine (P3.out _).mono ?_
  rintro r w' ⟨rfl, rfl⟩
  go_wp2
  go_ret
  exact ⟨bool_eq HK.out.symm, HB.out⟩
theorem S2' {w W : World} {m : M} {x : Ending} (hS : Bx W w.heap.size m ∧ Below w.heap.size w W) : ∀ e w', e = x ∧ W = w' → e = x ∧ (Bx w' w.heap.size m ∧ Below w.heap.size w w') := fun e w' h => ⟨h.1, h.2 ▸ hS⟩
theorem way_is (m : M) : wayB m = if m.metric = 65535 then decide (m.id.size = 0) && decide (m.next.size = 0) else !decide (m.ae = 0) && (decide (m.id.size = 8) && (decide (m.next.size = 0) || decide (famA m.next = fam m.ae))) := rfl
set_option maxHeartbeats 6400000 in
theorem way_any (m : M) (w : World) : Calls Tryz.prog 60 #[.agg m.cells] w fun e w' => e = .returned (.bool (wayB m)) ∧ Below w.heap.size w w' := by
  have HB := Lib.hid (balloc (Below.refl _ w) (.cells m.cells 29))
  have b0 := Bx.new w m
  have n1 := nil_eq m.id
  have n2 := nil_em m.id
  have n3 := nil_eq m.next
  have n4 := nil_em m.next
  have HK := Lib.hid (way_is m)
  by_cases hm : m.metric = 65535
  · rw [if_pos hm] at HK
    generalize wayB m = y at *
    generalize decide (m.id.size = 0) = z1 at *
    generalize decide (m.next.size = 0) = z2 at *
    cases z1
    · go_enter Tryz.func60, Tryz.ntmps60
      go_upto_region 1 with fail
      generalize w.alloc (.cells m.cells 29) = V at *
      have c9 := b0.cs.c9
      have c10 := b0.cs.c10
      have c11 := b0.cs.c11
      clear b0
      rw [hm] at c10
      clear hm
      go_wp2
      go_ret
      exact ⟨bool_eq HK.out.symm, HB.out⟩
    go_enter Tryz.func60, Tryz.ntmps60
    go_upto_region 1 with fail
    generalize w.alloc (.cells m.cells 29) = V at *
    have c9 := b0.cs.c9
    have c10 := b0.cs.c10
    have c11 := b0.cs.c11
    clear b0
    rw [hm] at c10
    clear hm
    go_wp2
    go_ret
    exact ⟨bool_eq HK.out.symm, HB.out⟩
  rw [if_neg hm] at HK
  have hm2 : (m.metric == 65535) = false := by simpa using hm
  generalize wayB m = y at *
  by_cases h0 : m.ae = 0
  · rw [decide_eq_true h0] at HK
    have h03 : (m.ae != 0) = false := by rw [h0]; rfl
    clear h0
    go_enter Tryz.func60, Tryz.ntmps60
    go_upto_region 1 with fail
    generalize w.alloc (.cells m.cells 29) = V at *
    have B0 := Lib.hid b0
    clear b0
    have c10 := B0.out.cs.c10
    go_upto_region 3 with fail
    clear c10 hm hm2
    refine wp_region_held_drew (S := fun W => Bx W w.heap.size m ∧ Below w.heap.size w W) (by kernel_rfl) ⟨B0.out, HB.out.drew⟩ (fun hS => ?_)
    clear HB B0
    generalize V.drew = X0 at *
    refine H.tk (i := 0) (v := ?v0a) ?h0a hS ?_
    case h0a => (intro w hw; go_simp; first | done | (with_reducible rfl))
    try simp only [Act.put, List.setIfInBounds_toArray, List.set_cons_zero, List.set_cons_succ]
    refine H.tk (i := 1) (v := .int .i64 m.ae) ?h1a hS ?_
    case h1a => exact (fun w hw => by have c := (hw.1).cs.c5; go_simp)
    try simp only [Act.put, List.setIfInBounds_toArray, List.set_cons_zero, List.set_cons_succ]
    refine H.tk (i := 2) (v := .bool false) ?h2a hS ?_
    case h2a => exact (fun w hw => by go_simp)
    try simp only [Act.put, List.setIfInBounds_toArray, List.set_cons_zero, List.set_cons_succ]
    refine H.tk (i := 3) (v := (.bool false)) (fun w _ => rfl) hS ?_
    try simp only [Act.put, List.setIfInBounds_toArray, List.set_cons_zero, List.set_cons_succ]
    refine H.sk (i := 4) (d := 18) hS ?_
    try simp only [Act.put, List.setIfInBounds_toArray, List.set_cons_zero, List.set_cons_succ]
    refine H.sk (i := 5) (d := 19) hS ?_
    try simp only [Act.put, List.setIfInBounds_toArray, List.set_cons_zero, List.set_cons_succ]
    refine H.sk (i := 6) (d := 20) hS ?_
    try simp only [Act.put, List.setIfInBounds_toArray, List.set_cons_zero, List.set_cons_succ]
    refine H.sk (i := 7) (d := 21) hS ?_
    try simp only [Act.put, List.setIfInBounds_toArray, List.set_cons_zero, List.set_cons_succ]
    refine H.tk (i := 8) (v := .bool false) ?h8a hS ?_
    case h8a => exact (fun w hw => by go_simp)
    try simp only [Act.put, List.setIfInBounds_toArray, List.set_cons_zero, List.set_cons_succ]
    refine H.tk (i := 9) (v := (.bool false)) (fun w _ => rfl) hS ?_
    try simp only [Act.put, List.setIfInBounds_toArray, List.set_cons_zero, List.set_cons_succ]
    refine H.sk (i := 10) (d := 24) hS ?_
    try simp only [Act.put, List.setIfInBounds_toArray, List.set_cons_zero, List.set_cons_succ]
    refine H.sk (i := 11) (d := 25) hS ?_
    try simp only [Act.put, List.setIfInBounds_toArray, List.set_cons_zero, List.set_cons_succ]
    refine H.sk (i := 12) (d := 26) hS ?_
    try simp only [Act.put, List.setIfInBounds_toArray, List.set_cons_zero, List.set_cons_succ]
    refine H.sk (i := 13) (d := 27) hS ?_
    try simp only [Act.put, List.setIfInBounds_toArray, List.set_cons_zero, List.set_cons_succ]
    refine H.sk (i := 14) (d := 28) hS ?_
    try simp only [Act.put, List.setIfInBounds_toArray, List.set_cons_zero, List.set_cons_succ]
    refine H.sk (i := 15) (d := 29) hS ?_
    try simp only [Act.put, List.setIfInBounds_toArray, List.set_cons_zero, List.set_cons_succ]
    refine H.sk (i := 16) (d := 30) hS ?_
    try simp only [Act.put, List.setIfInBounds_toArray, List.set_cons_zero, List.set_cons_succ]
    refine H.sk (i := 17) (d := 31) hS ?_
    try simp only [Act.put, List.setIfInBounds_toArray, List.set_cons_zero, List.set_cons_succ]
    refine H.sk (i := 18) (d := 32) hS ?_
    try simp only [Act.put, List.setIfInBounds_toArray, List.set_cons_zero, List.set_cons_succ]
    refine H.sk (i := 19) (d := 33) hS ?_
    try simp only [Act.put, List.setIfInBounds_toArray, List.set_cons_zero, List.set_cons_succ]
    refine H.sk (i := 20) (d := 34) hS ?_
    try simp only [Act.put, List.setIfInBounds_toArray, List.set_cons_zero, List.set_cons_succ]
    refine H.sk (i := 21) (d := 35) hS ?_
    try simp only [Act.put, List.setIfInBounds_toArray, List.set_cons_zero, List.set_cons_succ]
    refine H.tk (i := 22) (v := (Value.bool false)) (fun w _ => rfl) hS ?_
    try simp only [Act.put, List.setIfInBounds_toArray, List.set_cons_zero, List.set_cons_succ]
    refine H.tk (i := 23) (v := (Value.bool false)) (fun w _ => rfl) hS ?_
    try simp only [Act.put, List.setIfInBounds_toArray, List.set_cons_zero, List.set_cons_succ]
    refine wpAnyH_done (by kernel_rfl) ?_ _
    go_wp2
    go_ret
    exact ⟨bool_eq HK.out.symm, hS.2⟩
  have h02 : (m.ae == 0) = false := by simpa using h0
  have h03 : (m.ae != 0) = true := by rw [bne, h02]; rfl
  rw [decide_eq_false h0] at HK
  have h8 : ((m.id.size : Int) == 8) = decide (m.id.size = 8) := size_eq m.id 8
  clear h0
  generalize decide (m.id.size = 8) = z3 at *
  cases z3
  · go_enter Tryz.func60, Tryz.ntmps60
    go_upto_region 1 with fail
    generalize w.alloc (.cells m.cells 29) = V at *
    have B0 := Lib.hid b0
    clear b0
    have c10 := B0.out.cs.c10
    go_upto_region 3 with fail
    clear c10 hm hm2
    refine wp_region_held_drew (S := fun W => Bx W w.heap.size m ∧ Below w.heap.size w W) (by kernel_rfl) ⟨B0.out, HB.out.drew⟩ (fun hS => ?_)
    clear HB B0
    generalize V.drew = X0 at *
    refine H.tk (i := 0) (v := ?v0b) ?h0b hS ?_
    case h0b => (intro w hw; go_simp; first | done | (with_reducible rfl))
    try simp only [Act.put, List.setIfInBounds_toArray, List.set_cons_zero, List.set_cons_succ]
    refine H.tk (i := 1) (v := .int .i64 m.ae) ?h1b hS ?_
    case h1b => exact (fun w hw => by have c := (hw.1).cs.c5; go_simp)
    try simp only [Act.put, List.setIfInBounds_toArray, List.set_cons_zero, List.set_cons_succ]
    refine H.tk (i := 2) (v := .bool true) ?h2b hS ?_
    case h2b => exact (fun w hw => by go_simp)
    try simp only [Act.put, List.setIfInBounds_toArray, List.set_cons_zero, List.set_cons_succ]
    refine H.tk (i := 3) (v := (.bool true)) (fun w _ => rfl) hS ?_
    try simp only [Act.put, List.setIfInBounds_toArray, List.set_cons_zero, List.set_cons_succ]
    refine H.tk (i := 4) (v := ?v4b) ?h4b hS ?_
    case h4b => (intro w hw; go_simp; first | done | (with_reducible rfl))
    try simp only [Act.put, List.setIfInBounds_toArray, List.set_cons_zero, List.set_cons_succ]
    refine H.tk (i := 5) (v := .string m.id) ?h5b hS ?_
    case h5b => exact (fun w hw => by have c := (hw.1).cs.c11; go_simp)
    try simp only [Act.put, List.setIfInBounds_toArray, List.set_cons_zero, List.set_cons_succ]
    refine H.tk (i := 6) (v := .int .i64 (m.id.size : Int)) ?h6b hS ?_
    case h6b => exact (fun w hw => by go_simp)
    try simp only [Act.put, List.setIfInBounds_toArray, List.set_cons_zero, List.set_cons_succ]
    refine H.tk (i := 7) (v := .bool false) ?h7b hS ?_
    case h7b => exact (fun w hw => by go_simp)
    try simp only [Act.put, List.setIfInBounds_toArray, List.set_cons_zero, List.set_cons_succ]
    refine H.tk (i := 8) (v := .bool false) ?h8b hS ?_
    case h8b => exact (fun w hw => by go_simp)
    try simp only [Act.put, List.setIfInBounds_toArray, List.set_cons_zero, List.set_cons_succ]
    refine H.tk (i := 9) (v := (.bool false)) (fun w _ => rfl) hS ?_
    try simp only [Act.put, List.setIfInBounds_toArray, List.set_cons_zero, List.set_cons_succ]
    refine H.sk (i := 10) (d := 24) hS ?_
    try simp only [Act.put, List.setIfInBounds_toArray, List.set_cons_zero, List.set_cons_succ]
    refine H.sk (i := 11) (d := 25) hS ?_
    try simp only [Act.put, List.setIfInBounds_toArray, List.set_cons_zero, List.set_cons_succ]
    refine H.sk (i := 12) (d := 26) hS ?_
    try simp only [Act.put, List.setIfInBounds_toArray, List.set_cons_zero, List.set_cons_succ]
    refine H.sk (i := 13) (d := 27) hS ?_
    try simp only [Act.put, List.setIfInBounds_toArray, List.set_cons_zero, List.set_cons_succ]
    refine H.sk (i := 14) (d := 28) hS ?_
    try simp only [Act.put, List.setIfInBounds_toArray, List.set_cons_zero, List.set_cons_succ]
    refine H.sk (i := 15) (d := 29) hS ?_
    try simp only [Act.put, List.setIfInBounds_toArray, List.set_cons_zero, List.set_cons_succ]
    refine H.sk (i := 16) (d := 30) hS ?_
    try simp only [Act.put, List.setIfInBounds_toArray, List.set_cons_zero, List.set_cons_succ]
    refine H.sk (i := 17) (d := 31) hS ?_
    try simp only [Act.put, List.setIfInBounds_toArray, List.set_cons_zero, List.set_cons_succ]
    refine H.sk (i := 18) (d := 32) hS ?_
    try simp only [Act.put, List.setIfInBounds_toArray, List.set_cons_zero, List.set_cons_succ]
    refine H.sk (i := 19) (d := 33) hS ?_
    try simp only [Act.put, List.setIfInBounds_toArray, List.set_cons_zero, List.set_cons_succ]
    refine H.sk (i := 20) (d := 34) hS ?_
    try simp only [Act.put, List.setIfInBounds_toArray, List.set_cons_zero, List.set_cons_succ]
    refine H.sk (i := 21) (d := 35) hS ?_
    try simp only [Act.put, List.setIfInBounds_toArray, List.set_cons_zero, List.set_cons_succ]
    refine H.tk (i := 22) (v := (Value.bool false)) (fun w _ => rfl) hS ?_
    try simp only [Act.put, List.setIfInBounds_toArray, List.set_cons_zero, List.set_cons_succ]
    refine H.tk (i := 23) (v := (Value.bool false)) (fun w _ => rfl) hS ?_
    try simp only [Act.put, List.setIfInBounds_toArray, List.set_cons_zero, List.set_cons_succ]
    refine wpAnyH_done (by kernel_rfl) ?_ _
    go_wp2
    go_ret
    exact ⟨bool_eq HK.out.symm, hS.2⟩
  generalize decide (m.next.size = 0) = z2 at *
  cases z2
  rotate_left
  · go_enter Tryz.func60, Tryz.ntmps60
    go_upto_region 1 with fail
    generalize w.alloc (.cells m.cells 29) = V at *
    have B0 := Lib.hid b0
    clear b0
    have c10 := B0.out.cs.c10
    go_upto_region 3 with fail
    clear c10 hm hm2
    refine wp_region_held_drew (S := fun W => Bx W w.heap.size m ∧ Below w.heap.size w W) (by kernel_rfl) ⟨B0.out, HB.out.drew⟩ (fun hS => ?_)
    clear HB B0
    generalize V.drew = X0 at *
    refine H.tk (i := 0) (v := ?v0c) ?h0c hS ?_
    case h0c => (intro w hw; go_simp; first | done | (with_reducible rfl))
    try simp only [Act.put, List.setIfInBounds_toArray, List.set_cons_zero, List.set_cons_succ]
    refine H.tk (i := 1) (v := .int .i64 m.ae) ?h1c hS ?_
    case h1c => exact (fun w hw => by have c := (hw.1).cs.c5; go_simp)
    try simp only [Act.put, List.setIfInBounds_toArray, List.set_cons_zero, List.set_cons_succ]
    refine H.tk (i := 2) (v := .bool true) ?h2c hS ?_
    case h2c => exact (fun w hw => by go_simp)
    try simp only [Act.put, List.setIfInBounds_toArray, List.set_cons_zero, List.set_cons_succ]
    refine H.tk (i := 3) (v := (.bool true)) (fun w _ => rfl) hS ?_
    try simp only [Act.put, List.setIfInBounds_toArray, List.set_cons_zero, List.set_cons_succ]
    refine H.tk (i := 4) (v := ?v4c) ?h4c hS ?_
    case h4c => (intro w hw; go_simp; first | done | (with_reducible rfl))
    try simp only [Act.put, List.setIfInBounds_toArray, List.set_cons_zero, List.set_cons_succ]
    refine H.tk (i := 5) (v := .string m.id) ?h5c hS ?_
    case h5c => exact (fun w hw => by have c := (hw.1).cs.c11; go_simp)
    try simp only [Act.put, List.setIfInBounds_toArray, List.set_cons_zero, List.set_cons_succ]
    refine H.tk (i := 6) (v := .int .i64 (m.id.size : Int)) ?h6c hS ?_
    case h6c => exact (fun w hw => by go_simp)
    try simp only [Act.put, List.setIfInBounds_toArray, List.set_cons_zero, List.set_cons_succ]
    refine H.tk (i := 7) (v := .bool true) ?h7c hS ?_
    case h7c => exact (fun w hw => by go_simp)
    try simp only [Act.put, List.setIfInBounds_toArray, List.set_cons_zero, List.set_cons_succ]
    refine H.tk (i := 8) (v := .bool true) ?h8c hS ?_
    case h8c => exact (fun w hw => by go_simp)
    try simp only [Act.put, List.setIfInBounds_toArray, List.set_cons_zero, List.set_cons_succ]
    refine H.tk (i := 9) (v := (.bool true)) (fun w _ => rfl) hS ?_
    try simp only [Act.put, List.setIfInBounds_toArray, List.set_cons_zero, List.set_cons_succ]
    refine H.tk (i := 10) (v := ?v10c) ?h10c hS ?_
    case h10c => (intro w hw; go_simp; first | done | (with_reducible rfl))
    try simp only [Act.put, List.setIfInBounds_toArray, List.set_cons_zero, List.set_cons_succ]
    refine H.tk (i := 11) (v := .string m.next) ?h11c hS ?_
    case h11c => exact (fun w hw => by have c := (hw.1).cs.c9; go_simp)
    try simp only [Act.put, List.setIfInBounds_toArray, List.set_cons_zero, List.set_cons_succ]
    refine H.tk (i := 12) (v := .bool true) ?h12c hS ?_
    case h12c => exact (fun w hw => by go_simp)
    try simp only [Act.put, List.setIfInBounds_toArray, List.set_cons_zero, List.set_cons_succ]
    refine H.tk (i := 13) (v := (.bool true)) (fun w _ => rfl) hS ?_
    try simp only [Act.put, List.setIfInBounds_toArray, List.set_cons_zero, List.set_cons_succ]
    refine H.sk (i := 14) (d := 28) hS ?_
    try simp only [Act.put, List.setIfInBounds_toArray, List.set_cons_zero, List.set_cons_succ]
    refine H.sk (i := 15) (d := 29) hS ?_
    try simp only [Act.put, List.setIfInBounds_toArray, List.set_cons_zero, List.set_cons_succ]
    refine H.sk (i := 16) (d := 30) hS ?_
    try simp only [Act.put, List.setIfInBounds_toArray, List.set_cons_zero, List.set_cons_succ]
    refine H.sk (i := 17) (d := 31) hS ?_
    try simp only [Act.put, List.setIfInBounds_toArray, List.set_cons_zero, List.set_cons_succ]
    refine H.sk (i := 18) (d := 32) hS ?_
    try simp only [Act.put, List.setIfInBounds_toArray, List.set_cons_zero, List.set_cons_succ]
    refine H.sk (i := 19) (d := 33) hS ?_
    try simp only [Act.put, List.setIfInBounds_toArray, List.set_cons_zero, List.set_cons_succ]
    refine H.sk (i := 20) (d := 34) hS ?_
    try simp only [Act.put, List.setIfInBounds_toArray, List.set_cons_zero, List.set_cons_succ]
    refine H.tk (i := 21) (v := (Value.bool true)) (fun w _ => rfl) hS ?_
    try simp only [Act.put, List.setIfInBounds_toArray, List.set_cons_zero, List.set_cons_succ]
    refine H.tk (i := 22) (v := (Value.bool true)) (fun w _ => rfl) hS ?_
    try simp only [Act.put, List.setIfInBounds_toArray, List.set_cons_zero, List.set_cons_succ]
    refine H.tk (i := 23) (v := (Value.bool true)) (fun w _ => rfl) hS ?_
    try simp only [Act.put, List.setIfInBounds_toArray, List.set_cons_zero, List.set_cons_succ]
    refine wpAnyH_done (by kernel_rfl) ?_ _
    go_wp2
    go_ret
    exact ⟨bool_eq HK.out.symm, hS.2⟩
  have PA := Lib.hid (fun V => afam_any m.next V)
  have PF := Lib.hid (fun V => fam_any m.ae V)
  have hq : (famA m.next == fam m.ae) = decide (famA m.next = fam m.ae) := rfl
  generalize famA m.next = f at *
  generalize fam m.ae = g at *
  generalize decide (f = g) = z4 at *
  go_enter Tryz.func60, Tryz.ntmps60
  go_upto_region 1 with fail
  generalize w.alloc (.cells m.cells 29) = V at *
  have B0 := Lib.hid b0
  clear b0
  have c10 := B0.out.cs.c10
  go_upto_region 3 with fail
  clear c10 hm hm2
  refine wp_region_held_drew (S := fun W => Bx W w.heap.size m ∧ Below w.heap.size w W) (by kernel_rfl) ⟨B0.out, HB.out.drew⟩ (fun hS => ?_)
  clear HB B0
  generalize V.drew = X0 at *
  refine H.tk (i := 0) (v := ?v0d) ?h0d hS ?_
  case h0d => (intro w hw; go_simp; first | done | (with_reducible rfl))
  try simp only [Act.put, List.setIfInBounds_toArray, List.set_cons_zero, List.set_cons_succ]
  refine H.tk (i := 1) (v := .int .i64 m.ae) ?h1d hS ?_
  case h1d => exact (fun w hw => by have c := (hw.1).cs.c5; go_simp)
  try simp only [Act.put, List.setIfInBounds_toArray, List.set_cons_zero, List.set_cons_succ]
  refine H.tk (i := 2) (v := .bool true) ?h2d hS ?_
  case h2d => exact (fun w hw => by go_simp)
  try simp only [Act.put, List.setIfInBounds_toArray, List.set_cons_zero, List.set_cons_succ]
  refine H.tk (i := 3) (v := (.bool true)) (fun w _ => rfl) hS ?_
  try simp only [Act.put, List.setIfInBounds_toArray, List.set_cons_zero, List.set_cons_succ]
  refine H.tk (i := 4) (v := ?v4d) ?h4d hS ?_
  case h4d => (intro w hw; go_simp; first | done | (with_reducible rfl))
  try simp only [Act.put, List.setIfInBounds_toArray, List.set_cons_zero, List.set_cons_succ]
  refine H.tk (i := 5) (v := .string m.id) ?h5d hS ?_
  case h5d => exact (fun w hw => by have c := (hw.1).cs.c11; go_simp)
  try simp only [Act.put, List.setIfInBounds_toArray, List.set_cons_zero, List.set_cons_succ]
  refine H.tk (i := 6) (v := .int .i64 (m.id.size : Int)) ?h6d hS ?_
  case h6d => exact (fun w hw => by go_simp)
  try simp only [Act.put, List.setIfInBounds_toArray, List.set_cons_zero, List.set_cons_succ]
  refine H.tk (i := 7) (v := .bool true) ?h7d hS ?_
  case h7d => exact (fun w hw => by go_simp)
  try simp only [Act.put, List.setIfInBounds_toArray, List.set_cons_zero, List.set_cons_succ]
  refine H.tk (i := 8) (v := .bool true) ?h8d hS ?_
  case h8d => exact (fun w hw => by go_simp)
  try simp only [Act.put, List.setIfInBounds_toArray, List.set_cons_zero, List.set_cons_succ]
  refine H.tk (i := 9) (v := (.bool true)) (fun w _ => rfl) hS ?_
  try simp only [Act.put, List.setIfInBounds_toArray, List.set_cons_zero, List.set_cons_succ]
  refine H.tk (i := 10) (v := ?v10d) ?h10d hS ?_
  case h10d => (intro w hw; go_simp; first | done | (with_reducible rfl))
  try simp only [Act.put, List.setIfInBounds_toArray, List.set_cons_zero, List.set_cons_succ]
  refine H.tk (i := 11) (v := .string m.next) ?h11d hS ?_
  case h11d => exact (fun w hw => by have c := (hw.1).cs.c9; go_simp)
  try simp only [Act.put, List.setIfInBounds_toArray, List.set_cons_zero, List.set_cons_succ]
  refine H.tk (i := 12) (v := .bool false) ?h12d hS ?_
  case h12d => exact (fun w hw => by go_simp)
  try simp only [Act.put, List.setIfInBounds_toArray, List.set_cons_zero, List.set_cons_succ]
  refine H.tk (i := 13) (v := (.bool false)) (fun w _ => rfl) hS ?_
  try simp only [Act.put, List.setIfInBounds_toArray, List.set_cons_zero, List.set_cons_succ]
  refine H.tk (i := 14) (v := ?v14d) ?h14d hS ?_
  case h14d => (intro w hw; go_simp; first | done | (with_reducible rfl))
  try simp only [Act.put, List.setIfInBounds_toArray, List.set_cons_zero, List.set_cons_succ]
  refine H.tk (i := 15) (v := .string m.next) ?h15d hS ?_
  case h15d => exact (fun w hw => by have c := (hw.1).cs.c9; go_simp)
  try simp only [Act.put, List.setIfInBounds_toArray, List.set_cons_zero, List.set_cons_succ]
  refine H.tk (i := 17) (v := ?v17d) ?h17d hS ?_
  case h17d => (intro w hw; go_simp; first | done | (with_reducible rfl))
  try simp only [Act.put, List.setIfInBounds_toArray, List.set_cons_zero, List.set_cons_succ]
  refine H.tk (i := 18) (v := .int .i64 m.ae) ?h18d hS ?_
  case h18d => exact (fun w hw => by have c := (hw.1).cs.c5; go_simp)
  try simp only [Act.put, List.setIfInBounds_toArray, List.set_cons_zero, List.set_cons_succ]
  refine wpAnyH_ready (rs := [16]) (by kernel_rfl) (by simp) ?_
  refine AllReadyH.cons rfl (fun K hK => ?_) AllReadyH.nil
  go_simp
  refine ((PA.out _).mono (S2' hS)).mono ?_
  rintro e w16 ⟨rfl, hS16⟩
  refine hK.out _ _ hS16 (fun _ => ?_)
  clear hK K hS
  have hS := hS16
  clear hS16
  try simp only [Act.put, List.setIfInBounds_toArray, List.set_cons_zero, List.set_cons_succ]
  refine wpAnyH_ready (rs := [19]) (by kernel_rfl) (by simp) ?_
  refine AllReadyH.cons rfl (fun K hK => ?_) AllReadyH.nil
  go_simp
  refine ((PF.out _).mono (S2' hS)).mono ?_
  rintro e w19 ⟨rfl, hS19⟩
  refine hK.out _ _ hS19 (fun _ => ?_)
  clear hK K hS
  have hS := hS19
  clear hS19
  try simp only [Act.put, List.setIfInBounds_toArray, List.set_cons_zero, List.set_cons_succ]
  refine H.tk (i := 20) (v := .bool z4) ?h20d hS ?_
  case h20d => exact (fun w hw => by go_simp)
  try simp only [Act.put, List.setIfInBounds_toArray, List.set_cons_zero, List.set_cons_succ]
  refine H.tk (i := 21) (v := (.bool z4)) (fun w _ => rfl) hS ?_
  try simp only [Act.put, List.setIfInBounds_toArray, List.set_cons_zero, List.set_cons_succ]
  refine H.tk (i := 22) (v := (.bool z4)) (fun w _ => rfl) hS ?_
  try simp only [Act.put, List.setIfInBounds_toArray, List.set_cons_zero, List.set_cons_succ]
  refine H.tk (i := 23) (v := (.bool z4)) (fun w _ => rfl) hS ?_
  try simp only [Act.put, List.setIfInBounds_toArray, List.set_cons_zero, List.set_cons_succ]
  refine wpAnyH_done (by kernel_rfl) ?_ _
  go_wp2
  go_ret
  exact ⟨bool_eq HK.out.symm, hS.2⟩
theorem mbare_any (m : M) (w : World) (hm : m.In w) : Calls Tryz.prog 31 #[.agg m.cells] w fun e w' => e = .returned (.bool (bare m)) ∧ Below w.heap.size w w' := Bare.bare_any m w hm
set_option maxHeartbeats 12800000 in
theorem right_any (m : M) (w : World) (hm : m.In w) (lb : ∀ x ∈ m.sl, x.1.size ≤ 1099511627776) (hp : m.pfx.size ≤ maxLen) (ht : Tab w) : Calls Tryz.prog 29 #[.agg m.cells] w fun e w' => e = .returned (.bool (okU m)) ∧ Below w.heap.size w w' := by
  have HF := Lib.hid (Fs.new w m hm)
  have HM := Lib.hid (ht.below (balloc (Below.refl _ w) (.cells m.cells 29)))
  have HK := Lib.hid (show okU m = (decide (m.kind = 11) && (bare m && (okS m.sl && (inB m.ae m.pfx m.plen && (numB m && wayB m))))) from by
    unfold okU numB
    simp only [Bool.and_assoc])
  have P1 := Lib.hid (fun V (h : m.In V) => mbare_any m V h)
  have P2 := Lib.hid (fun V (h : Tab V) => in_any m.ae m.pfx m.plen V hp h)
  have P3 := Lib.hid (fun V (h : m.In V) => S2.right_any m.sa m.sc m.sl V h.s h.sl lb)
  have P4 := Lib.hid (fun V => nums_any m V)
  have P5 := Lib.hid (fun V => way_any m V)
  clear lb hm ht hp
  generalize okU m = y at *
  generalize bare m = x1 at *
  generalize inB m.ae m.pfx m.plen = x2 at *
  generalize okS m.sl = x3 at *
  generalize numB m = x4 at *
  generalize wayB m = x5 at *
  by_cases h11 : m.kind = 11
  rotate_left
  · have e11 : (m.kind == 11) = false := by simpa using h11
    rw [decide_eq_false h11] at HK
    go_enter Tryz.func29, Tryz.ntmps29
    go_upto_region 1 with fail
    generalize w.alloc (.cells m.cells 29) = V at *
    have c0 := HF.out.m.cs.c0
    have c5 := HF.out.m.cs.c5
    have c6 := HF.out.m.cs.c6
    have c7 := HF.out.m.cs.c7
    have c24 := HF.out.m.cs.c24
    clear h11
    go_wp2_with (first | (refine st_yes (v := .agg (M.cells m)) (by rfl) rfl (run_loadM (x := .tmp 1) rfl rfl HF.out.m) ?_))
    go_ret
    exact ⟨bool_eq HK.out.symm, HF.out.bel⟩
  rw [decide_eq_true h11] at HK
  cases x1
  · go_enter Tryz.func29, Tryz.ntmps29
    go_upto_region 1 with fail
    generalize w.alloc (.cells m.cells 29) = V at *
    have c0 := HF.out.m.cs.c0
    have c5 := HF.out.m.cs.c5
    have c6 := HF.out.m.cs.c6
    have c7 := HF.out.m.cs.c7
    have c24 := HF.out.m.cs.c24
    rw [h11] at c0
    go_wp2_with (first | (refine st_yes (v := .agg (M.cells m)) (by rfl) rfl (run_loadM (x := .tmp 1) rfl rfl HF.out.m) ?_))
    refine (P1.out _ HF.out.i).mono ?_
    rintro r w' ⟨rfl, hb⟩
    have HM := Lib.hid (HM.out.below hb)
    have HF := Lib.hid (HF.out.call hb)
    clear hb c0 c5 c6 c7 c24
    have c0 := HF.out.m.cs.c0
    have c5 := HF.out.m.cs.c5
    have c6 := HF.out.m.cs.c6
    have c7 := HF.out.m.cs.c7
    have c24 := HF.out.m.cs.c24
    rw [h11] at c0
    go_wp2_with (first | (refine st_yes (v := .agg (M.cells m)) (by rfl) rfl (run_loadM (x := .tmp 1) rfl rfl HF.out.m) ?_))
    go_ret
    exact ⟨bool_eq HK.out.symm, HF.out.bel⟩
  cases x3
  · go_enter Tryz.func29, Tryz.ntmps29
    go_upto_region 1 with fail
    generalize w.alloc (.cells m.cells 29) = V at *
    have c0 := HF.out.m.cs.c0
    have c5 := HF.out.m.cs.c5
    have c6 := HF.out.m.cs.c6
    have c7 := HF.out.m.cs.c7
    have c24 := HF.out.m.cs.c24
    rw [h11] at c0
    go_wp2_with (first | (refine st_yes (v := .agg (M.cells m)) (by rfl) rfl (run_loadM (x := .tmp 1) rfl rfl HF.out.m) ?_))
    refine (P1.out _ HF.out.i).mono ?_
    rintro r w' ⟨rfl, hb⟩
    have HM := Lib.hid (HM.out.below hb)
    have HF := Lib.hid (HF.out.call hb)
    clear hb c0 c5 c6 c7 c24
    have c0 := HF.out.m.cs.c0
    have c5 := HF.out.m.cs.c5
    have c6 := HF.out.m.cs.c6
    have c7 := HF.out.m.cs.c7
    have c24 := HF.out.m.cs.c24
    rw [h11] at c0
    go_wp2_with (first | (refine st_yes (v := .agg (M.cells m)) (by rfl) rfl (run_loadM (x := .tmp 1) rfl rfl HF.out.m) ?_))
    refine (P3.out _ HF.out.i).mono ?_
    rintro r w' ⟨rfl, hb⟩
    have HM := Lib.hid (HM.out.below hb)
    have HF := Lib.hid (HF.out.call hb)
    clear hb c0 c5 c6 c7 c24
    have c0 := HF.out.m.cs.c0
    have c5 := HF.out.m.cs.c5
    have c6 := HF.out.m.cs.c6
    have c7 := HF.out.m.cs.c7
    have c24 := HF.out.m.cs.c24
    rw [h11] at c0
    go_wp2_with (first | (refine st_yes (v := .agg (M.cells m)) (by rfl) rfl (run_loadM (x := .tmp 1) rfl rfl HF.out.m) ?_))
    go_ret
    exact ⟨bool_eq HK.out.symm, HF.out.bel⟩
  cases x2
  · go_enter Tryz.func29, Tryz.ntmps29
    go_upto_region 1 with fail
    generalize w.alloc (.cells m.cells 29) = V at *
    have c0 := HF.out.m.cs.c0
    have c5 := HF.out.m.cs.c5
    have c6 := HF.out.m.cs.c6
    have c7 := HF.out.m.cs.c7
    have c24 := HF.out.m.cs.c24
    rw [h11] at c0
    go_wp2_with (first | (refine st_yes (v := .agg (M.cells m)) (by rfl) rfl (run_loadM (x := .tmp 1) rfl rfl HF.out.m) ?_))
    refine (P1.out _ HF.out.i).mono ?_
    rintro r w' ⟨rfl, hb⟩
    have HM := Lib.hid (HM.out.below hb)
    have HF := Lib.hid (HF.out.call hb)
    clear hb c0 c5 c6 c7 c24
    have c0 := HF.out.m.cs.c0
    have c5 := HF.out.m.cs.c5
    have c6 := HF.out.m.cs.c6
    have c7 := HF.out.m.cs.c7
    have c24 := HF.out.m.cs.c24
    rw [h11] at c0
    go_wp2_with (first | (refine st_yes (v := .agg (M.cells m)) (by rfl) rfl (run_loadM (x := .tmp 1) rfl rfl HF.out.m) ?_))
    refine (P3.out _ HF.out.i).mono ?_
    rintro r w' ⟨rfl, hb⟩
    have HM := Lib.hid (HM.out.below hb)
    have HF := Lib.hid (HF.out.call hb)
    clear hb c0 c5 c6 c7 c24
    have c0 := HF.out.m.cs.c0
    have c5 := HF.out.m.cs.c5
    have c6 := HF.out.m.cs.c6
    have c7 := HF.out.m.cs.c7
    have c24 := HF.out.m.cs.c24
    rw [h11] at c0
    go_wp2_with (first | (refine st_yes (v := .agg (M.cells m)) (by rfl) rfl (run_loadM (x := .tmp 1) rfl rfl HF.out.m) ?_))
    refine (P2.out _ HM.out).mono ?_
    rintro r w' ⟨rfl, hb⟩
    have HM := Lib.hid (HM.out.below hb)
    have HF := Lib.hid (HF.out.call hb)
    clear hb c0 c5 c6 c7 c24
    have c0 := HF.out.m.cs.c0
    have c5 := HF.out.m.cs.c5
    have c6 := HF.out.m.cs.c6
    have c7 := HF.out.m.cs.c7
    have c24 := HF.out.m.cs.c24
    rw [h11] at c0
    go_wp2_with (first | (refine st_yes (v := .agg (M.cells m)) (by rfl) rfl (run_loadM (x := .tmp 1) rfl rfl HF.out.m) ?_))
    go_ret
    exact ⟨bool_eq HK.out.symm, HF.out.bel⟩
  cases x4
  · go_enter Tryz.func29, Tryz.ntmps29
    go_upto_region 1 with fail
    generalize w.alloc (.cells m.cells 29) = V at *
    have c0 := HF.out.m.cs.c0
    have c5 := HF.out.m.cs.c5
    have c6 := HF.out.m.cs.c6
    have c7 := HF.out.m.cs.c7
    have c24 := HF.out.m.cs.c24
    rw [h11] at c0
    go_wp2_with (first | (refine st_yes (v := .agg (M.cells m)) (by rfl) rfl (run_loadM (x := .tmp 1) rfl rfl HF.out.m) ?_))
    refine (P1.out _ HF.out.i).mono ?_
    rintro r w' ⟨rfl, hb⟩
    have HM := Lib.hid (HM.out.below hb)
    have HF := Lib.hid (HF.out.call hb)
    clear hb c0 c5 c6 c7 c24
    have c0 := HF.out.m.cs.c0
    have c5 := HF.out.m.cs.c5
    have c6 := HF.out.m.cs.c6
    have c7 := HF.out.m.cs.c7
    have c24 := HF.out.m.cs.c24
    rw [h11] at c0
    go_wp2_with (first | (refine st_yes (v := .agg (M.cells m)) (by rfl) rfl (run_loadM (x := .tmp 1) rfl rfl HF.out.m) ?_))
    refine (P3.out _ HF.out.i).mono ?_
    rintro r w' ⟨rfl, hb⟩
    have HM := Lib.hid (HM.out.below hb)
    have HF := Lib.hid (HF.out.call hb)
    clear hb c0 c5 c6 c7 c24
    have c0 := HF.out.m.cs.c0
    have c5 := HF.out.m.cs.c5
    have c6 := HF.out.m.cs.c6
    have c7 := HF.out.m.cs.c7
    have c24 := HF.out.m.cs.c24
    rw [h11] at c0
    go_wp2_with (first | (refine st_yes (v := .agg (M.cells m)) (by rfl) rfl (run_loadM (x := .tmp 1) rfl rfl HF.out.m) ?_))
    refine (P2.out _ HM.out).mono ?_
    rintro r w' ⟨rfl, hb⟩
    have HM := Lib.hid (HM.out.below hb)
    have HF := Lib.hid (HF.out.call hb)
    clear hb c0 c5 c6 c7 c24
    have c0 := HF.out.m.cs.c0
    have c5 := HF.out.m.cs.c5
    have c6 := HF.out.m.cs.c6
    have c7 := HF.out.m.cs.c7
    have c24 := HF.out.m.cs.c24
    rw [h11] at c0
    go_wp2_with (first | (refine st_yes (v := .agg (M.cells m)) (by rfl) rfl (run_loadM (x := .tmp 1) rfl rfl HF.out.m) ?_))
    refine (P4.out _).mono ?_
    rintro r w' ⟨rfl, hb⟩
    have HM := Lib.hid (HM.out.below hb)
    have HF := Lib.hid (HF.out.call hb)
    clear hb c0 c5 c6 c7 c24
    have c0 := HF.out.m.cs.c0
    have c5 := HF.out.m.cs.c5
    have c6 := HF.out.m.cs.c6
    have c7 := HF.out.m.cs.c7
    have c24 := HF.out.m.cs.c24
    rw [h11] at c0
    go_wp2_with (first | (refine st_yes (v := .agg (M.cells m)) (by rfl) rfl (run_loadM (x := .tmp 1) rfl rfl HF.out.m) ?_))
    go_ret
    exact ⟨bool_eq HK.out.symm, HF.out.bel⟩
  go_enter Tryz.func29, Tryz.ntmps29
  go_upto_region 1 with fail
  generalize w.alloc (.cells m.cells 29) = V at *
  have c0 := HF.out.m.cs.c0
  have c5 := HF.out.m.cs.c5
  have c6 := HF.out.m.cs.c6
  have c7 := HF.out.m.cs.c7
  have c24 := HF.out.m.cs.c24
  rw [h11] at c0
  go_wp2_with (first | (refine st_yes (v := .agg (M.cells m)) (by rfl) rfl (run_loadM (x := .tmp 1) rfl rfl HF.out.m) ?_))
  refine (P1.out _ HF.out.i).mono ?_
  rintro r w' ⟨rfl, hb⟩
  have HM := Lib.hid (HM.out.below hb)
  have HF := Lib.hid (HF.out.call hb)
  clear hb c0 c5 c6 c7 c24
  have c0 := HF.out.m.cs.c0
  have c5 := HF.out.m.cs.c5
  have c6 := HF.out.m.cs.c6
  have c7 := HF.out.m.cs.c7
  have c24 := HF.out.m.cs.c24
  rw [h11] at c0
  go_wp2_with (first | (refine st_yes (v := .agg (M.cells m)) (by rfl) rfl (run_loadM (x := .tmp 1) rfl rfl HF.out.m) ?_))
  refine (P3.out _ HF.out.i).mono ?_
  rintro r w' ⟨rfl, hb⟩
  have HM := Lib.hid (HM.out.below hb)
  have HF := Lib.hid (HF.out.call hb)
  clear hb c0 c5 c6 c7 c24
  have c0 := HF.out.m.cs.c0
  have c5 := HF.out.m.cs.c5
  have c6 := HF.out.m.cs.c6
  have c7 := HF.out.m.cs.c7
  have c24 := HF.out.m.cs.c24
  rw [h11] at c0
  go_wp2_with (first | (refine st_yes (v := .agg (M.cells m)) (by rfl) rfl (run_loadM (x := .tmp 1) rfl rfl HF.out.m) ?_))
  refine (P2.out _ HM.out).mono ?_
  rintro r w' ⟨rfl, hb⟩
  have HM := Lib.hid (HM.out.below hb)
  have HF := Lib.hid (HF.out.call hb)
  clear hb c0 c5 c6 c7 c24
  have c0 := HF.out.m.cs.c0
  have c5 := HF.out.m.cs.c5
  have c6 := HF.out.m.cs.c6
  have c7 := HF.out.m.cs.c7
  have c24 := HF.out.m.cs.c24
  rw [h11] at c0
  go_wp2_with (first | (refine st_yes (v := .agg (M.cells m)) (by rfl) rfl (run_loadM (x := .tmp 1) rfl rfl HF.out.m) ?_))
  refine (P4.out _).mono ?_
  rintro r w' ⟨rfl, hb⟩
  have HM := Lib.hid (HM.out.below hb)
  have HF := Lib.hid (HF.out.call hb)
  clear hb c0 c5 c6 c7 c24
  have c0 := HF.out.m.cs.c0
  have c5 := HF.out.m.cs.c5
  have c6 := HF.out.m.cs.c6
  have c7 := HF.out.m.cs.c7
  have c24 := HF.out.m.cs.c24
  rw [h11] at c0
  go_wp2_with (first | (refine st_yes (v := .agg (M.cells m)) (by rfl) rfl (run_loadM (x := .tmp 1) rfl rfl HF.out.m) ?_))
  refine (P5.out _).mono ?_
  rintro r w' ⟨rfl, hb⟩
  have HM := Lib.hid (HM.out.below hb)
  have HF := Lib.hid (HF.out.call hb)
  clear hb c0 c5 c6 c7 c24
  have c0 := HF.out.m.cs.c0
  have c5 := HF.out.m.cs.c5
  have c6 := HF.out.m.cs.c6
  have c7 := HF.out.m.cs.c7
  have c24 := HF.out.m.cs.c24
  rw [h11] at c0
  go_wp2_with (first | (refine st_yes (v := .agg (M.cells m)) (by rfl) rfl (run_loadM (x := .tmp 1) rfl rfl HF.out.m) ?_))
  go_ret
  exact ⟨bool_eq HK.out.symm, HF.out.bel⟩
end Go.Proofs.YtfegdblaohhdoaaGreatDoor.K2
namespace Go.Proofs.YtfegdblaohhdoaaGreatDoor.F6
open Go.ChangeShapes Go.WideShapes Go.ChangeAt Go.RowKit
open Go.Proofs.YtfegdblaohhdoaaGreatDoor.F1
open Go.Proofs.YtfegdblaohhdoaaGreatDoor.F2
open Go.Proofs.YtfegdblaohhdoaaGreatDoor.Nu
open Go.Proofs.YtfegdblaohhdoaaGreatDoor.Oct (fitsB fitsB_iff pw be conv_row)
open Go.Proofs.YtfegdblaohhdoaaGreatDoor.Bk (Bk)
set_option linter.unusedVariables false
set_option maxRecDepth 100000
set_option maxRecDepth 100000

theorem cat_is (a b c : ByteArray) (ha : a.size ≤ 2000000) (hb : b.size ≤ 2000000) (e : a ++ b = c) (W : World) : (Op.stringOp .add a b).run Tryz.prog W = .ok (.string c) W := by
  subst e
  rw [run_string_add_sum W _ _ (by show a.size + b.size ≤ _; omega)]
/-- A number's one byte. -/
theorem one_byte (t : Int) : ∃ (a : ByteArray) (k : Bool), (k = true ↔ 0 ≤ t ∧ t ≤ 255) ∧ (k = true → a = ⟨#[UInt8.ofNat t.toNat]⟩) ∧
    ∀ V, Calls Tryz.prog 119 #[.int .i64 t, .int .i64 1] V fun e w' => e = .returned (.tuple #[.string a, .bool k]) ∧ Below V.heap.size V w' := by
  refine ⟨⟨(layN t 1).toArray⟩, fitsB t (1 : Nat), ?_, ?_, fun V => oput_any t 1 1 rfl (by omega) (by omega) V⟩
  · rw [fitsB_iff]
    show 1 ≤ ((1 : Nat) : Int) ∧ ((1 : Nat) : Int) ≤ 7 ∧ 0 ≤ t ∧ t < ((256 ^ 1 : Nat) : Int) ↔ _
    omega
  · intro h
    unfold layN
    rw [if_pos h]
    show (⟨#[UInt8.ofNat (t.toNat / 256 ^ 0)]⟩ : ByteArray) = _
    rw [Nat.pow_zero, Nat.div_one]
/-- The answer of Put. -/
def PutIs (t : Int) (d : ByteArray) (w : World) (e : Ending) (w' : World) : Prop := e = .returned (.tuple #[.string (putO t d), .bool (putB t d)]) ∧ Below w.heap.size w w'
theorem PutIs.no {t : Int} {d : ByteArray} {w w' : World} (h : putB t d = false) (hb : Below w.heap.size w w') : PutIs t d w (.returned (.tuple #[.string ⟨#[]⟩, .bool false])) w' := by
  have : putO t d = ⟨#[]⟩ := by unfold putO; rw [h]; rfl
  exact ⟨by rw [this, h], hb⟩
theorem PutIs.yes {t : Int} {d z : ByteArray} {w w' : World} (h : putB t d = true) (hz : z = putO t d) (hb : Below w.heap.size w w') : PutIs t d w (.returned (.tuple #[.string z, .bool true])) w' := ⟨by rw [hz, h], hb⟩
theorem put_cat {t : Int} {d : ByteArray} (h : putB t d = true) : ((⟨#[UInt8.ofNat t.toNat]⟩ : ByteArray) ++ ⟨#[UInt8.ofNat d.size]⟩) ++ d = putO t d := by
  unfold putO
  rw [if_pos h]
  exact ByteArray.ext (by simp [ByteArray.data_append])
set_option maxHeartbeats 1600000 in
theorem put_any (t : Int) (d : ByteArray) (w : World) (hs : d.size ≤ 1048576) : Calls Tryz.prog 85 #[.int .i64 t, .string d] w (PutIs t d w) := by
  obtain ⟨a, k1, ka, ea, n1⟩ := one_byte t
  obtain ⟨b, k2, kb, eb, n2⟩ := one_byte (d.size : Int)
  have P1 := Lib.hid n1
  have P2 := Lib.hid n2
  have hds : (d.size : Int) ≤ 1048576 := by omega
  clear n1 n2
  by_cases h0 : t = 0
  · have HF := Lib.hid (show putB t d = false by unfold putB; simp [h0])
    subst h0
    clear hs ka ea kb eb
    go_enter Tryz.func85, Tryz.ntmps85
    go_wp2_with fail
    refine (P1.out _).mono ?_
    rintro e w1 ⟨rfl, hb⟩
    have HB := Lib.hid hb
    clear hb P1
    go_wp2_with fail
    refine (P2.out _).mono ?_
    rintro e w2 ⟨rfl, hb⟩
    have HB := Lib.hid (bcall HB.out hb)
    clear hb P2
    go_wp2
    go_ret2
    exact PutIs.no HF.out HB.out
  cases k1 with
  | false =>
    have HF : Hid (putB t d = false) := Lib.hid (by
      have h1 : ¬ (0 ≤ t ∧ t ≤ 255) := fun h => by simpa using ka.2 h
      unfold putB
      simp only [Bool.and_eq_false_iff, decide_eq_false_iff_not]
      left
      omega)
    clear hs ka ea kb eb
    go_enter Tryz.func85, Tryz.ntmps85
    go_wp2_with fail
    refine (P1.out _).mono ?_
    rintro e w1 ⟨rfl, hb⟩
    have HB := Lib.hid hb
    clear hb P1
    go_wp2_with fail
    refine (P2.out _).mono ?_
    rintro e w2 ⟨rfl, hb⟩
    have HB := Lib.hid (bcall HB.out hb)
    clear hb P2
    go_wp2
    go_ret2
    exact PutIs.no HF.out HB.out
  | true =>
  cases k2 with
  | false =>
    have HF : Hid (putB t d = false) := Lib.hid (by
      have h1 : ¬ (0 ≤ (d.size : Int) ∧ (d.size : Int) ≤ 255) := fun h => by simpa using kb.2 h
      unfold putB
      simp only [Bool.and_eq_false_iff, decide_eq_false_iff_not]
      right
      omega)
    clear hs ka ea kb eb
    go_enter Tryz.func85, Tryz.ntmps85
    go_wp2_with fail
    refine (P1.out _).mono ?_
    rintro e w1 ⟨rfl, hb⟩
    have HB := Lib.hid hb
    clear hb P1
    go_wp2_with fail
    refine (P2.out _).mono ?_
    rintro e w2 ⟨rfl, hb⟩
    have HB := Lib.hid (bcall HB.out hb)
    clear hb P2
    go_wp2
    go_ret2
    exact PutIs.no HF.out HB.out
  | true =>
  have g1 := ka.1 rfl
  have g2 := (kb.1 rfl).2
  have HF : Hid (putB t d = true) := Lib.hid (by
    unfold putB
    simp
    omega)
  have ha : a.size = 1 := by rw [ea rfl]; rfl
  have hb1 : b.size = 1 := by rw [eb rfl]; rfl
  have HZ : Hid ((a ++ b) ++ d = putO t d) := Lib.hid (by
    rw [← put_cat HF.out, ea rfl, eb rfl, Int.toNat_natCast])
  have c2 := cat_is _ d _ (by rw [ByteArray.size_append]; omega) (by omega) HZ.out
  have c1 := cat_is a b _ (by omega) (by omega) rfl
  have hab : (a ++ b).size = 2 := by rw [ByteArray.size_append]; omega
  have HZ2 : Hid (∃ z, putO t d = z) := Lib.hid ⟨_, rfl⟩
  clear hs ka ea kb eb
  generalize a ++ b = ab at *
  obtain ⟨z, hz⟩ := HZ2.out
  rw [hz] at c2
  clear HZ HZ2
  have HZ := Lib.hid hz.symm
  clear hz
  go_enter Tryz.func85, Tryz.ntmps85
  go_wp2_with fail
  refine (P1.out _).mono ?_
  rintro e w1 ⟨rfl, hb⟩
  have HB := Lib.hid hb
  clear hb P1
  go_wp2_with fail
  refine (P2.out _).mono ?_
  rintro e w2 ⟨rfl, hb⟩
  have HB := Lib.hid (bcall HB.out hb)
  clear hb P2
  go_wp2
  go_ret2
  exact PutIs.yes HF.out HZ.out HB.out
end Go.Proofs.YtfegdblaohhdoaaGreatDoor.F6
namespace Go.Proofs.YtfegdblaohhdoaaGreatDoor.L4
open Go.ChangeShapes Go.WideShapes Go.ChangeAt Go.RowKit
open Go.Proofs.YtfegdblaohhdoaaGreatDoor.Ms
open Go.Proofs.YtfegdblaohhdoaaGreatDoor.Box
open Go.Proofs.YtfegdblaohhdoaaGreatDoor.An
open Go.Proofs.YtfegdblaohhdoaaGreatDoor.Lk (link link_any shA sh_yes link_size)
open Go.Proofs.YtfegdblaohhdoaaGreatDoor.Nu (layN layN_len oput_any text_eq ext_list)
open Go.Proofs.YtfegdblaohhdoaaGreatDoor.J1 (baseN cutP ext_to size_list mk_size)
open Go.Proofs.YtfegdblaohhdoaaGreatDoor.K1 (famA fam)
open Go.Proofs.YtfegdblaohhdoaaGreatDoor.S1 (putS)
open Go.Proofs.YtfegdblaohhdoaaGreatDoor.L1
open Go.Proofs.YtfegdblaohhdoaaGreatDoor.F1 (enc1 ok1 put_ok putO)
open Go.Proofs.YtfegdblaohhdoaaGreatDoor.F6 (cat_is PutIs)
open Go.Proofs.YtfegdblaohhdoaaGreatDoor.F2 (sl_l)
open Go.Proofs.YtfegdblaohhdoaaGreatDoor.Hs
open Go.Proofs.YtfegdblaohhdoaaGreatDoor.Hy
set_option linter.unusedVariables false
set_option maxRecDepth 100000
theorem str_eq {a b : ByteArray} (h : a = b) : Ending.returned (.string a) = .returned (.string b) := by rw [h]
theorem num_any (v : Int) (n : Nat) (ni : Int) (hni : ni = n) (h1 : 1 ≤ n) (h7 : n ≤ 7) (w : World) : Calls Tryz.prog 133 #[.int .i64 v, .int .i64 ni] w fun e w' => e = .returned (.string ⟨(layN v n).toArray⟩) ∧ Below w.heap.size w w' := by
  have P1 := Lib.hid (fun V => oput_any v n ni hni h1 h7 V)
  clear hni h1 h7
  generalize (⟨(layN v n).toArray⟩ : ByteArray) = s at *
  go_enter Tryz.func133, Tryz.ntmps133
  go_wp2_with fail
  refine (P1.out _).mono ?_
  rintro r w' ⟨rfl, hb⟩
  go_wp2
  go_ret
  exact ⟨rfl, hb⟩
/-- What stands of an address, in an encoding. -/
def stB (ae : Int) (s : ByteArray) : ByteArray := ⟨(s.data.toList.drop (baseN ae)).toArray⟩
theorem st_not {ae : Int} {s : ByteArray} (h : ¬ ae = 3) : stB ae s = s := by
  unfold stB baseN
  rw [if_neg h]
  exact text_eq rfl
theorem st_long {s : ByteArray} : stB 3 s = s.extract 8 s.size := text_eq (by rw [ext_to]; rfl)
theorem st_short {s : ByteArray} (h : s.size ≤ 8) : stB 3 s = s.extract s.size s.size := text_eq (by
  rw [ext_to]
  show s.data.toList.drop 8 = _
  rw [List.drop_of_length_le (by rw [size_list]; exact h), List.drop_of_length_le (by rw [size_list]; exact Nat.le_refl _)])
theorem stand_any (ae : Int) (s : ByteArray) (w : World) : Calls Tryz.prog 111 #[.int .i64 ae, .string s] w fun e w' => e = .returned (.string (stB ae s)) ∧ w = w' := by
  by_cases h : ae = 3
  rotate_left
  · have e3 : (ae != 3) = true := by simpa using h
    rw [st_not h]
    clear h
    go_enter Tryz.func111, Tryz.ntmps111
    go_wp2
    go_ret
    exact ⟨rfl, rfl⟩
  subst h
  by_cases h8 : 8 ≤ s.size
  · have cut := sl_l s 8 8 s.size rfl h8 rfl
    rw [st_long]
    generalize hz : s.extract 8 s.size = z at *
    have hm : min (8 : Int) (s.size : Int) = 8 := by omega
    have hx : max (8 : Int) (s.size : Int) = s.size := by omega
    clear hz
    go_enter Tryz.func111, Tryz.ntmps111
    go_wp2
    go_ret
    exact ⟨rfl, rfl⟩
  · have cut := sl_l s (s.size : Int) s.size s.size rfl (Nat.le_refl _) rfl
    rw [st_short (by omega)]
    generalize hz : s.extract s.size s.size = z at *
    have hm : min (8 : Int) (s.size : Int) = s.size := by omega
    clear hz
    go_enter Tryz.func111, Tryz.ntmps111
    go_wp2
    go_ret
    exact ⟨rfl, rfl⟩
theorem hop_st (a : ByteArray) : stB (hopE a) a = hopS a := by
  unfold hopE hopS
  by_cases h4 : a.size = 4
  · rw [if_pos h4, if_pos h4]; exact st_not (by decide)
  rw [if_neg h4, if_neg h4]
  by_cases hl : link a = true
  · rw [if_pos hl, if_pos hl, sh_yes hl]; exact st_long
  · rw [if_neg hl, if_neg hl]; exact st_not (by decide)
theorem id_any (a : ByteArray) (w : World) (h : a.size = 8) : Calls Tryz.prog 109 #[.string a] w fun e w' => e = .returned (.string ⟨(enc1 (idD a, 6)).toArray⟩) ∧ Below w.heap.size w w' := by
  have P1 := Lib.hid (fun V => Oct.zeros_mid 2 V (by decide))
  have hc := cat_is ⟨(List.replicate 2 (0 : UInt8)).toArray⟩ a (idD a) (by decide) (by omega) (text_eq (by simp [ByteArray.data_append, idD]))
  obtain ⟨ho, hz⟩ := L2.id_ok h
  have hp := (put_ok ho (show ¬ (6 : Int) = 0 by decide)).2
  have P2 := Lib.hid (fun V => F6.put_any 6 (idD a) V (by omega))
  unfold PutIs at P2
  rw [show putO 6 (idD a) = _ from hp] at P2
  clear h hp ho hz
  generalize (⟨(enc1 (idD a, 6)).toArray⟩ : ByteArray) = u at *
  generalize idD a = d at *
  generalize F1.putB 6 d = y at *
  generalize (⟨(List.replicate 2 (0 : UInt8)).toArray⟩ : ByteArray) = z at *
  go_enter Tryz.func109, Tryz.ntmps109
  go_wp2_with fail
  refine (P1.out _).mono ?_
  rintro r w1 ⟨rfl, hb⟩
  have HB := Lib.hid hb
  clear hb
  go_wp2_with fail
  refine (P2.out _).mono ?_
  rintro r w2 ⟨rfl, hb⟩
  have HB := Lib.hid (bcall HB.out hb)
  clear hb
  go_wp2
  go_ret
  exact ⟨rfl, HB.out⟩
theorem hae_any (a : ByteArray) (w : World) : Calls Tryz.prog 132 #[.string a] w fun e w' => e = .returned (.int .i64 (hopE a)) ∧ w = w' := by
  have P1 := Lib.hid (fun V => K2.afam_any a V)
  have P2 := Lib.hid (fun V => link_any a V)
  by_cases h4 : a.size = 4
  · have hk := Lib.hid (show hopE a = 1 by unfold hopE; rw [if_pos h4])
    have e0 : famA a = 0 := by unfold famA; rw [if_pos h4]
    rw [e0] at P1
    clear h4 e0
    go_enter Tryz.func132, Tryz.ntmps132
    go_wp2_with fail
    refine (P1.out _).mono ?_
    rintro r w1 ⟨rfl, rfl⟩
    go_wp2
    go_ret
    exact ⟨by rw [hk.out]; rfl, rfl⟩
  have e0 : (famA a == 0) = false := by unfold famA; rw [if_neg h4]; split <;> rfl
  have hk : hopE a = if link a = true then 3 else 2 := by unfold hopE; rw [if_neg h4]
  have HK := Lib.hid hk
  clear h4 hk
  generalize famA a = f at *
  cases hl : link a
  · rw [hl] at P2 HK
    clear hl
    go_enter Tryz.func132, Tryz.ntmps132
    go_wp2_with fail
    refine (P1.out _).mono ?_
    rintro r w1 ⟨rfl, rfl⟩
    go_wp2_with fail
    refine (P2.out _).mono ?_
    rintro r w1 ⟨rfl, rfl⟩
    go_wp2
    go_ret
    exact ⟨by rw [HK.out]; rfl, rfl⟩
  · rw [hl] at P2 HK
    clear hl
    go_enter Tryz.func132, Tryz.ntmps132
    go_wp2_with fail
    refine (P1.out _).mono ?_
    rintro r w1 ⟨rfl, rfl⟩
    go_wp2_with fail
    refine (P2.out _).mono ?_
    rintro r w1 ⟨rfl, rfl⟩
    go_wp2
    go_ret
    exact ⟨by rw [HK.out]; rfl, rfl⟩
theorem hop_any (a : ByteArray) (w : World) (h : a.size = 4 ∨ a.size = 16) : Calls Tryz.prog 110 #[.string a] w fun e w' => e = .returned (.string ⟨(enc1 (hopD a, 7)).toArray⟩) ∧ Below w.heap.size w w' := by
  obtain ⟨h1, h3, hs, _, _⟩ := hop_cases h
  have hzd := (L1.hop_size h).2
  have P1 := Lib.hid (fun V => hae_any a V)
  have P2 := Lib.hid (fun V => num_any (hopE a) 1 1 rfl (by decide) (by decide) V)
  have P3 := Lib.hid (fun V => Oct.zeros_mid 1 V (by decide))
  have P4 := Lib.hid (fun V => stand_any (hopE a) a V)
  rw [hop_st] at P4
  have ho := L2.hop_ok h
  have hp := (put_ok ho (show ¬ (7 : Int) = 0 by decide)).2
  have P5 := Lib.hid (fun V => F6.put_any 7 (hopD a) V (by omega))
  unfold PutIs at P5
  rw [show putO 7 (hopD a) = _ from hp] at P5
  have hl := layN_len (hopE a) 1
  have hz1 : (⟨(layN (hopE a) 1).toArray⟩ : ByteArray).size ≤ 1 := by rw [mk_size]; exact hl
  have hzs : (hopS a).size ≤ 16 := by rw [hs]; unfold K1.sizeA; split <;> (try split) <;> (try split) <;> omega
  have hd : (⟨(layN (hopE a) 1).toArray⟩ : ByteArray) ++ ⟨(List.replicate 1 (0 : UInt8)).toArray⟩ ++ hopS a = hopD a := text_eq (by simp [ByteArray.data_append, hopD])
  have hz : (⟨(List.replicate 1 (0 : UInt8)).toArray⟩ : ByteArray).size = 1 := rfl
  generalize (⟨(layN (hopE a) 1).toArray⟩ : ByteArray) = u1 at *
  generalize (⟨(List.replicate 1 (0 : UInt8)).toArray⟩ : ByteArray) = u2 at *
  have c1 := cat_is u1 u2 _ (by omega) (by omega) rfl
  have hz12 : (u1 ++ u2).size ≤ 2 := by rw [ByteArray.size_append]; omega
  generalize u1 ++ u2 = u3 at *
  have c2 := cat_is u3 (hopS a) _ (by omega) (by omega) hd
  clear h h1 h3 hs hzd hp ho hl hz1 hzs hd hz hz12
  generalize (⟨(enc1 (hopD a, 7)).toArray⟩ : ByteArray) = u at *
  generalize hopD a = d at *
  generalize hopE a = ae at *
  generalize hopS a = sa at *
  generalize F1.putB 7 d = y at *
  go_enter Tryz.func110, Tryz.ntmps110
  go_wp2_with fail
  refine (P1.out _).mono ?_
  rintro r w1 ⟨rfl, rfl⟩
  go_wp2_with fail
  refine (P2.out _).mono ?_
  rintro r w1 ⟨rfl, hb⟩
  have HB := Lib.hid hb
  clear hb
  go_wp2_with fail
  refine (P3.out _).mono ?_
  rintro r w2 ⟨rfl, hb⟩
  have HB := Lib.hid (bcall HB.out hb)
  clear hb
  go_wp2_with fail
  refine (P4.out _).mono ?_
  rintro r w3 ⟨rfl, rfl⟩
  go_wp2_with fail
  refine (P5.out _).mono ?_
  rintro r w4 ⟨rfl, hb⟩
  have HB := Lib.hid (bcall HB.out hb)
  clear hb
  go_wp2
  go_ret
  exact ⟨rfl, HB.out⟩
/-- An Update's fields. -/
def hdU (m : M) (n : Int) : ByteArray := ⟨(layN m.ae 1 ++ (layN (flB m) 1 ++ (layN m.plen 1 ++ (layN n 1 ++ (layN m.interval 2 ++ (layN m.seq 2 ++ layN m.metric 2)))))).toArray⟩
theorem hd_size (m : M) (n : Int) : (hdU m n).size ≤ 10 := by
  unfold hdU
  rw [mk_size]
  simp only [List.length_append]
  have := layN_len m.ae 1; have := layN_len (flB m) 1; have := layN_len m.plen 1; have := layN_len n 1; have := layN_len m.interval 2; have := layN_len m.seq 2; have := layN_len m.metric 2
  omega
theorem hd_upd (m : M) (n : Nat) : hdU m n ++ ⟨((cutP m.ae m.pfx m.plen).data.toList.drop n).toArray⟩ ++ putS m.sl = updD m n := text_eq (by
  unfold hdU updD updL
  simp [ByteArray.data_append])
theorem lay_z (v : Int) (n : Nat) : (⟨(layN v n).toArray⟩ : ByteArray).size ≤ n := by rw [mk_size]; exact layN_len v n
set_option maxHeartbeats 6400000 in
theorem head_any (m : M) (n : Int) (w : World) (hm : m.In w) : Calls Tryz.prog 115 #[.agg m.cells, .int .i64 n] w fun e w' => e = .returned (.string (hdU m n)) ∧ Below w.heap.size w w' := by
  have HF := Lib.hid (Fs.new w m hm)
  have Q1 := Lib.hid (fun V => num_any m.ae 1 1 rfl (by decide) (by decide) V)
  have Q2 := Lib.hid (fun V => num_any (flB m) 1 1 rfl (by decide) (by decide) V)
  have Q3 := Lib.hid (fun V => num_any m.plen 1 1 rfl (by decide) (by decide) V)
  have Q4 := Lib.hid (fun V => num_any n 1 1 rfl (by decide) (by decide) V)
  have Q5 := Lib.hid (fun V => num_any m.interval 2 2 rfl (by decide) (by decide) V)
  have Q6 := Lib.hid (fun V => num_any m.seq 2 2 rfl (by decide) (by decide) V)
  have Q7 := Lib.hid (fun V => num_any m.metric 2 2 rfl (by decide) (by decide) V)
  have HD := Lib.hid (show (⟨(layN m.ae 1).toArray⟩ : ByteArray) ++ ⟨(layN (flB m) 1).toArray⟩ ++ ⟨(layN m.plen 1).toArray⟩ ++ ⟨(layN n 1).toArray⟩ ++ ⟨(layN m.interval 2).toArray⟩ ++ ⟨(layN m.seq 2).toArray⟩ ++ ⟨(layN m.metric 2).toArray⟩ = hdU m n from text_eq (by unfold hdU; simp [ByteArray.data_append]))
  have z1 := lay_z m.ae 1
  generalize (⟨(layN m.ae 1).toArray⟩ : ByteArray) = t1 at *
  have z2 := lay_z (flB m) 1
  generalize (⟨(layN (flB m) 1).toArray⟩ : ByteArray) = t2 at *
  have z3 := lay_z m.plen 1
  generalize (⟨(layN m.plen 1).toArray⟩ : ByteArray) = t3 at *
  have z4 := lay_z n 1
  generalize (⟨(layN n 1).toArray⟩ : ByteArray) = t4 at *
  have z5 := lay_z m.interval 2
  generalize (⟨(layN m.interval 2).toArray⟩ : ByteArray) = t5 at *
  have z6 := lay_z m.seq 2
  generalize (⟨(layN m.seq 2).toArray⟩ : ByteArray) = t6 at *
  have z7 := lay_z m.metric 2
  generalize (⟨(layN m.metric 2).toArray⟩ : ByteArray) = t7 at *
  have cat2 := cat_is t1 t2 _ (by omega) (by omega) rfl
  have y2 : (t1 ++ t2).size ≤ 2 := by rw [ByteArray.size_append]; omega
  generalize t1 ++ t2 = u2 at *
  have cat3 := cat_is u2 t3 _ (by omega) (by omega) rfl
  have y3 : (u2 ++ t3).size ≤ 3 := by rw [ByteArray.size_append]; omega
  generalize u2 ++ t3 = u3 at *
  have cat4 := cat_is u3 t4 _ (by omega) (by omega) rfl
  have y4 : (u3 ++ t4).size ≤ 4 := by rw [ByteArray.size_append]; omega
  generalize u3 ++ t4 = u4 at *
  have cat5 := cat_is u4 t5 _ (by omega) (by omega) rfl
  have y5 : (u4 ++ t5).size ≤ 6 := by rw [ByteArray.size_append]; omega
  generalize u4 ++ t5 = u5 at *
  have cat6 := cat_is u5 t6 _ (by omega) (by omega) rfl
  have y6 : (u5 ++ t6).size ≤ 8 := by rw [ByteArray.size_append]; omega
  generalize u5 ++ t6 = u6 at *
  have cat7 := cat_is u6 t7 _ (by omega) (by omega) HD.out
  clear hm HD z1 z2 z3 z4 z5 z6 z7 y2 y3 y4 y5 y6
  have HFL := Lib.hid (show flB m = if m.ae = 0 then 0 else 128 from rfl)
  generalize flB m = fl at *
  generalize hdU m n = hu at *
  by_cases h0 : m.ae = 0
  · rw [if_pos h0] at HFL
    obtain rfl := HFL.out
    have e0 : (m.ae == 0) = true := by simpa using h0
    clear HFL h0
    go_enter Tryz.func115, Tryz.ntmps115
    go_upto_region 1 with fail
    generalize w.alloc (.cells m.cells 29) = V at *
    have c5 := HF.out.m.cs.c5
    go_upto_region 4 with fail
    refine wp_region_held_drew (S := fun W => Fs w W w.heap.size m) (by kernel_rfl) HF.out.drew (fun hS => ?_)
    clear HF c5
    generalize V.drew = X0 at *
    refine H.tk (i := 0) (v := ?v0x1p) ?h0x1p hS ?_
    case h0x1p => (intro w hw; go_simp; first | done | (with_reducible rfl))
    try simp only [Act.put, List.setIfInBounds_toArray, List.set_cons_zero, List.set_cons_succ]
    refine H.tk (i := 1) (v := ?v1x2p) ?h1x2p hS ?_
    case h1x2p => (intro w hw; have c := (hw.m).cs.c5; go_simp; first | done | (with_reducible rfl))
    try simp only [Act.put, List.setIfInBounds_toArray, List.set_cons_zero, List.set_cons_succ]
    refine H.tk (i := 3) (v := ?v3x3p) ?h3x3p hS ?_
    case h3x3p => (intro w hw; go_simp; first | done | (with_reducible rfl))
    try simp only [Act.put, List.setIfInBounds_toArray, List.set_cons_zero, List.set_cons_succ]
    refine H.tk (i := 6) (v := ?v6x4p) ?h6x4p hS ?_
    case h6x4p => (intro w hw; go_simp; first | done | (with_reducible rfl))
    try simp only [Act.put, List.setIfInBounds_toArray, List.set_cons_zero, List.set_cons_succ]
    refine H.tk (i := 7) (v := ?v7x5p) ?h7x5p hS ?_
    case h7x5p => (intro w hw; have c := (hw.m).cs.c7; go_simp; first | done | (with_reducible rfl))
    try simp only [Act.put, List.setIfInBounds_toArray, List.set_cons_zero, List.set_cons_succ]
    refine H.tk (i := 10) (v := ?v10x6p) ?h10x6p hS ?_
    case h10x6p => (intro w hw; go_simp; first | done | (with_reducible rfl))
    try simp only [Act.put, List.setIfInBounds_toArray, List.set_cons_zero, List.set_cons_succ]
    refine H.tk (i := 13) (v := ?v13x7p) ?h13x7p hS ?_
    case h13x7p => (intro w hw; go_simp; first | done | (with_reducible rfl))
    try simp only [Act.put, List.setIfInBounds_toArray, List.set_cons_zero, List.set_cons_succ]
    refine H.tk (i := 14) (v := ?v14x8p) ?h14x8p hS ?_
    case h14x8p => (intro w hw; have c := (hw.m).cs.c14; go_simp; first | done | (with_reducible rfl))
    try simp only [Act.put, List.setIfInBounds_toArray, List.set_cons_zero, List.set_cons_succ]
    refine H.tk (i := 17) (v := ?v17x9p) ?h17x9p hS ?_
    case h17x9p => (intro w hw; go_simp; first | done | (with_reducible rfl))
    try simp only [Act.put, List.setIfInBounds_toArray, List.set_cons_zero, List.set_cons_succ]
    refine H.tk (i := 18) (v := ?v18x10p) ?h18x10p hS ?_
    case h18x10p => (intro w hw; have c := (hw.m).cs.c12; go_simp; first | done | (with_reducible rfl))
    try simp only [Act.put, List.setIfInBounds_toArray, List.set_cons_zero, List.set_cons_succ]
    refine H.tk (i := 21) (v := ?v21x11p) ?h21x11p hS ?_
    case h21x11p => (intro w hw; go_simp; first | done | (with_reducible rfl))
    try simp only [Act.put, List.setIfInBounds_toArray, List.set_cons_zero, List.set_cons_succ]
    refine H.tk (i := 22) (v := ?v22x12p) ?h22x12p hS ?_
    case h22x12p => (intro w hw; have c := (hw.m).cs.c10; go_simp; first | done | (with_reducible rfl))
    try simp only [Act.put, List.setIfInBounds_toArray, List.set_cons_zero, List.set_cons_succ]
    refine H.one (i := 2) (by simp only [List.getElem?_toArray, List.getElem?_cons_succ, List.getElem?_cons_zero]; rfl) (by kernel_rfl) (by kernel_rfl) (fun K hK => ?_)
    go_simp
    refine (Q1.out _).mono ?_
    rintro e X1 ⟨rfl, hb⟩
    have hS' := hS.call hb
    refine hK.out _ _ hS' ?_
    clear hK K hb hS
    have hS := hS'
    clear hS'
    try simp only [Act.put, List.setIfInBounds_toArray, List.set_cons_zero, List.set_cons_succ]
    refine H.one (i := 4) (by simp only [List.getElem?_toArray, List.getElem?_cons_succ, List.getElem?_cons_zero]; rfl) (by kernel_rfl) (by kernel_rfl) (fun K hK => ?_)
    go_simp
    refine (Q2.out _).mono ?_
    rintro e X2 ⟨rfl, hb⟩
    have hS' := hS.call hb
    refine hK.out _ _ hS' ?_
    clear hK K hb hS
    have hS := hS'
    clear hS'
    try simp only [Act.put, List.setIfInBounds_toArray, List.set_cons_zero, List.set_cons_succ]
    refine H.tk (i := 5) (v := ?v5x13p) ?h5x13p hS ?_
    case h5x13p => (intro w hw; go_simp; first | done | (with_reducible rfl))
    try simp only [Act.put, List.setIfInBounds_toArray, List.set_cons_zero, List.set_cons_succ]
    refine H.one (i := 8) (by simp only [List.getElem?_toArray, List.getElem?_cons_succ, List.getElem?_cons_zero]; rfl) (by kernel_rfl) (by kernel_rfl) (fun K hK => ?_)
    go_simp
    refine (Q3.out _).mono ?_
    rintro e X3 ⟨rfl, hb⟩
    have hS' := hS.call hb
    refine hK.out _ _ hS' ?_
    clear hK K hb hS
    have hS := hS'
    clear hS'
    try simp only [Act.put, List.setIfInBounds_toArray, List.set_cons_zero, List.set_cons_succ]
    refine H.tk (i := 9) (v := ?v9x14p) ?h9x14p hS ?_
    case h9x14p => (intro w hw; go_simp; first | done | (with_reducible rfl))
    try simp only [Act.put, List.setIfInBounds_toArray, List.set_cons_zero, List.set_cons_succ]
    refine H.one (i := 11) (by simp only [List.getElem?_toArray, List.getElem?_cons_succ, List.getElem?_cons_zero]; rfl) (by kernel_rfl) (by kernel_rfl) (fun K hK => ?_)
    go_simp
    refine (Q4.out _).mono ?_
    rintro e X4 ⟨rfl, hb⟩
    have hS' := hS.call hb
    refine hK.out _ _ hS' ?_
    clear hK K hb hS
    have hS := hS'
    clear hS'
    try simp only [Act.put, List.setIfInBounds_toArray, List.set_cons_zero, List.set_cons_succ]
    refine H.tk (i := 12) (v := ?v12x15p) ?h12x15p hS ?_
    case h12x15p => (intro w hw; go_simp; first | done | (with_reducible rfl))
    try simp only [Act.put, List.setIfInBounds_toArray, List.set_cons_zero, List.set_cons_succ]
    refine H.one (i := 15) (by simp only [List.getElem?_toArray, List.getElem?_cons_succ, List.getElem?_cons_zero]; rfl) (by kernel_rfl) (by kernel_rfl) (fun K hK => ?_)
    go_simp
    refine (Q5.out _).mono ?_
    rintro e X5 ⟨rfl, hb⟩
    have hS' := hS.call hb
    refine hK.out _ _ hS' ?_
    clear hK K hb hS
    have hS := hS'
    clear hS'
    try simp only [Act.put, List.setIfInBounds_toArray, List.set_cons_zero, List.set_cons_succ]
    refine H.tk (i := 16) (v := ?v16x16p) ?h16x16p hS ?_
    case h16x16p => (intro w hw; go_simp; first | done | (with_reducible rfl))
    try simp only [Act.put, List.setIfInBounds_toArray, List.set_cons_zero, List.set_cons_succ]
    refine H.one (i := 19) (by simp only [List.getElem?_toArray, List.getElem?_cons_succ, List.getElem?_cons_zero]; rfl) (by kernel_rfl) (by kernel_rfl) (fun K hK => ?_)
    go_simp
    refine (Q6.out _).mono ?_
    rintro e X6 ⟨rfl, hb⟩
    have hS' := hS.call hb
    refine hK.out _ _ hS' ?_
    clear hK K hb hS
    have hS := hS'
    clear hS'
    try simp only [Act.put, List.setIfInBounds_toArray, List.set_cons_zero, List.set_cons_succ]
    refine H.tk (i := 20) (v := ?v20x17p) ?h20x17p hS ?_
    case h20x17p => (intro w hw; go_simp; first | done | (with_reducible rfl))
    try simp only [Act.put, List.setIfInBounds_toArray, List.set_cons_zero, List.set_cons_succ]
    refine H.one (i := 23) (by simp only [List.getElem?_toArray, List.getElem?_cons_succ, List.getElem?_cons_zero]; rfl) (by kernel_rfl) (by kernel_rfl) (fun K hK => ?_)
    go_simp
    refine (Q7.out _).mono ?_
    rintro e X7 ⟨rfl, hb⟩
    have hS' := hS.call hb
    refine hK.out _ _ hS' ?_
    clear hK K hb hS
    have hS := hS'
    clear hS'
    try simp only [Act.put, List.setIfInBounds_toArray, List.set_cons_zero, List.set_cons_succ]
    refine H.tk (i := 24) (v := ?v24x18p) ?h24x18p hS ?_
    case h24x18p => (intro w hw; go_simp; first | done | (with_reducible rfl))
    try simp only [Act.put, List.setIfInBounds_toArray, List.set_cons_zero, List.set_cons_succ]
    refine H.tk (i := 25) (v := ?v25x19p) ?h25x19p hS ?_
    case h25x19p => (intro w hw; go_simp; first | done | (with_reducible rfl))
    try simp only [Act.put, List.setIfInBounds_toArray, List.set_cons_zero, List.set_cons_succ]
    refine wpAnyH_done (by kernel_rfl) ?_ _
    go_wp2
    go_ret
    exact ⟨rfl, hS.bel⟩
  rw [if_neg h0] at HFL
  obtain rfl := HFL.out
  have e0 : (m.ae == 0) = false := by simpa using h0
  clear HFL h0
  go_enter Tryz.func115, Tryz.ntmps115
  go_upto_region 1 with fail
  generalize w.alloc (.cells m.cells 29) = V at *
  have c5 := HF.out.m.cs.c5
  go_upto_region 4 with fail
  refine wp_region_held_drew (S := fun W => Fs w W w.heap.size m) (by kernel_rfl) HF.out.drew (fun hS => ?_)
  clear HF c5
  generalize V.drew = X0 at *
  refine H.tk (i := 0) (v := ?v0x1) ?h0x1 hS ?_
  case h0x1 => (intro w hw; go_simp; first | done | (with_reducible rfl))
  try simp only [Act.put, List.setIfInBounds_toArray, List.set_cons_zero, List.set_cons_succ]
  refine H.tk (i := 1) (v := ?v1x2) ?h1x2 hS ?_
  case h1x2 => (intro w hw; have c := (hw.m).cs.c5; go_simp; first | done | (with_reducible rfl))
  try simp only [Act.put, List.setIfInBounds_toArray, List.set_cons_zero, List.set_cons_succ]
  refine H.tk (i := 3) (v := ?v3x3) ?h3x3 hS ?_
  case h3x3 => (intro w hw; go_simp; first | done | (with_reducible rfl))
  try simp only [Act.put, List.setIfInBounds_toArray, List.set_cons_zero, List.set_cons_succ]
  refine H.tk (i := 6) (v := ?v6x4) ?h6x4 hS ?_
  case h6x4 => (intro w hw; go_simp; first | done | (with_reducible rfl))
  try simp only [Act.put, List.setIfInBounds_toArray, List.set_cons_zero, List.set_cons_succ]
  refine H.tk (i := 7) (v := ?v7x5) ?h7x5 hS ?_
  case h7x5 => (intro w hw; have c := (hw.m).cs.c7; go_simp; first | done | (with_reducible rfl))
  try simp only [Act.put, List.setIfInBounds_toArray, List.set_cons_zero, List.set_cons_succ]
  refine H.tk (i := 10) (v := ?v10x6) ?h10x6 hS ?_
  case h10x6 => (intro w hw; go_simp; first | done | (with_reducible rfl))
  try simp only [Act.put, List.setIfInBounds_toArray, List.set_cons_zero, List.set_cons_succ]
  refine H.tk (i := 13) (v := ?v13x7) ?h13x7 hS ?_
  case h13x7 => (intro w hw; go_simp; first | done | (with_reducible rfl))
  try simp only [Act.put, List.setIfInBounds_toArray, List.set_cons_zero, List.set_cons_succ]
  refine H.tk (i := 14) (v := ?v14x8) ?h14x8 hS ?_
  case h14x8 => (intro w hw; have c := (hw.m).cs.c14; go_simp; first | done | (with_reducible rfl))
  try simp only [Act.put, List.setIfInBounds_toArray, List.set_cons_zero, List.set_cons_succ]
  refine H.tk (i := 17) (v := ?v17x9) ?h17x9 hS ?_
  case h17x9 => (intro w hw; go_simp; first | done | (with_reducible rfl))
  try simp only [Act.put, List.setIfInBounds_toArray, List.set_cons_zero, List.set_cons_succ]
  refine H.tk (i := 18) (v := ?v18x10) ?h18x10 hS ?_
  case h18x10 => (intro w hw; have c := (hw.m).cs.c12; go_simp; first | done | (with_reducible rfl))
  try simp only [Act.put, List.setIfInBounds_toArray, List.set_cons_zero, List.set_cons_succ]
  refine H.tk (i := 21) (v := ?v21x11) ?h21x11 hS ?_
  case h21x11 => (intro w hw; go_simp; first | done | (with_reducible rfl))
  try simp only [Act.put, List.setIfInBounds_toArray, List.set_cons_zero, List.set_cons_succ]
  refine H.tk (i := 22) (v := ?v22x12) ?h22x12 hS ?_
  case h22x12 => (intro w hw; have c := (hw.m).cs.c10; go_simp; first | done | (with_reducible rfl))
  try simp only [Act.put, List.setIfInBounds_toArray, List.set_cons_zero, List.set_cons_succ]
  refine H.one (i := 2) (by simp only [List.getElem?_toArray, List.getElem?_cons_succ, List.getElem?_cons_zero]; rfl) (by kernel_rfl) (by kernel_rfl) (fun K hK => ?_)
  go_simp
  refine (Q1.out _).mono ?_
  rintro e X1 ⟨rfl, hb⟩
  have hS' := hS.call hb
  refine hK.out _ _ hS' ?_
  clear hK K hb hS
  have hS := hS'
  clear hS'
  try simp only [Act.put, List.setIfInBounds_toArray, List.set_cons_zero, List.set_cons_succ]
  refine H.one (i := 4) (by simp only [List.getElem?_toArray, List.getElem?_cons_succ, List.getElem?_cons_zero]; rfl) (by kernel_rfl) (by kernel_rfl) (fun K hK => ?_)
  go_simp
  refine (Q2.out _).mono ?_
  rintro e X2 ⟨rfl, hb⟩
  have hS' := hS.call hb
  refine hK.out _ _ hS' ?_
  clear hK K hb hS
  have hS := hS'
  clear hS'
  try simp only [Act.put, List.setIfInBounds_toArray, List.set_cons_zero, List.set_cons_succ]
  refine H.tk (i := 5) (v := ?v5x13) ?h5x13 hS ?_
  case h5x13 => (intro w hw; go_simp; first | done | (with_reducible rfl))
  try simp only [Act.put, List.setIfInBounds_toArray, List.set_cons_zero, List.set_cons_succ]
  refine H.one (i := 8) (by simp only [List.getElem?_toArray, List.getElem?_cons_succ, List.getElem?_cons_zero]; rfl) (by kernel_rfl) (by kernel_rfl) (fun K hK => ?_)
  go_simp
  refine (Q3.out _).mono ?_
  rintro e X3 ⟨rfl, hb⟩
  have hS' := hS.call hb
  refine hK.out _ _ hS' ?_
  clear hK K hb hS
  have hS := hS'
  clear hS'
  try simp only [Act.put, List.setIfInBounds_toArray, List.set_cons_zero, List.set_cons_succ]
  refine H.tk (i := 9) (v := ?v9x14) ?h9x14 hS ?_
  case h9x14 => (intro w hw; go_simp; first | done | (with_reducible rfl))
  try simp only [Act.put, List.setIfInBounds_toArray, List.set_cons_zero, List.set_cons_succ]
  refine H.one (i := 11) (by simp only [List.getElem?_toArray, List.getElem?_cons_succ, List.getElem?_cons_zero]; rfl) (by kernel_rfl) (by kernel_rfl) (fun K hK => ?_)
  go_simp
  refine (Q4.out _).mono ?_
  rintro e X4 ⟨rfl, hb⟩
  have hS' := hS.call hb
  refine hK.out _ _ hS' ?_
  clear hK K hb hS
  have hS := hS'
  clear hS'
  try simp only [Act.put, List.setIfInBounds_toArray, List.set_cons_zero, List.set_cons_succ]
  refine H.tk (i := 12) (v := ?v12x15) ?h12x15 hS ?_
  case h12x15 => (intro w hw; go_simp; first | done | (with_reducible rfl))
  try simp only [Act.put, List.setIfInBounds_toArray, List.set_cons_zero, List.set_cons_succ]
  refine H.one (i := 15) (by simp only [List.getElem?_toArray, List.getElem?_cons_succ, List.getElem?_cons_zero]; rfl) (by kernel_rfl) (by kernel_rfl) (fun K hK => ?_)
  go_simp
  refine (Q5.out _).mono ?_
  rintro e X5 ⟨rfl, hb⟩
  have hS' := hS.call hb
  refine hK.out _ _ hS' ?_
  clear hK K hb hS
  have hS := hS'
  clear hS'
  try simp only [Act.put, List.setIfInBounds_toArray, List.set_cons_zero, List.set_cons_succ]
  refine H.tk (i := 16) (v := ?v16x16) ?h16x16 hS ?_
  case h16x16 => (intro w hw; go_simp; first | done | (with_reducible rfl))
  try simp only [Act.put, List.setIfInBounds_toArray, List.set_cons_zero, List.set_cons_succ]
  refine H.one (i := 19) (by simp only [List.getElem?_toArray, List.getElem?_cons_succ, List.getElem?_cons_zero]; rfl) (by kernel_rfl) (by kernel_rfl) (fun K hK => ?_)
  go_simp
  refine (Q6.out _).mono ?_
  rintro e X6 ⟨rfl, hb⟩
  have hS' := hS.call hb
  refine hK.out _ _ hS' ?_
  clear hK K hb hS
  have hS := hS'
  clear hS'
  try simp only [Act.put, List.setIfInBounds_toArray, List.set_cons_zero, List.set_cons_succ]
  refine H.tk (i := 20) (v := ?v20x17) ?h20x17 hS ?_
  case h20x17 => (intro w hw; go_simp; first | done | (with_reducible rfl))
  try simp only [Act.put, List.setIfInBounds_toArray, List.set_cons_zero, List.set_cons_succ]
  refine H.one (i := 23) (by simp only [List.getElem?_toArray, List.getElem?_cons_succ, List.getElem?_cons_zero]; rfl) (by kernel_rfl) (by kernel_rfl) (fun K hK => ?_)
  go_simp
  refine (Q7.out _).mono ?_
  rintro e X7 ⟨rfl, hb⟩
  have hS' := hS.call hb
  refine hK.out _ _ hS' ?_
  clear hK K hb hS
  have hS := hS'
  clear hS'
  try simp only [Act.put, List.setIfInBounds_toArray, List.set_cons_zero, List.set_cons_succ]
  refine H.tk (i := 24) (v := ?v24x18) ?h24x18 hS ?_
  case h24x18 => (intro w hw; go_simp; first | done | (with_reducible rfl))
  try simp only [Act.put, List.setIfInBounds_toArray, List.set_cons_zero, List.set_cons_succ]
  refine H.tk (i := 25) (v := ?v25x19) ?h25x19 hS ?_
  case h25x19 => (intro w hw; go_simp; first | done | (with_reducible rfl))
  try simp only [Act.put, List.setIfInBounds_toArray, List.set_cons_zero, List.set_cons_succ]
  refine wpAnyH_done (by kernel_rfl) ?_ _
  go_wp2
  go_ret
  exact ⟨rfl, hS.bel⟩
end Go.Proofs.YtfegdblaohhdoaaGreatDoor.L4
namespace Go.Proofs.YtfegdblaohhdoaaGreatDoor.S3
open Go.ChangeShapes Go.WideShapes Go.ChangeAt Go.RowKit
open Go.Proofs.YtfegdblaohhdoaaGreatDoor.Ms
open Go.Proofs.YtfegdblaohhdoaaGreatDoor.Cnt
open Go.Proofs.YtfegdblaohhdoaaGreatDoor.S1
open Go.Proofs.YtfegdblaohhdoaaGreatDoor.S2
open Go.Proofs.YtfegdblaohhdoaaGreatDoor.F1 (enc1 encT encT_snoc enc1_len putB putO put_ok)
open Go.Proofs.YtfegdblaohhdoaaGreatDoor.F6 (PutIs)
open Go.Proofs.YtfegdblaohhdoaaGreatDoor.Sx (cellsS)
open Go.Proofs.YtfegdblaohhdoaaGreatDoor.Sb (Bld)
open Go.Proofs.YtfegdblaohhdoaaGreatDoor.Bk (Bk)
set_option linter.unusedVariables false
set_option maxRecDepth 100000
set_option maxRecDepth 100000

theorem pair_eq {s t : ByteArray} {b c : Bool} (h : s = t) (k : b = c) : Ending.returned (.tuple #[.string s, .bool b]) = .returned (.tuple #[.string t, .bool c]) := by rw [h, k]
theorem enc_take (l : List El) (k : Nat) (h : k < l.length) : encT (l.take (k + 1)) = encT (l.take k) ++ enc1 l[k] := by
  rw [List.take_succ_eq_append_getElem h, encT_snoc]
theorem enc_most {l : List El} (h : okS l = true) (k : Nat) : (encT (l.take k)).length ≤ 200 := by
  have h2 := okS_take h k
  rw [enc_len (okS_may h2)]
  exact okS_size h2
theorem Bld.below {B b : Nat} {l : List UInt8} {w w' : World} (h : Bld B b l w) (hb : Below w.heap.size w w') : Bld B b l w' := Sb.bld_kept h hb
/-- What layer 18's Put says of a Sub that may be. -/
theorem tlv_of {x : El} (h0 : 2 ≤ x.2) (h1 : x.2 ≤ 127) (h2 : x.1.size ≤ 255) {w w' : World} {e : Ending} (h : PutIs x.2 x.1 w e w') :
    e = .returned (.tuple #[.string ⟨(enc1 x).toArray⟩, .bool true]) ∧ Below w.heap.size w w' := by
  obtain ⟨h3, h4⟩ := h
  obtain ⟨a, b⟩ := put_ok (x := x) ⟨by omega, by omega, h2, fun h => by omega⟩ (by omega)
  rw [a, b] at h3
  exact ⟨h3, h4⟩

set_option maxHeartbeats 3200000 in
theorem put_any (a : Option Addr) (c : Nat) (l : List El) (w : World) (hl : SRow w a l) (ln : l.length ≤ 2000) (lb : ∀ x ∈ l, x.1.size ≤ 1099511627776) :
    Calls Tryz.prog 114 #[.slice a l.length c] w fun e w' => e = .returned (.tuple #[.string (putS l), .bool (okS l)]) ∧ Below w.heap.size w w' := by
  have P := Lib.hid (right_any a c l w hl (by omega) lb)
  have HL := Lib.hid hl
  clear lb hl
  by_cases hok : okS l = true
  rotate_left
  · have hok : okS l = false := by simpa using hok
    have HP := Lib.hid (putS_no hok)
    rw [hok] at P
    have HK := Lib.hid hok
    clear hok
    go_enter Tryz.func114, Tryz.ntmps114
    go_wp2_with fail
    refine P.out.mono ?_
    rintro e w1 ⟨rfl, hb⟩
    go_wp2
    go_ret2
    exact ⟨pair_eq HP.out.symm HK.out.symm, hb⟩
  have HP := Lib.hid (putS_yes hok)
  have HM := Lib.hid (may_mem (okS_may hok))
  have HN := Lib.hid (enc_most hok)
  have HS := Lib.hid (okS_size hok)
  rw [hok] at P
  have HK := Lib.hid hok
  have HLn := Lib.hid ln
  clear hok ln
  go_enter Tryz.func114, Tryz.ntmps114
  go_wp2_with fail
  refine P.out.mono ?_
  rintro e w1 ⟨rfl, hb⟩
  have HB := Lib.hid hb
  clear hb P
  go_upto_region 4 with fail
  have HG := Lib.hid (Bk.Bk.new 73 w1 #[.pointer none, .slice none 0 0])
  have HSz : Hid (w.heap.size ≤ w1.heap.size) := Lib.hid HB.out.size
  have HB := Lib.hid (HB.out.alloc HB.out.size (.cells #[.pointer none, .slice none 0 0] 73))
  generalize w1.alloc (.cells #[.pointer none, .slice none 0 0] 73) = W at *
  generalize w1.heap.size = g at *
  have PB := Lib.hid (bytes_any a c l W (HL.out.below HB.out) (by have := HLn.out; omega) (by have := HS.out; omega))
  go_wp2_with fail
  refine PB.out.mono ?_
  rintro e w2 ⟨rfl, hb⟩
  have HG := Lib.hid (HG.out.below hb)
  have HB := Lib.hid (bcall HB.out hb)
  clear hb PB
  go_wp2_with fail
  refine (Tryz.Builder_Grow_fresh w.heap.size g (bytesN l) w2 HSz.out HG.out HB.out.size (by have := HS.out; omega)).mono ?_
  rintro e w3 ⟨rfl, hg, hb⟩
  have HW : Hid (Bld w.heap.size g (encT (l.take 0)) w3) := Lib.hid (.inr hg)
  have HB := Lib.hid (HB.out.trans hb)
  clear hb hg HG HSz
  go_wp2
  go_loopw [17] (fun i wr => ∃ k : Nat, k ≤ l.length ∧ i = .int .i64 k ∧ Hid (Bld w.heap.size g (encT (l.take k)) wr) ∧ Hid (Below w.heap.size w wr)) (fun i _ => l.length - (intOf i).toNat)
  case atStart => exact ⟨0, Nat.zero_le _, rfl, HW, HB⟩
  case round =>
    obtain ⟨k, hk, rfl, HD, HR⟩ := hrel
    clear HW HB
    by_cases hlt : k < l.length
    · obtain ⟨p, rfl, hp, c0, c1⟩ := (HL.out.below HR.out) k hlt
      have HT := Lib.hid (enc_take l k hlt)
      have hk2 : (k : Int) ≤ 2000 := by have := HLn.out; omega
      have hm := HM.out _ (List.getElem_mem hlt)
      have HL1 := Lib.hid (HN.out k)
      have HL2 := Lib.hid (HN.out (k + 1))
      rw [add_one] at c1
      generalize l[k] = u at *
      generalize encT (l.take k) = bs at *
      obtain ⟨d, n⟩ := u
      obtain ⟨h0, h1, h2⟩ := hm
      simp only [] at h0 h1 h2 c0 c1
      have PP := Lib.hid (fun V => (F6.put_any n d V (by omega)).mono fun e w' h => tlv_of (x := (d, n)) h0 h1 h2 h)
      generalize hz : (⟨(enc1 (d, n)).toArray⟩ : ByteArray) = z at *
      have HT : Hid (encT (l.take (k + 1)) = bs ++ z.data.toList) := Lib.hid (by rw [HT.out, ← hz])
      have HL2 : Hid (bs.length + z.size ≤ 200) := Lib.hid (by
        have := HL2.out
        rw [HT.out, List.length_append] at this
        simpa using this)
      clear hz h0 h1 h2
      have HDo := HD
      have HX := Lib.hid (Bk.Bk.new 46 wr (cellsS (d, n)))
      have HD := Lib.hid (Bld.below HD.out (balloc (Below.refl _ wr) (.cells (cellsS (d, n)) 46)))
      have HR := Lib.hid (HR.out.alloc HR.out.size (.cells (cellsS (d, n)) 46))
      clear HDo
      go_upto_region 8 with fail
      change Code.wp _ _ _ _ (wr.alloc (.cells (cellsS (d, n)) 46))
      generalize wr.alloc (.cells (cellsS (d, n)) 46) = W at *
      generalize wr.heap.size = q at *
      clear c0 c1 hp
      have c0 := HX.out.cell 0 (.int .i64 n) rfl
      have c1 := HX.out.cell 1 (.string d) rfl
      go_wp2_with fail
      refine (PP.out _).mono ?_
      rintro e w4 ⟨rfl, hb⟩
      have HD := Lib.hid (Bld.below HD.out hb)
      have HR := Lib.hid (bcall HR.out hb)
      clear hb c0 c1 HX PP
      go_wp2_with fail
      refine (Sb.str_any w.heap.size g bs z _ HD.out (by have := HL2.out; omega) HR.out.size).mono ?_
      rintro e w6 ⟨rfl, hd, hb, ho⟩
      have HD : Hid (Bld w.heap.size g (encT (l.take (k + 1))) w6) := Lib.hid (by
        rw [HT.out]
        exact hd)
      have HR := Lib.hid (HR.out.trans hb)
      clear hd hb ho
      go_wp2
      go_roundw
      case rel => exact ⟨k + 1, hlt, by go_num, HD, HR⟩
      case measure => simp [intOf]; omega
    · obtain rfl : k = l.length := by omega
      rw [List.take_length] at HD
      go_wp2_with fail
      refine (Sb.text_any w.heap.size g _ wr HD.out HR.out.size).mono ?_
      rintro e w4 ⟨rfl, hb⟩
      have HR := Lib.hid (HR.out.trans hb)
      clear hb HD
      go_wp2
      go_ret2
      exact ⟨pair_eq HP.out.symm HK.out.symm, HR.out⟩
end Go.Proofs.YtfegdblaohhdoaaGreatDoor.S3
