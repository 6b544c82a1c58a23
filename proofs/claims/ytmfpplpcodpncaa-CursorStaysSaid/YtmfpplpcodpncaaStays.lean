/-
  CursorStays, of every string and every list of numbers: whatever is taken, a cursor never leaves its End and never goes back; once it is Bad it stays as it is. No condition.
-/
import Derived.Test.YtmfpplpcodpncaaStaysL
import Derived.Test.YtmfpplpcodpncaaAwake
import Derived.Test.YtmfpplpcodpncaaCarve
import Derived.Lib.SmallJoins
import Derived.Deep.RegionHeld3
import Derived.Deep.DeepCutAuto
import Derived.Deep.CutBlock
import Derived.Deep.QuietTactic
import Derived.BigQuiet
import Derived.Deep.LoopGhost
import Derived.ChangeOld
namespace Go.Proofs.Ytmfpplpcodpncaa.cursorStays
open Go.ChangeShapes Go.WideShapes Go.ChangeAt Go.RowKit
open Go.ChangeMaps (open_string shut_string)
open Go.Proofs.Ytmfpplpcodpncaa.Cur
set_option linter.unusedVariables false

theorem own : ownKnob Try.prog.godebug = none := by kernel_rfl
theorem laidOut : laidOutB Try.prog = true := by kernel_rfl

/-- a slice of integers that came in: nil, or a row of cells -/
def IsRow (k : IntKind) (w : World) (a : Option Addr) (len cap : Nat) (zs : List Int) : Prop :=
  (a = none ∧ len = 0 ∧ cap = 0 ∧ zs = []) ∨
  ∃ x, a = some x ∧ len ≤ cap ∧ cap ≤ maxLen ∧ zs.length = cap ∧ (∀ i, i < zs.length → w.cell? (x.add i) = some (.int k (zs.getD i 0))) ∧ ∀ n ∈ zs, (Lit.int k n).wf = true

set_option maxRecDepth 100000 in
set_option maxHeartbeats 12000000 in
theorem walk_main (s : ByteArray) (x : Option Addr) (len cap : Nat) (zs : List Int) (w : World) (hs : s.size ≤ maxLen) (hrow : IsRow .i8 w x len cap zs) (h : s.size ≤ 300) (hl : len ≤ 60) :
    Calls Try.prog 5 #[.string s, .slice x len cap] w fun e w' => e = .returned (.bool true) ∧ Below w.heap.size w w' := by
  have hm := hs
  unfold maxLen at hm
  go_enter Try.func5, Try.ntmps5
  go_wp2_with fail
  refine (new_any s _ hs).mono ?_
  rintro e w1 ⟨rfl, hb1⟩
  go_wp2_with fail
  have B0 : Box (w1.alloc (.cells #[.string s, .int .i64 0, .int .i64 s.size, .bool false] 23)) w1.heap.size s 0 s.size false := box_new _ _ _ _ _
  have bel1 : Below w.heap.size w (w1.alloc (.cells #[.string s, .int .i64 0, .int .i64 s.size, .bool false] 23)) := balloc (bcall (Below.refl _ _) hb1) _
  have hk5w : w.heap.size ≤ w1.heap.size := hb1.size
  clear hb1
  generalize w1.alloc _ = W at *
  generalize w1.heap.size = k5 at *
  have HR := Lib.hid hrow
  clear hrow
  go_loopg [6] len (fun g p wr => ∃ (j a : Nat) (b : Bool), j + g = len ∧ p = .int .i64 j ∧ a ≤ s.size ∧ Box wr k5 s a s.size b ∧ Below w.heap.size w wr)
  case atStart => exact ⟨0, 0, false, by omega, rfl, by omega, B0, bel1⟩
  case round =>
    obtain ⟨j, a, b, hj, rfl, ha, Bc, bel⟩ := hrel
    by_cases hlt : j < len
    · obtain ⟨xb, off, z, rfl, hcz, wz, hnn⟩ : ∃ (xb off : Nat) (z : Int), x = some ⟨xb, off, none⟩ ∧ wr.cell? ⟨xb, off + j, none⟩ = some (.int .i8 z) ∧ (Lit.int .i8 z).wf = true ∧ len ≤ cap := by
        rcases HR.out with ⟨_, h0, _, _⟩ | ⟨y, hy, hlc, _, hzl, hc, hwz⟩
        · omega
        · obtain ⟨yb, yo, rfl, hc'⟩ := ints_at hc (by omega)
          have h2 : w.cell? ⟨yb, yo + j, none⟩ = some (.int .i8 (zs.getD j 0)) := hc' j (by omega)
          refine ⟨yb, yo, zs.getD j 0, hy, ?_, ?_, hlc⟩
          · rw [bel.cell (p := ⟨yb, yo + j, none⟩) (World.block_lt_of_cell? w _ h2)]; exact h2
          · have hjz : j < zs.length := by omega
            have := hwz (zs[j]) (List.getElem_mem hjz)
            simpa [List.getD_eq_getElem?_getD, List.getElem?_eq_getElem hjz] using this
      have bz := bounds_i8 wz
      have ez : wrap64 z = z := IntWalk.wrap64_in _ (by omega)
      have ez' : IntKind.i64.wrap z = z := IntWalk.i64_in _ (by omega)
      have hj1 : (j : Int) < (len : Int) := by omega
      have hj0 : (0 : Int) ≤ (j : Int) := by omega
      go_upto_block 2 with fail
      have C0 : Box (wr.alloc (.cells #[.string { data := #[] }, .int .i64 0, .int .i64 0, .bool false] 23)) wr.heap.size { data := #[] } 0 0 false := box_new _ _ _ _ _
      have C1 : Box (wr.alloc (.cells #[.string { data := #[] }, .int .i64 0, .int .i64 0, .bool false] 23)) k5 s a s.size b := box_old Bc _
      have hcz1 : (wr.alloc (.cells #[.string { data := #[] }, .int .i64 0, .int .i64 0, .bool false] 23)).cell? ⟨xb, off + j, none⟩ = some (.int .i8 z) := by
        have := ((Below.refl _ _).alloc (Nat.le_refl _) (.cells #[.string { data := #[] }, .int .i64 0, .int .i64 0, .bool false] 23) : Below wr.heap.size wr _)
        rw [this.cell (p := ⟨xb, off + j, none⟩) (World.block_lt_of_cell? wr _ hcz)]; exact hcz
      have bel2 : Below w.heap.size w (wr.alloc (.cells #[.string { data := #[] }, .int .i64 0, .int .i64 0, .bool false] 23)) := balloc bel _
      have hk : k5 < wr.heap.size := Bc.2.2
      have hkw : w.heap.size ≤ wr.heap.size := bel.size
      have hxne : xb ≠ wr.heap.size := by have := World.block_lt_of_cell? wr _ hcz; simp at this; omega
      generalize wr.alloc _ = W1 at *
      generalize wr.heap.size = k7 at *
      have h57 : k5 ≠ k7 := by omega
      have hx7 : xb ≠ k7 := hxne
      clear Bc bel hcz
      go_cut [7, 27] (fun s7 _ wx => ∃ (a' : Nat) (b' : Bool), s7 = .pointer (some ⟨k7, 0, none⟩) ∧ Step a a' s.size b b' ∧ Box wx k5 s a s.size b ∧ Box wx k7 s a' s.size b' ∧ Below w.heap.size w wx)
      case first =>
        rcases (show j % 3 = 0 ∨ j % 3 = 1 ∨ j % 3 = 2 by omega) with hm3 | hm3 | hm3
        · have e3 : (j : Int) % 3 = 0 := by omega
          obtain ⟨v, a', b', hst, hN⟩ := num_moved s a s.size z b hs ha (Nat.le_refl _)
          have HN := Lib.hid hN
          have HS := Lib.hid hst
          clear hN hst
          obtain ⟨⟨c0, c1, c2, c3⟩, f5, l5⟩ := C1
          have H0 : HeldN w k5 k7 xb (off + j) s a s.size b z W1 := ⟨c0, c1, c2, c3, hcz1, cellOf_of C0.1.1, cellOf_of C0.1.2.1, cellOf_of C0.1.2.2.1, cellOf_of C0.1.2.2.2, C0.2.1, C0.2.2, f5, l5, bel2⟩
          clear C0
          go_upto_region 14 with fail
          go_region_held3 (fun W' => W'.cell? ⟨k5, 0, none⟩ = some (.string s) ∧ W'.cell? ⟨k5, 1, none⟩ = some (.int .i64 (a : Int)) ∧ W'.cell? ⟨k5, 2, none⟩ = some (.int .i64 (s.size : Int)) ∧ W'.cell? ⟨k5, 3, none⟩ = some (.bool b) ∧ W'.cell? ⟨xb, off + j, none⟩ = some (.int .i8 z) ∧ W'.cell? ⟨k7, 0, none⟩ = some (cellOf W' ⟨k7, 0, none⟩) ∧ W'.cell? ⟨k7, 1, none⟩ = some (cellOf W' ⟨k7, 1, none⟩) ∧ W'.cell? ⟨k7, 2, none⟩ = some (cellOf W' ⟨k7, 2, none⟩) ∧ W'.cell? ⟨k7, 3, none⟩ = some (cellOf W' ⟨k7, 3, none⟩) ∧ (∀ o, W'.frozen? ⟨k7, o, none⟩ = false) ∧ k7 < W'.heap.size ∧ (∀ o, W'.frozen? ⟨k5, o, none⟩ = false) ∧ k5 < W'.heap.size ∧ Below w.heap.size w W')
            ((show HeldN w k5 k7 xb (off + j) s a s.size b z _; first | (with_reducible assumption) | (with_reducible exact heldN_mono _ _ H0 (Below.refl _ _).drew) | (with_reducible refine heldN_put h57 hx7 hkw ?_ _ _ _ _; with_reducible assumption)))
            (first
              | (go_at_call 12; refine (heldP (HeldN w k5 k7 xb (off + j) s a s.size b z) heldN_mono (HN.out _) ?_).mono ?_; assumption; rintro e w2 ⟨rfl, hS'⟩))
          go_wp2_with fail
          go_meet
          case rel => exact ⟨a', b', rfl, HS.out, (heldN_box h57 hkw hS' _ _ _ _).2.1, (heldN_box h57 hkw hS' _ _ _ _).1, (heldN_box h57 hkw hS' _ _ _ _).2.2⟩
        · have e3 : (j : Int) % 3 = 1 := by omega
          obtain ⟨v, a', b', hst, hN⟩ := text_moved s a s.size z b hs ha (Nat.le_refl _)
          have HN := Lib.hid hN
          have HS := Lib.hid hst
          clear hN hst
          obtain ⟨⟨c0, c1, c2, c3⟩, f5, l5⟩ := C1
          have H0 : HeldN w k5 k7 xb (off + j) s a s.size b z W1 := ⟨c0, c1, c2, c3, hcz1, cellOf_of C0.1.1, cellOf_of C0.1.2.1, cellOf_of C0.1.2.2.1, cellOf_of C0.1.2.2.2, C0.2.1, C0.2.2, f5, l5, bel2⟩
          clear C0
          go_upto_region 16 with fail
          go_region_held3 (fun W' => W'.cell? ⟨k5, 0, none⟩ = some (.string s) ∧ W'.cell? ⟨k5, 1, none⟩ = some (.int .i64 (a : Int)) ∧ W'.cell? ⟨k5, 2, none⟩ = some (.int .i64 (s.size : Int)) ∧ W'.cell? ⟨k5, 3, none⟩ = some (.bool b) ∧ W'.cell? ⟨xb, off + j, none⟩ = some (.int .i8 z) ∧ W'.cell? ⟨k7, 0, none⟩ = some (cellOf W' ⟨k7, 0, none⟩) ∧ W'.cell? ⟨k7, 1, none⟩ = some (cellOf W' ⟨k7, 1, none⟩) ∧ W'.cell? ⟨k7, 2, none⟩ = some (cellOf W' ⟨k7, 2, none⟩) ∧ W'.cell? ⟨k7, 3, none⟩ = some (cellOf W' ⟨k7, 3, none⟩) ∧ (∀ o, W'.frozen? ⟨k7, o, none⟩ = false) ∧ k7 < W'.heap.size ∧ (∀ o, W'.frozen? ⟨k5, o, none⟩ = false) ∧ k5 < W'.heap.size ∧ Below w.heap.size w W')
            ((show HeldN w k5 k7 xb (off + j) s a s.size b z _; first | (with_reducible assumption) | (with_reducible exact heldN_mono _ _ H0 (Below.refl _ _).drew) | (with_reducible refine heldN_put h57 hx7 hkw ?_ _ _ _ _; with_reducible assumption)))
            (first
              | (go_at_call 14; refine (heldP (HeldN w k5 k7 xb (off + j) s a s.size b z) heldN_mono (HN.out _) ?_).mono ?_; assumption; rintro e w2 ⟨rfl, hS'⟩))
          go_wp2_with fail
          go_meet
          case rel => exact ⟨a', b', rfl, HS.out, (heldN_box h57 hkw hS' _ _ _ _).2.1, (heldN_box h57 hkw hS' _ _ _ _).1, (heldN_box h57 hkw hS' _ _ _ _).2.2⟩
        · have e3 : (j : Int) % 3 = 2 := by omega
          obtain ⟨s3, a3, n3, b3, a', b', hst, hsub, hN⟩ := carve_moved s a s.size z b hs ha (Nat.le_refl _)
          have HN := Lib.hid hN
          have HS := Lib.hid hst
          have HB := Lib.hid hsub
          clear hN hst hsub
          obtain ⟨⟨c0, c1, c2, c3⟩, f5, l5⟩ := C1
          go_upto_region 10 with fail
          have hx8 : xb ≠ W1.heap.size := by have := World.block_lt_of_cell? W1 _ hcz1; simp at this; omega
          have H0 : HeldC w k5 k7 W1.heap.size xb (off + j) s a s.size b z (W1.alloc (.cells #[.string { data := #[] }, .int .i64 0, .int .i64 0, .bool false] 23)) := heldC_new ⟨⟨c0, c1, c2, c3⟩, f5, l5⟩ C0 hcz1 bel2
          have h58 : k5 ≠ W1.heap.size := by omega
          have h78 : k7 ≠ W1.heap.size := by have := C0.2.2; omega
          have h87 : W1.heap.size ≠ k7 := Ne.symm h78
          have hw8 : w.heap.size ≤ W1.heap.size := bel2.size
          clear C0 c0 c1 c2 c3 f5 l5 hcz1 bel2
          generalize W1.alloc _ = W2 at *
          generalize W1.heap.size = k8 at *
          obtain ⟨c0, c1, c2, c3, cz, l0, l1, l2, l3, f7, t7, m0, m1, m2, m3, f8, t8, f5, t5, bel2⟩ := id H0
          go_cut [27, 28] (fun _ _ wx => Box wx k5 s a s.size b ∧ Box wx k7 s a' s.size b' ∧ Box wx k8 s3 a3 n3 b3 ∧ wx.cell? ⟨xb, off + j, none⟩ = some (.int .i8 z) ∧ Below w.heap.size w wx)
          case first =>
            go_region_with (go_at_call 16; refine (heldP (HeldC w k5 k7 k8 xb (off + j) s a s.size b z) heldC_mono (HN.out _) ?_).mono ?_; exact heldC_mono _ _ H0 (Below.refl _ _).drew; rintro e w2 ⟨rfl, hS'⟩; obtain ⟨_, _, _, _, _, g0, g1, g2, g3, gf, _, e0, e1, e2, e3, ef, _, _, _, _⟩ := id hS')
            all_goals
              go_wp2_with fail
              go_meet
              case rel => exact heldC_box h57 h58 h78 hx7 hx8 hkw hw8 hS' _ _ _ _ _ _ _ _ rfl
          case rest =>
            obtain ⟨F5, F7, F8, cz', bel4⟩ := hcut
            clear c0 c1 c2 c3 cz l0 l1 l2 l3 f7 t7 m0 m1 m2 m3 f8 t8 f5 t5 bel2 H0
            obtain ⟨⟨c0, c1, c2, c3⟩, f5, t5⟩ := id F5
            obtain ⟨⟨l0, l1, l2, l3⟩, f7, t7⟩ := id F7
            cases b' with
            | true =>
              go_wp2_with fail
              go_quiet (fail)
              go_wp2_with fail
              go_meet
              case rel => exact ⟨a', true, rfl, HS.out, box_below F5 (below_drewN (Below.refl _ _) _), box_below F7 (below_drewN (Below.refl _ _) _), below_drewN bel4 _⟩
            | false =>
              obtain ⟨rfl, rfl, rfl, hz⟩ := HB.out rfl
              obtain ⟨⟨m0, m1, m2, m3⟩, f8, t8⟩ := id F8
              have hL : ∀ w : World, Calls Try.prog 18 #[.agg #[.string s3, .int .i64 (a : Int), .int .i64 (a' : Int), .bool false]] w fun e w' => e = .returned (.int .i64 z) ∧ Below w.heap.size w w' := by
                intro w
                have := left_ok s3 a a' w
                rw [hz, ez] at this
                exact this
              have HL := Lib.hid hL
              have HZ := Lib.hid hz
              clear hL hz
              have H0 : HeldL wc k5 k7 k8 xb (off + j) s s3 a s.size a' s.size a a' b false false z wc := ⟨c0, c1, c2, c3, cz', l0, l1, l2, l3, t7, m0, m1, m2, m3, t8, t5, Below.refl _ _⟩
              go_wp2_with fail
              go_region_held3 (fun W' => W'.cell? ⟨k5, 0, none⟩ = some (.string s) ∧ W'.cell? ⟨k5, 1, none⟩ = some (.int .i64 (a : Int)) ∧ W'.cell? ⟨k5, 2, none⟩ = some (.int .i64 (s.size : Int)) ∧ W'.cell? ⟨k5, 3, none⟩ = some (.bool b) ∧ W'.cell? ⟨xb, off + j, none⟩ = some (.int .i8 z) ∧ W'.cell? ⟨k7, 0, none⟩ = some (.string s) ∧ W'.cell? ⟨k7, 1, none⟩ = some (.int .i64 (a' : Int)) ∧ W'.cell? ⟨k7, 2, none⟩ = some (.int .i64 (s.size : Int)) ∧ W'.cell? ⟨k7, 3, none⟩ = some (.bool false) ∧ k7 < W'.heap.size ∧ W'.cell? ⟨k8, 0, none⟩ = some (.string s3) ∧ W'.cell? ⟨k8, 1, none⟩ = some (.int .i64 (a : Int)) ∧ W'.cell? ⟨k8, 2, none⟩ = some (.int .i64 (a' : Int)) ∧ W'.cell? ⟨k8, 3, none⟩ = some (.bool false) ∧ k8 < W'.heap.size ∧ k5 < W'.heap.size ∧ Below wc.heap.size wc W')
                ((show HeldL wc k5 k7 k8 xb (off + j) s s3 a s.size a' s.size a a' b false false z _; first | (with_reducible assumption) | (with_reducible exact heldL_mono _ _ H0 (Below.refl _ _).drew)))
                (first
                  | (go_at_call 18; refine (heldP (HeldL wc k5 k7 k8 xb (off + j) s s3 a s.size a' s.size a a' b false false z) heldL_mono (HL.out _) ?_).mono ?_; assumption; rintro e w2 ⟨rfl, hS'⟩))
              go_wp2_with fail
              go_meet
              case rel =>
                obtain ⟨_, _, _, _, _, _, _, _, _, _, _, _, _, _, _, _, bw⟩ := hS'
                exact ⟨a', false, rfl, HS.out, box_below F5 bw, box_below F7 bw, bcall bel4 bw⟩
      case rest =>
        obtain ⟨a', b', rfl, hst, D5, D7, bel3⟩ := hcut
        obtain ⟨hs1, hs2, hs3, hs4⟩ := hst
        have hr : rightB s a' s.size = true := by unfold rightB; simp; omega
        have hge : (a : Int) ≤ (a' : Int) := by omega
        have HS3 := Lib.hid hs3
        have HS4 := Lib.hid hs4
        clear hs3 hs4
        obtain ⟨⟨d0, d1, d2, d3⟩, g7, l7⟩ := id D7
        go_wp2_with fail
        refine (right_any _ _ _ _ _ hs).mono ?_
        rintro e w3 ⟨rfl, hb3⟩
        replace D5 := box_below D5 hb3
        replace D7 := box_below D7 hb3
        replace bel3 := bcall bel3 hb3
        clear d0 d1 d2 d3 g7 l7 hb3
        obtain ⟨⟨d0, d1, d2, d3⟩, g7, l7⟩ := id D7
        obtain ⟨⟨c0, c1, c2, c3⟩, g5, l5⟩ := id D5
        cases b' with
        | true =>
          obtain rfl : a' = a := HS4.out rfl
          cases b with
          | true =>
            go_wp2_with fail
            go_roundg (gk - 1)
            case measure => omega
            case rel => exact ⟨j + 1, a', true, by omega, by go_num, hs2, box_put D5 _ _ _ _, put4_bel bel3 hk5w _ _ _ _⟩
          | false =>
            go_wp2_with fail
            go_roundg (gk - 1)
            case measure => omega
            case rel => exact ⟨j + 1, a', true, by omega, by go_num, hs2, box_put D5 _ _ _ _, put4_bel bel3 hk5w _ _ _ _⟩
        | false =>
          cases b with
          | true => exact absurd (HS3.out rfl).2 (by simp)
          | false =>
            go_wp2_with fail
            go_roundg (gk - 1)
            case measure => omega
            case rel => exact ⟨j + 1, a', false, by omega, by go_num, hs2, box_put D5 _ _ _ _, put4_bel bel3 hk5w _ _ _ _⟩
    · go_wp2_with fail
      refine (awake_any _).mono ?_
      rintro e w2 ⟨rfl, hb2⟩
      go_wp2
      go_ret
      exact ⟨rfl, bcall bel hb2⟩

set_option maxRecDepth 100000 in
set_option maxHeartbeats 800000 in
theorem walk_long1 (s : ByteArray) (x : Option Addr) (len cap : Nat) (w : World) (hs : s.size ≤ maxLen) (h : 300 < s.size) :
    Calls Try.prog 5 #[.string s, .slice x len cap] w fun e w' => e = .returned (.bool true) ∧ Below w.heap.size w w' := by
  have hm := hs
  unfold maxLen at hm
  go_enter Try.func5, Try.ntmps5
  go_wp2_with fail
  refine (awake_any _).mono ?_
  rintro e w2 ⟨rfl, hb2⟩
  go_wp2
  go_ret
  exact ⟨rfl, hb2⟩

set_option maxRecDepth 100000 in
set_option maxHeartbeats 800000 in
theorem walk_long2 (s : ByteArray) (x : Option Addr) (len cap : Nat) (w : World) (hs : s.size ≤ maxLen) (h : s.size ≤ 300) (hl : 60 < len) (hc : len ≤ maxLen) :
    Calls Try.prog 5 #[.string s, .slice x len cap] w fun e w' => e = .returned (.bool true) ∧ Below w.heap.size w w' := by
  have hm := hs
  unfold maxLen at hm hc
  go_enter Try.func5, Try.ntmps5
  go_wp2_with fail
  refine (awake_any _).mono ?_
  rintro e w2 ⟨rfl, hb2⟩
  go_wp2
  go_ret
  exact ⟨rfl, hb2⟩

theorem walk (a0 : ByteArray) (a1 : Option Addr) (len1 cap1 : Nat) (z1 : List Int) (w : World) (w0 : a0.size ≤ maxLen) (w1 : IsRow .i8 w a1 len1 cap1 z1) :
    Calls Try.prog 5 #[.string a0, .slice a1 len1 cap1] w fun e w' => e = .returned (.bool true) ∧ Below w.heap.size w w' := by
  by_cases h : 300 < a0.size
  · exact walk_long1 a0 a1 len1 cap1 w w0 h
  · by_cases hl : 60 < len1
    · have hc : len1 ≤ maxLen := by
        rcases w1 with ⟨_, h0, _, _⟩ | ⟨y, _, hlc, hcm, _, _, _⟩
        · omega
        · omega
      exact walk_long2 a0 a1 len1 cap1 w w0 (by omega) hl hc
    · exact walk_main a0 a1 len1 cap1 z1 w w0 w1 (by omega) (by omega)

/-! ### THE ROW's STEP: WRITTEN OUT: LEAVE IT -/
set_option maxRecDepth 100000 in
theorem lifted (os : Os) (started : os.Started) (H : Type) (enc : TypeId × Value → H) :
    ReturnsInHanded {} Try.checked os 5 .any (Rows.cursorStaysSpec.pre6 enc Try.prog Try.f5 Rows.cursorStaysRow.domain false) (Rows.cursorStaysSpec.post enc Try.prog Try.f5 false true false false) := by
  refine returnsInHanded_of_change (C := Try.checked) own started (by kernel_rfl) Try.func5
    (ChangeSpec.witness6 (enc := enc) (C := Try.checked) false ⟨#[], #[.string ByteArray.empty, .slice none 0 0], []⟩ 8 (by kernel_rfl) (by kernel_rfl) (by kernel_rfl) (by kernel_rfl)) ?_
  intro W base args ds gs before hval0 hW hcnd _
  have hval : ∀ (j : Nat) t v, Try.f5.params[j]? = some t → args[j]? = some v → Value.okWide Try.prog W .any base t v := hval0
  have hW' := hW
  obtain ⟨p, q, hA0, hV, rfl, hfz, hnd⟩ := hW
  have hA : DataW.TrodAll enc Try.prog W 0 (fun _ => true) true Try.f5.params.toList args.toList ds p := hA0
  rw [Try.params5] at hA hval
  obtain ⟨v0, vs0, d0, ds0, p0, q0, hargs, rfl, rfl, h0, r0⟩ := trodAll_cons hA
  obtain ⟨v1, vs1, d1, ds1, p1, q1, rfl, rfl, rfl, h1, r1⟩ := trodAll_cons r0
  obtain ⟨rfl, rfl, rfl⟩ := trodAll_nil r1
  obtain rfl : args = #[v0, v1] := by cases args; simp_all
  obtain ⟨rfl, rfl⟩ := trodVars_none hV
  obtain ⟨a0, rfl, rfl, rfl, w0⟩ := open_string Try.underlying9 (hval 0 9 v0 rfl rfl) h0
  obtain ⟨a1, len1, cap1, rfl⟩ := okWide_slice Try.underlying36 (hval 1 36 v1 rfl rfl)
  have k1 := h1
  have lt1 : ∀ x ∈ p1, x.block < W.heap.size := by obtain ⟨m, hm⟩ := k1; exact DataW.trod_lt m _ _ _ hm
  obtain ⟨z1, w1⟩ : ∃ zs, IsRow .i8 W a1 len1 cap1 zs := by
    obtain ⟨fuel, hf⟩ := h1
    rcases open_ints Try.underlying36 Try.underlying37 (by kernel_rfl) hf with ⟨hcs, _⟩ | ⟨x, l, c, zs, hcs, _, hl, hm, hz, _, hcell, hwz⟩
    · simp [Value.cells] at hcs
      obtain ⟨rfl, rfl, rfl⟩ := hcs
      exact ⟨[], .inl ⟨rfl, rfl, rfl, rfl⟩⟩
    · simp [Value.cells] at hcs
      obtain ⟨rfl, rfl, rfl⟩ := hcs
      exact ⟨zs, .inr ⟨_, rfl, hl, hm, by simpa using hz, hcell, hwz⟩⟩
  clear hA0 hval0
  refine (walk a0 a1 len1 cap1 z1 W w0 w1).mono fun e W' ⟨he, bel⟩ => ?_
  subst he
  exact ⟨_, rfl, _, _, _, [], _, [], hW', trodAll_mk1 (shut_bool Try.underlying4 _), (trodAll_cons_mk (shut_string Try.underlying9 w0) (trodAll_cons_mk (Below.trod laidOut (by kernel_rfl) (of_decide_eq_true (by kernel_rfl)) k1 bel lt1) trodAll_mk0)), rfl, bel.frame _, fun h => by cases h⟩

theorem over : Rows.cursorStaysRow.holds Try.pinned (OpenSpec.ofChange Rows.cursorStaysSpec) :=
  OpenClaim.holds_of_wide 5 Try.f5 rfl rfl rfl rfl rfl rfl rfl ⟨rfl, rfl, rfl, rfl, rfl⟩ rfl rfl rfl rfl rfl (by kernel_rfl) Try.func5 (by kernel_rfl)
    (of_decide_eq_true (by kernel_rfl)) (by unfold Func.isWrapper; first | (rw [if_pos (by decide +kernel)]; kernel_rfl) | (rw [if_neg (by decide +kernel)]; exact ⟨rfl, rfl⟩))
    (fun os started H enc _ => lifted os started H enc)

/-- ████ THE STATEMENT ████ -/
theorem proved : Rows.CursorStaysSaid := over
#print axioms proved
end Go.Proofs.Ytmfpplpcodpncaa.cursorStays
