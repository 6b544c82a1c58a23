/-
  The document's own: the first error ahead of the entries, and the route of an entry or its error. Conditions: at most 2^20 bytes; the entry's texts have four bytes.
-/
import Derived.Test.YtfaobpmbiocafaaRn
import Derived.Test.YtfaobpmbiocafaaHd
namespace Go.Proofs.Ytfaobpmbiocafaa.Rq
open Go.ChangeShapes Go.WideShapes Go.ChangeAt Go.RowKit
open Go.Proofs.Ytfaobpmbiocafaa.Ms
open Go.Proofs.Ytfaobpmbiocafaa.Box
open Go.Proofs.Ytfaobpmbiocafaa.Rp
open Go.Proofs.Ytfaobpmbiocafaa.Ps
open Go.Proofs.Ytfaobpmbiocafaa.Hs
open Go.Proofs.Ytfaobpmbiocafaa.Ck
open Go.Proofs.Ytfaobpmbiocafaa.Hx
open Go.Proofs.Ytfaobpmbiocafaa.Hd (pair_eq)
open Go.Proofs.Ytfaobpmbiocafaa.Rn
open Go.Proofs.Ytfaobpmbiocafaa.Bk (E Bk shE wpList_loadK wpList_storeK run_loadK)
open Go.Proofs.Ytfaobpmbiocafaa.Or (st_yes)
set_option linter.unusedVariables false
set_option maxRecDepth 100000

theorem nought_l : (ByteArray.mk #[0, 0, 0, 0]).toList = [0, 0, 0, 0] := by rw [ByteArray.toList_eq]
/-- The first error ahead of the entries, all in one. -/
def hcAt (b : ByteArray) : Int × Int := if (hdAt b).2 ≠ 0 then hdAt b else cnAt b
theorem zero_two (b : ByteArray) (h : 4 ≤ b.size) : Oct.zeroB (b.extract 2 4).data.toList = (bt b 2 == 0 && bt b 3 == 0) := by
  have h2 : 2 < b.size := by omega
  have h3 : 3 < b.size := by omega
  have e : (b.extract 2 4).data.toList = [b[2], b[3]] := by
    apply List.ext_getElem
    · simp; omega
    · intro i h1 h4
      match i, h4 with
      | 0, _ => simp [ByteArray.getElem_eq_getElem_data]
      | 1, _ => simp [ByteArray.getElem_eq_getElem_data]
  rw [e, ← bt_eq b 2 h2, ← bt_eq b 3 h3]
  unfold Oct.zeroB
  have q : ∀ c : UInt8, (c == 0) = ((c.toNat : Int) == 0) := fun c => by
    rw [Bool.eq_iff_iff, beq_iff_eq, beq_iff_eq, ← UInt8.toNat_inj]
    show c.toNat = 0 ↔ _
    omega
  simp [q]

set_option maxHeartbeats 3200000 in
theorem head_rq (b : ByteArray) (w : World) (hs : b.size ≤ 1048576) : Calls Try.prog 20 #[.string b] w fun r w' => r = .returned (.tuple #[.int .i64 (hcAt b).1, .int .i64 (hcAt b).2]) ∧ w = w' := by
  have HC := Lib.hid (show hcAt b = if (hdAt b).2 ≠ 0 then hdAt b else cnAt b from rfl)
  have HA := Lib.hid (show hdAt b = if b.size < 4 then ((b.size : Int), 2) else if isCmd (bt b 0) = false then (0, 4) else if isCmd (bt b 1) = false then (1, 4) else if Oct.zeroB (b.extract 2 4).data.toList = false then (2, 5) else (0, 0) from rfl)
  go_enter Try.func20, Try.ntmps20
  by_cases h4 : b.size < 4
  · have HZ := Lib.hid (show hcAt b = ((b.size : Int), 2) by rw [HC.out, HA.out, if_pos h4]; rfl)
    clear HA HC
    go_wp2
    go_ret2
    exact ⟨pair_eq HZ.out, rfl⟩
  have k0 : 0 < b.size := by omega
  have k1 : 1 < b.size := by omega
  have k2 : 2 < b.size := by omega
  have k3 : 3 < b.size := by omega
  have HZ2 := Lib.hid (zero_two b (by omega))
  have HA := Lib.hid (show hdAt b = if isCmd (b[0].toNat : Int) = false then (0, 4) else if isCmd (b[1].toNat : Int) = false then (1, 4) else if ((b[2].toNat : Int) == 0 && (b[3].toNat : Int) == 0) = false then (2, 5) else (0, 0) by rw [HA.out, if_neg h4, HZ2.out, bt_eq b 0 k0, bt_eq b 1 k1, bt_eq b 2 k2, bt_eq b 3 k3])
  have u0 := b[0].toNat_lt
  have u1 := b[1].toNat_lt
  have u2 := b[2].toNat_lt
  have u3 := b[3].toNat_lt
  by_cases q0 : (b[0].toNat : Int) < 1
  · have HZ := Lib.hid (show hcAt b = (0, 4) by rw [HC.out, HA.out, if_pos (isCmd_no (.inl q0))]; rfl)
    clear HA HC HZ2
    go_wp2
    go_ret2
    exact ⟨pair_eq HZ.out, rfl⟩
  by_cases q1 : 2 < (b[0].toNat : Int)
  · have HZ := Lib.hid (show hcAt b = (0, 4) by rw [HC.out, HA.out, if_pos (isCmd_no (.inr q1))]; rfl)
    clear HA HC HZ2
    go_wp2
    go_ret2
    exact ⟨pair_eq HZ.out, rfl⟩
  have HA := Lib.hid (HA.out.trans (if_neg (by rw [isCmd_yes (by omega) (by omega)]; simp)))
  by_cases q2 : (b[1].toNat : Int) < 1
  · have HZ := Lib.hid (show hcAt b = (1, 4) by rw [HC.out, HA.out, if_pos (isCmd_no (.inl q2))]; rfl)
    clear HA HC HZ2
    go_wp2
    go_ret2
    exact ⟨pair_eq HZ.out, rfl⟩
  by_cases q3 : 2 < (b[1].toNat : Int)
  · have HZ := Lib.hid (show hcAt b = (1, 4) by rw [HC.out, HA.out, if_pos (isCmd_no (.inr q3))]; rfl)
    clear HA HC HZ2
    go_wp2
    go_ret2
    exact ⟨pair_eq HZ.out, rfl⟩
  have HA := Lib.hid (HA.out.trans (if_neg (by rw [isCmd_yes (by omega) (by omega)]; simp)))
  have HA2 := Lib.hid (show hdAt b = if ((b[2].toNat : Int) == 0 && (b[3].toNat : Int) == 0) = false then (2, 5) else (0, 0) from HA.out)
  clear HA
  rcases (show (b[2].toNat : Int) ≠ 0 ∨ (b[2].toNat : Int) = 0 by omega) with z2 | z2
  · have e2 : ((b[2].toNat : Int) == 0) = false := by rw [beq_eq_false_iff_ne]; exact z2
    have m2 : ((b[2].toNat : Int) != 0) = true := by rw [bne, e2]; rfl
    have HZ := Lib.hid (show hcAt b = (2, 5) by rw [HC.out, HA2.out, e2]; rfl)
    clear HA2 HC HZ2 z2
    go_wp2
    go_ret2
    exact ⟨pair_eq HZ.out, rfl⟩
  have e2 : ((b[2].toNat : Int) == 0) = true := by rw [beq_iff_eq]; exact z2
  have m2 : ((b[2].toNat : Int) != 0) = false := by rw [bne, e2]; rfl
  clear z2
  rcases (show (b[3].toNat : Int) ≠ 0 ∨ (b[3].toNat : Int) = 0 by omega) with z3 | z3
  · have e3 : ((b[3].toNat : Int) == 0) = false := by rw [beq_eq_false_iff_ne]; exact z3
    have m3 : ((b[3].toNat : Int) != 0) = true := by rw [bne, e3]; rfl
    have HZ := Lib.hid (show hcAt b = (2, 5) by rw [HC.out, HA2.out, e2, e3]; rfl)
    clear HA2 HC HZ2 z3
    go_wp2
    go_ret2
    exact ⟨pair_eq HZ.out, rfl⟩
  have e3 : ((b[3].toNat : Int) == 0) = true := by rw [beq_iff_eq]; exact z3
  have m3 : ((b[3].toNat : Int) != 0) = false := by rw [bne, e3]; rfl
  clear z3
  have HC := Lib.hid (show hcAt b = cnAt b by rw [HC.out, HA2.out, e2, e3]; rfl)
  clear HA2 HZ2
  go_upto_region 9 with fail
  clear e2 e3 m2 m3 q0 q1 q2 q3 u0 u1 u2 u3
  have HB := Lib.hid (show cnAt b = if (b.size - 4) % 20 ≠ 0 then ((b.size : Int), 2) else if b.size - 4 = 0 then ((b.size : Int), 8) else if 500 < b.size - 4 then (504, 8) else (0, 0) from rfl)
  by_cases h1 : (b.size - 4) % 20 ≠ 0
  · have HZ := Lib.hid (show hcAt b = ((b.size : Int), 2) by rw [HC.out, HB.out, if_pos h1])
    have e1 : (((b.size : Int) - 4) % 20 == 0) = false := by rw [beq_eq_false_iff_ne]; omega
    have e2 : (((b.size : Int) - 4) % 20 != 0) = true := by rw [bne, e1]; rfl
    clear HC HB h1
    go_wp2
    go_ret2
    exact ⟨pair_eq HZ.out, rfl⟩
  have e1 : (((b.size : Int) - 4) % 20 == 0) = true := by rw [beq_iff_eq]; omega
  have e2 : (((b.size : Int) - 4) % 20 != 0) = false := by rw [bne, e1]; rfl
  by_cases h2 : b.size - 4 = 0
  · have HZ := Lib.hid (show hcAt b = ((b.size : Int), 8) by rw [HC.out, HB.out, if_neg h1, if_pos h2])
    have e3 : ((b.size : Int) == 4) = true := by rw [beq_iff_eq]; omega
    clear HC HB h1 h2
    go_wp2
    go_ret2
    exact ⟨pair_eq HZ.out, rfl⟩
  have e4 : ((b.size : Int) == 4) = false := by rw [beq_eq_false_iff_ne]; omega
  by_cases h3 : 500 < b.size - 4
  · have HZ := Lib.hid (show hcAt b = (504, 8) by rw [HC.out, HB.out, if_neg h1, if_neg h2, if_pos h3])
    clear HC HB h1 h2
    have h5 : 504 < b.size := by omega
    go_wp2
    go_ret2
    exact ⟨pair_eq HZ.out, rfl⟩
  have HZ := Lib.hid (show hcAt b = (0, 0) by rw [HC.out, HB.out, if_neg h1, if_neg h2, if_neg h3])
  clear HC HB h1 h2
  have h5 : b.size ≤ 504 := by omega
  go_wp2
  go_ret2
  exact ⟨pair_eq HZ.out, rfl⟩

/-- What a route shares with all of its datagram. -/
def hdOf (cmd ver : Int) (says : ByteArray) : M := { M.zero with kind := 1, cmd := cmd, ver := ver, auth := says }
/-- A route ahead of its prefix's length. -/
def m0 (h : M) (e : E) (n : Int) : M := { h with family := e.fam, tag := e.tag, pfx := e.addr, plen := n, next := e.next, metric := e.met }
theorem m0_eq (h : M) (e : E) (n : Int) (hn : plenE h e = n) : m0 h e n = routeM h e := by unfold m0 routeM; rw [hn]
/-- The answer: a route, and an error; the route is the entry's, if there is none. -/
def AnsR (h : M) (e : E) (one : Bool) (w : World) (r : Ending) (w' : World) : Prop :=
  ∃ m : M, r = .returned (.tuple #[.agg m.cells, .int .i64 (ckE h e one)]) ∧ (ckE h e one = 0 → m = routeM h e) ∧ Below w.heap.size w w'

structure R2 (w0 w : World) (n g : Nat) (e : E) (m : M) : Prop where
  en : Bk 48 w n e.cells
  res : Bx w (n + 1) M.zero
  own : Bx w g m
  o : n + 1 < g
  bel : Below n w0 w
theorem R2.set {w0 w : World} {n g : Nat} {e : E} {m m' : M} (r : R2 w0 w n g e m) {i : Nat} {v : Value} (hm : m.cells.setIfInBounds i v = m'.cells) : R2 w0 (w.setCell ⟨g, i, none⟩ v) n g e m' :=
  ⟨r.en.off (by have := r.o; show n ≠ g; omega) _, r.res.off (by have := r.o; show n + 1 ≠ g; omega) _, r.own.set hm, r.o, r.bel.setCell (p := ⟨g, i, none⟩) (by have := r.o; show n ≤ g; omega) _⟩
theorem R2.call {w0 w w' : World} {n g : Nat} {e : E} {m : M} (r : R2 w0 w n g e m) (hb : Below w.heap.size w w') : R2 w0 w' n g e m :=
  ⟨r.en.below hb, r.res.below hb, r.own.below hb, r.o, r.bel.trans (hb.mono (by have := r.en.lt; omega))⟩
theorem R2.drews {w0 w : World} {n g : Nat} {e : E} {m : M} (r : R2 w0 w n g e m) (k : Nat) : R2 w0 (w.drewN k) n g e m := r.call (below_drewN (Below.refl _ _) k)
theorem R2.keep {w0 : World} {n g : Nat} {e : E} {m : M} (W w1 : World) (h : R2 w0 W n g e m) (hb : Below W.heap.size W w1) : R2 w0 w1 n g e m := h.call hb

set_option maxHeartbeats 6400000 in
theorem route_rq (e : E) (cmd ver : Int) (says : ByteArray) (one : Bool) (w : World) (he : E4 e) :
    Calls Try.prog 24 #[.agg e.cells, .int .i64 cmd, .int .i64 ver, .string says, .bool one] w (AnsR (hdOf cmd ver says) e one w) := by
  have PN := Lib.hid (fun W => nought_any W)
  have PM := Lib.hid (fun W => rright_any (m0 (hdOf cmd ver says) e 0) W ⟨DRow.nil _ _, SRow.nil _ _, Nat.zero_le _, Nat.zero_le _⟩)
  have P2 := Lib.hid (fun W => Mask.rplen_any e.mask W)
  have P3 := Lib.hid (fun W => Pre.rright_any e.addr ((Mask.plenN e.mask : Nat) : Int) W (by have := he.a; unfold maxLen; omega))
  have HA := Lib.hid (show ckE (hdOf cmd ver says) e one = if e.fam = 0 then ck0 (hdOf cmd ver says) e one else if e.fam = 2 then (if ver = 1 then ck1 e else ck2 e) else 4 from rfl)
  have HP := Lib.hid (show plenE (hdOf cmd ver says) e = if e.fam = 0 then 0 else if ver = 1 then 32 else ((Mask.plenN e.mask : Nat) : Int) from rfl)
  have HM := Lib.hid (fun n => m0_eq (hdOf cmd ver says) e n)
  have HK0 := Lib.hid (show ck0 (hdOf cmd ver says) e one = if one && (isN e.mask && rightB (routeM (hdOf cmd ver says) e)) then 0 else 7 from rfl)
  have HK1 := Lib.hid (show ck1 e = if e.tag == 0 && (isN e.mask && isN e.next) then ckMet e else 5 from rfl)
  have HK2 := Lib.hid (show ck2 e = if Mask.isMask e.mask && Pre.rightZ e.addr ((Mask.plenN e.mask : Nat) : Int) then ckMet e else 7 from rfl)
  have n1 : (e.mask.toList == [0, 0, 0, 0]) = isN e.mask := rfl
  have n2 : (e.next.toList == [0, 0, 0, 0]) = isN e.next := rfl
  have n3 : (e.mask.toList != [0, 0, 0, 0]) = !isN e.mask := rfl
  have n4 : (e.next.toList != [0, 0, 0, 0]) = !isN e.next := rfl
  have HB : Hid (∀ n, (m0 (hdOf cmd ver says) e n).cells = #[.int .i64 1, .int .i64 cmd, .int .i64 ver, .string says, .int .i64 e.fam, .int .i64 0, .string e.addr, .int .i64 n, .int .i64 e.tag, .string e.next, .int .i64 e.met, .string ByteArray.empty, .int .i64 0, .int .i64 0, .int .i64 0, .int .i64 0, .int .i64 0, .int .i64 0, .int .i64 0, .string ByteArray.empty, .string ByteArray.empty, .slice none 0 0, .int .i64 0, .string ByteArray.empty, .slice none 0 0]) := Lib.hid (fun n => rfl)
  have HSet : Hid (∀ n : Int, (m0 (hdOf cmd ver says) e 0).cells.setIfInBounds 7 (.int .i64 n) = (m0 (hdOf cmd ver says) e n).cells) := Lib.hid (fun n => rfl)
  go_enter Try.func24, Try.ntmps24
  go_upto_region 1 with fail
  have st : Bk 48 ((w.alloc (.cells e.cells 48)).alloc (.cells M.zero.cells 34)) w.heap.size e.cells ∧ Bx ((w.alloc (.cells e.cells 48)).alloc (.cells M.zero.cells 34)) (w.heap.size + 1) M.zero ∧ Below w.heap.size w ((w.alloc (.cells e.cells 48)).alloc (.cells M.zero.cells 34)) := by
    obtain ⟨b0, bel⟩ := boxE w e
    refine ⟨b0.old _, ?_, balloc bel _⟩
    have := Bx.new (w.alloc (.cells e.cells 48)) M.zero
    rwa [Bk.alloc_size] at this
  obtain ⟨b0, b1, bel⟩ := st
  change Code.wp _ _ _ _ ((w.alloc (.cells e.cells 48)).alloc (.cells M.zero.cells 34))
  generalize (w.alloc (.cells e.cells 48)).alloc _ = V at *
  obtain ⟨d0, d1, d2, d3, d4, d5⟩ := ec b0
  go_upto_region 2 with (first | (refine Bk.wpList_builtK rfl 34 _ rfl (m0 (hdOf cmd ver says) e 0).cells (by kernel_rfl) ?_) | (refine wpList_storeM (m := M.zero) (m' := m0 (hdOf cmd ver says) e 0) rfl _ _ rfl rfl rfl (heap_alloc_new _ _) ?_))
  change Code.wp _ _ _ _ ((V.alloc (.cells M.zero.cells 34)).setRow V.heap.size (m0 (hdOf cmd ver says) e 0).cells)
  rw [World.setRow_alloc_new]
  have r0 : R2 w (V.alloc (.cells (m0 (hdOf cmd ver says) e 0).cells 34)) w.heap.size V.heap.size e (m0 (hdOf cmd ver says) e 0) := ⟨b0.old _, b1.old _, Bx.new V _, b1.lt, balloc bel _⟩
  clear b0 b1 bel d0 d1 d2 d3 d4 d5 HB
  generalize V.alloc (.cells (m0 (hdOf cmd ver says) e 0).cells 34) = W at *
  generalize V.heap.size = g at *
  have d0 := (ec r0.en).c0
  by_cases f0 : e.fam = 0
  · have HA := Lib.hid (HA.out.trans (if_pos f0))
    have HM := Lib.hid (HM.out 0 (by rw [HP.out, if_pos f0]))
    have HK0 := Lib.hid (show ck0 (hdOf cmd ver says) e one = if one && (isN e.mask && rightB (m0 (hdOf cmd ver says) e 0)) then 0 else 7 by rw [HK0.out, HM.out])
    have e0 : (e.fam == 0) = true := by simpa using f0
    clear HP f0 HSet HK1 HK2 P2 P3 n2 n4
    go_upto_region 3 with fail
    clear e0 d0
    have d3 := (ec r0.en).c3
    generalize rightB (m0 (hdOf cmd ver says) e 0) = x3 at *
    generalize isN e.mask = x2 at *
    generalize hm0 : m0 (hdOf cmd ver says) e 0 = mm at *
    clear hm0
    cases one
    · have HZ := Lib.hid (show ckE (hdOf cmd ver says) e false = 7 by rw [HA.out, HK0.out]; rfl)
      clear HA HK0
      go_quiet ((go_at_call 31; exact Calls.quiet_of_same (nought_q _)))
      have r1 := r0.drews
      go_wp2_with (first | (refine wpList_loadM (b := g) (m := mm) rfl _ rfl rfl (r1 _).own ?_) | (refine wpList_storeM (b := w.heap.size + 1) (m := M.zero) (m' := mm) rfl _ _ rfl rfl rfl (r1 _).res ?_))
      exact bodyPost_ret (v := .tuple #[.agg mm.cells, .int .i64 7]) (Own.results_pair (ty := 34) rfl _ _ (w.heap.size + 1) _ rfl (Own.loadVarM ((r1 _).res.put (m' := mm))) _ rfl) rfl ⟨mm, by rw [HZ.out], fun h => absurd h (by rw [HZ.out]; decide), below_setRow (r1 _).bel (by omega) _⟩
    cases x2
    · have HZ := Lib.hid (show ckE (hdOf cmd ver says) e true = 7 by rw [HA.out, HK0.out]; rfl)
      clear HA HK0
      go_quiet ((go_at_call 31; exact Calls.quiet_of_same (nought_q _)))
      have r1 := r0.drews
      go_wp2_with (first | (refine wpList_loadM (b := g) (m := mm) rfl _ rfl rfl (r1 _).own ?_) | (refine wpList_storeM (b := w.heap.size + 1) (m := M.zero) (m' := mm) rfl _ _ rfl rfl rfl (r1 _).res ?_))
      exact bodyPost_ret (v := .tuple #[.agg mm.cells, .int .i64 7]) (Own.results_pair (ty := 34) rfl _ _ (w.heap.size + 1) _ rfl (Own.loadVarM ((r1 _).res.put (m' := mm))) _ rfl) rfl ⟨mm, by rw [HZ.out], fun h => absurd h (by rw [HZ.out]; decide), below_setRow (r1 _).bel (by omega) _⟩
    have HZ := Lib.hid (show ckE (hdOf cmd ver says) e true = if x3 then 0 else 7 by rw [HA.out, HK0.out]; rfl)
    clear HA HK0 d3
    have PN2 := Lib.hid (fun W (h : R2 w W w.heap.size g e mm) => heldP (R2 w · w.heap.size g e mm) R2.keep ((PN.out W).mono fun _ _ ⟨h1, h2⟩ => ⟨h1, by rw [← h2]; exact Below.refl _ _⟩) h)
    have PM2 := Lib.hid (fun W (h : R2 w W w.heap.size g e mm) => heldP (R2 w · w.heap.size g e mm) R2.keep (PM.out W) h)
    clear PN PM
    refine wp_region_held_drew (S := fun W => R2 w W w.heap.size g e mm) (by kernel_rfl) (r0.call (Below.refl _ _).drew) (fun hS => ?_)
    clear r0
    generalize W.drew = w0 at *
    refine H.take (i := 0) (v := .bool true) (by simp only [List.getElem?_toArray, List.getElem?_cons_zero]; rfl) (by kernel_rfl) rfl (by kernel_rfl) (by kernel_rfl) (by kernel_rfl) (fun _ _ _ h => h) ?h0 hS ?_
    case h0 => exact fun w _ => rfl
    try simp only [Act.put, List.setIfInBounds_toArray, List.set_cons_zero, List.set_cons_succ]
    refine H.take (i := 1) (v := (.bool false)) (by simp only [List.getElem?_toArray, List.getElem?_cons_succ, List.getElem?_cons_zero]; rfl) (by kernel_rfl) rfl (by kernel_rfl) (by kernel_rfl) (by kernel_rfl) (fun _ _ _ h => h) (fun w _ => rfl) hS ?_
    try simp only [Act.put, List.setIfInBounds_toArray, List.set_cons_zero, List.set_cons_succ]
    refine H.take (i := 2) (v := (.bool false)) (by simp only [List.getElem?_toArray, List.getElem?_cons_succ, List.getElem?_cons_zero]; rfl) (by kernel_rfl) rfl (by kernel_rfl) (by kernel_rfl) (by kernel_rfl) (fun _ _ _ h => h) (fun w _ => rfl) hS ?_
    try simp only [Act.put, List.setIfInBounds_toArray, List.set_cons_zero, List.set_cons_succ]
    refine H.take (i := 3) (v := ?v3) (by simp only [List.getElem?_toArray, List.getElem?_cons_succ, List.getElem?_cons_zero]; rfl) (by kernel_rfl) rfl (by kernel_rfl) (by kernel_rfl) (by kernel_rfl) (fun _ _ _ h => h) ?h3 hS ?_
    case h3 => (intro w hw; go_simp; first | done | (with_reducible rfl))
    try simp only [Act.put, List.setIfInBounds_toArray, List.set_cons_zero, List.set_cons_succ]
    refine H.take (i := 4) (v := .string e.mask) (by simp only [List.getElem?_toArray, List.getElem?_cons_succ, List.getElem?_cons_zero]; rfl) (by kernel_rfl) rfl (by kernel_rfl) (by kernel_rfl) (by kernel_rfl) (fun _ _ _ h => h) ?h4 hS ?_
    case h4 => (intro w hw; have c := (ec hw.en).c3; go_simp)
    try simp only [Act.put, List.setIfInBounds_toArray, List.set_cons_zero, List.set_cons_succ]
    refine wpAnyH_ready (rs := [5]) (by kernel_rfl) (by simp) ?_
    refine AllReadyH.cons rfl (fun K hK => ?_) AllReadyH.nil
    go_simp
    refine (PN2.out _ hS).mono ?_
    rintro e w5 ⟨rfl, hS5⟩
    refine hK.out _ _ hS5 (fun _ => ?_)
    clear hK K hS
    have hS := hS5
    clear hS5
    try simp only [Act.put, List.setIfInBounds_toArray, List.set_cons_zero, List.set_cons_succ]
    refine H.take (i := 6) (v := .bool false) (by simp only [List.getElem?_toArray, List.getElem?_cons_succ, List.getElem?_cons_zero]; rfl) (by kernel_rfl) rfl (by kernel_rfl) (by kernel_rfl) (by kernel_rfl) (fun _ _ _ h => h) ?h6 hS ?_
    case h6 => exact fun w _ => ex_neqS rfl rfl rfl (by rw [nought_l, n1]; rfl)
    try simp only [Act.put, List.setIfInBounds_toArray, List.set_cons_zero, List.set_cons_succ]
    refine H.take (i := 7) (v := (.bool false)) (by simp only [List.getElem?_toArray, List.getElem?_cons_succ, List.getElem?_cons_zero]; rfl) (by kernel_rfl) rfl (by kernel_rfl) (by kernel_rfl) (by kernel_rfl) (fun _ _ _ h => h) (fun w _ => rfl) hS ?_
    try simp only [Act.put, List.setIfInBounds_toArray, List.set_cons_zero, List.set_cons_succ]
    refine H.take (i := 8) (v := (.bool false)) (by simp only [List.getElem?_toArray, List.getElem?_cons_succ, List.getElem?_cons_zero]; rfl) (by kernel_rfl) rfl (by kernel_rfl) (by kernel_rfl) (by kernel_rfl) (fun _ _ _ h => h) (fun w _ => rfl) hS ?_
    try simp only [Act.put, List.setIfInBounds_toArray, List.set_cons_zero, List.set_cons_succ]
    refine H.take (i := 9) (v := .agg mm.cells) (by simp only [List.getElem?_toArray, List.getElem?_cons_succ, List.getElem?_cons_zero]; rfl) (by kernel_rfl) rfl (by kernel_rfl) (by kernel_rfl) (by kernel_rfl) (fun _ _ _ h => h) ?h9 hS ?_
    case h9 => exact fun w hw => run_loadM (x := .tmp 12) rfl rfl hw.own
    try simp only [Act.put, List.setIfInBounds_toArray, List.set_cons_zero, List.set_cons_succ]
    refine wpAnyH_ready (rs := [10]) (by kernel_rfl) (by simp) ?_
    refine AllReadyH.cons rfl (fun K hK => ?_) AllReadyH.nil
    go_simp
    refine (PM2.out _ hS).mono ?_
    rintro e w10 ⟨rfl, hS10⟩
    refine hK.out _ _ hS10 (fun _ => ?_)
    clear hK K hS
    have hS := hS10
    clear hS10
    try simp only [Act.put, List.setIfInBounds_toArray, List.set_cons_zero, List.set_cons_succ]
    refine H.take (i := 11) (v := ?v11) (by simp only [List.getElem?_toArray, List.getElem?_cons_succ, List.getElem?_cons_zero]; rfl) (by kernel_rfl) rfl (by kernel_rfl) (by kernel_rfl) (by kernel_rfl) (fun _ _ _ h => h) ?h11 hS ?_
    case h11 => (intro w hw; go_simp; first | done | (with_reducible rfl))
    try simp only [Act.put, List.setIfInBounds_toArray, List.set_cons_zero, List.set_cons_succ]
    refine H.take (i := 12) (v := ?v12) (by simp only [List.getElem?_toArray, List.getElem?_cons_succ, List.getElem?_cons_zero]; rfl) (by kernel_rfl) rfl (by kernel_rfl) (by kernel_rfl) (by kernel_rfl) (fun _ _ _ h => h) ?h12 hS ?_
    case h12 => (intro w hw; go_simp; first | done | (with_reducible rfl))
    try simp only [Act.put, List.setIfInBounds_toArray, List.set_cons_zero, List.set_cons_succ]
    refine wpAnyH_done (by kernel_rfl) ?_ _
    have r0 := hS
    clear hS PN2 PM2 n1 n3
    cases x3
    · replace HZ := Lib.hid (show ckE (hdOf cmd ver says) e true = 7 from HZ.out)
      have r1 := r0
      go_wp2_with (first | (refine wpList_loadM (b := g) (m := mm) rfl _ rfl rfl r1.own ?_) | (refine wpList_storeM (b := w.heap.size + 1) (m := M.zero) (m' := mm) rfl _ _ rfl rfl rfl r1.res ?_))
      exact bodyPost_ret (v := .tuple #[.agg mm.cells, .int .i64 7]) (Own.results_pair (ty := 34) rfl _ _ (w.heap.size + 1) _ rfl (Own.loadVarM (r1.res.put (m' := mm))) _ rfl) rfl ⟨mm, by rw [HZ.out], fun h => absurd h (by rw [HZ.out]; decide), below_setRow r1.bel (by omega) _⟩
    · replace HZ := Lib.hid (show ckE (hdOf cmd ver says) e true = 0 from HZ.out)
      have r1 := r0
      go_wp2_with (first | (refine wpList_loadM (b := g) (m := mm) rfl _ rfl rfl r1.own ?_) | (refine wpList_storeM (b := w.heap.size + 1) (m := M.zero) (m' := mm) rfl _ _ rfl rfl rfl r1.res ?_))
      exact bodyPost_ret (v := .tuple #[.agg mm.cells, .int .i64 0]) (Own.results_pair (ty := 34) rfl _ _ (w.heap.size + 1) _ rfl (Own.loadVarM (r1.res.put (m' := mm))) _ rfl) rfl ⟨mm, by rw [HZ.out], fun _ => HM.out, below_setRow r1.bel (by omega) _⟩
  have e0 : (e.fam == 0) = false := by simpa using f0
  rcases (show e.fam ≠ 2 ∨ e.fam = 2 by omega) with f2 | f2
  · have HZ := Lib.hid (show ckE (hdOf cmd ver says) e one = 4 by rw [HA.out, if_neg f0, if_neg f2])
    have e2 : (e.fam == 2) = false := by simpa using f2
    have e3 : (e.fam != 2) = true := by rw [bne, e2]; rfl
    clear HA HP HM HK0 HK1 HK2 HSet f0 f2 n1 n2 n3 n4
    have r1 := r0
    go_wp2_with (first | (refine wpList_loadM (b := g) (m := (m0 (hdOf cmd ver says) e 0)) rfl _ rfl rfl r1.own ?_) | (refine wpList_storeM (b := w.heap.size + 1) (m := M.zero) (m' := (m0 (hdOf cmd ver says) e 0)) rfl _ _ rfl rfl rfl r1.res ?_))
    exact bodyPost_ret (v := .tuple #[.agg (m0 (hdOf cmd ver says) e 0).cells, .int .i64 4]) (Own.results_pair (ty := 34) rfl _ _ (w.heap.size + 1) _ rfl (Own.loadVarM (r1.res.put (m' := (m0 (hdOf cmd ver says) e 0)))) _ rfl) rfl ⟨(m0 (hdOf cmd ver says) e 0), by rw [HZ.out], fun h => absurd h (by rw [HZ.out]; decide), below_setRow r1.bel (by omega) _⟩
  have e2 : (e.fam == 2) = true := by simpa using f2
  have e3 : (e.fam != 2) = false := by rw [bne, e2]; rfl
  rcases (show ver = 1 ∨ ver ≠ 1 by omega) with v1 | v1
  · have HA := Lib.hid (show ckE (hdOf cmd ver says) e one = ck1 e by rw [HA.out, if_neg f0, if_pos f2, if_pos v1])
    have HM := Lib.hid (HM.out 32 (by rw [HP.out, if_neg f0, if_pos v1]))
    have HA := Lib.hid (HA.out.trans HK1.out)
    have e1 : (ver == 1) = true := by simpa using v1
    clear HP HK0 HK1 HK2 P2 P3 PM f0 f2 v1
    have c7 := r0.own.cs.c7
    have f7 := r0.own.frozen 7
    go_upto_region 10 with fail
    replace r0 := r0.set (i := 7) (v := .int .i64 32) (HSet.out 32)
    clear c7 f7 d0 e0 e1 e2 e3 HSet
    generalize W.setCell _ _ = W1 at *
    have d1 := (ec r0.en).c1
    have d3 := (ec r0.en).c3
    have d4 := (ec r0.en).c4
    have n5 : (e.tag != 0) = !(e.tag == 0) := rfl
    generalize isN e.mask = x2 at *
    generalize isN e.next = x3 at *
    generalize g1 : (e.tag == 0) = x1 at *
    cases x1
    · have HZ := Lib.hid (show ckE (hdOf cmd ver says) e one = 5 by rw [HA.out]; rfl)
      clear HA HM
      go_quiet ((go_at_call 31; exact Calls.quiet_of_same (nought_q _)))
      have r1 := r0.drews
      go_wp2_with (first | (refine wpList_loadM (b := g) (m := (m0 (hdOf cmd ver says) e 32)) rfl _ rfl rfl (r1 _).own ?_) | (refine wpList_storeM (b := w.heap.size + 1) (m := M.zero) (m' := (m0 (hdOf cmd ver says) e 32)) rfl _ _ rfl rfl rfl (r1 _).res ?_))
      exact bodyPost_ret (v := .tuple #[.agg (m0 (hdOf cmd ver says) e 32).cells, .int .i64 5]) (Own.results_pair (ty := 34) rfl _ _ (w.heap.size + 1) _ rfl (Own.loadVarM ((r1 _).res.put (m' := (m0 (hdOf cmd ver says) e 32)))) _ rfl) rfl ⟨(m0 (hdOf cmd ver says) e 32), by rw [HZ.out], fun h => absurd h (by rw [HZ.out]; decide), below_setRow (r1 _).bel (by omega) _⟩
    cases x2
    · have HZ := Lib.hid (show ckE (hdOf cmd ver says) e one = 5 by rw [HA.out]; rfl)
      clear HA HM
      go_quiet ((go_at_call 31; exact Calls.quiet_of_same (nought_q _)))
      have r1 := r0.drews
      go_wp2_with (first | (refine wpList_loadM (b := g) (m := (m0 (hdOf cmd ver says) e 32)) rfl _ rfl rfl (r1 _).own ?_) | (refine wpList_storeM (b := w.heap.size + 1) (m := M.zero) (m' := (m0 (hdOf cmd ver says) e 32)) rfl _ _ rfl rfl rfl (r1 _).res ?_))
      exact bodyPost_ret (v := .tuple #[.agg (m0 (hdOf cmd ver says) e 32).cells, .int .i64 5]) (Own.results_pair (ty := 34) rfl _ _ (w.heap.size + 1) _ rfl (Own.loadVarM ((r1 _).res.put (m' := (m0 (hdOf cmd ver says) e 32)))) _ rfl) rfl ⟨(m0 (hdOf cmd ver says) e 32), by rw [HZ.out], fun h => absurd h (by rw [HZ.out]; decide), below_setRow (r1 _).bel (by omega) _⟩
    cases x3
    · have HZ := Lib.hid (show ckE (hdOf cmd ver says) e one = 5 by rw [HA.out]; rfl)
      clear HA HM
      go_quiet ((go_at_call 31; exact Calls.quiet_of_same (nought_q _)))
      have r1 := r0.drews
      go_wp2_with (first | (refine wpList_loadM (b := g) (m := (m0 (hdOf cmd ver says) e 32)) rfl _ rfl rfl (r1 _).own ?_) | (refine wpList_storeM (b := w.heap.size + 1) (m := M.zero) (m' := (m0 (hdOf cmd ver says) e 32)) rfl _ _ rfl rfl rfl (r1 _).res ?_))
      exact bodyPost_ret (v := .tuple #[.agg (m0 (hdOf cmd ver says) e 32).cells, .int .i64 5]) (Own.results_pair (ty := 34) rfl _ _ (w.heap.size + 1) _ rfl (Own.loadVarM ((r1 _).res.put (m' := (m0 (hdOf cmd ver says) e 32)))) _ rfl) rfl ⟨(m0 (hdOf cmd ver says) e 32), by rw [HZ.out], fun h => absurd h (by rw [HZ.out]; decide), below_setRow (r1 _).bel (by omega) _⟩
    have HA := Lib.hid (show ckE (hdOf cmd ver says) e one = ckMet e from HA.out)
    go_quiet ((go_at_call 31; exact Calls.quiet_of_same (nought_q _)))
    go_upto_region 16 with fail
    replace r0 := r0.drews nq
    clear d1 d3 d4 n1 n2 n3 n4 n5
    generalize W1.drewN nq = W2 at *
    have d5 := (ec r0.en).c5
    rcases (show e.met < 1 ∨ 1 ≤ e.met by omega) with t1 | t1
    · have HZ := Lib.hid (show ckE (hdOf cmd ver says) e one = 6 by rw [HA.out]; unfold ckMet; rw [show isMet e.met = false by unfold isMet; simp; omega]; rfl)
      clear HA
      have r1 := r0
      go_wp2_with (first | (refine wpList_loadM (b := g) (m := (m0 (hdOf cmd ver says) e 32)) rfl _ rfl rfl r1.own ?_) | (refine wpList_storeM (b := w.heap.size + 1) (m := M.zero) (m' := (m0 (hdOf cmd ver says) e 32)) rfl _ _ rfl rfl rfl r1.res ?_))
      exact bodyPost_ret (v := .tuple #[.agg (m0 (hdOf cmd ver says) e 32).cells, .int .i64 6]) (Own.results_pair (ty := 34) rfl _ _ (w.heap.size + 1) _ rfl (Own.loadVarM (r1.res.put (m' := (m0 (hdOf cmd ver says) e 32)))) _ rfl) rfl ⟨(m0 (hdOf cmd ver says) e 32), by rw [HZ.out], fun h => absurd h (by rw [HZ.out]; decide), below_setRow r1.bel (by omega) _⟩
    rcases (show 16 < e.met ∨ e.met ≤ 16 by omega) with t2 | t2
    · have HZ := Lib.hid (show ckE (hdOf cmd ver says) e one = 6 by rw [HA.out]; unfold ckMet; rw [show isMet e.met = false by unfold isMet; simp; omega]; rfl)
      clear HA
      have r1 := r0
      go_wp2_with (first | (refine wpList_loadM (b := g) (m := (m0 (hdOf cmd ver says) e 32)) rfl _ rfl rfl r1.own ?_) | (refine wpList_storeM (b := w.heap.size + 1) (m := M.zero) (m' := (m0 (hdOf cmd ver says) e 32)) rfl _ _ rfl rfl rfl r1.res ?_))
      exact bodyPost_ret (v := .tuple #[.agg (m0 (hdOf cmd ver says) e 32).cells, .int .i64 6]) (Own.results_pair (ty := 34) rfl _ _ (w.heap.size + 1) _ rfl (Own.loadVarM (r1.res.put (m' := (m0 (hdOf cmd ver says) e 32)))) _ rfl) rfl ⟨(m0 (hdOf cmd ver says) e 32), by rw [HZ.out], fun h => absurd h (by rw [HZ.out]; decide), below_setRow r1.bel (by omega) _⟩
    have HZ := Lib.hid (show ckE (hdOf cmd ver says) e one = 0 by rw [HA.out]; unfold ckMet; rw [show isMet e.met = true by unfold isMet; simp; omega]; rfl)
    clear HA
    have r1 := r0
    go_wp2_with (first | (refine wpList_loadM (b := g) (m := (m0 (hdOf cmd ver says) e 32)) rfl _ rfl rfl r1.own ?_) | (refine wpList_storeM (b := w.heap.size + 1) (m := M.zero) (m' := (m0 (hdOf cmd ver says) e 32)) rfl _ _ rfl rfl rfl r1.res ?_))
    exact bodyPost_ret (v := .tuple #[.agg (m0 (hdOf cmd ver says) e 32).cells, .int .i64 0]) (Own.results_pair (ty := 34) rfl _ _ (w.heap.size + 1) _ rfl (Own.loadVarM (r1.res.put (m' := (m0 (hdOf cmd ver says) e 32)))) _ rfl) rfl ⟨(m0 (hdOf cmd ver says) e 32), by rw [HZ.out], fun _ => HM.out, below_setRow r1.bel (by omega) _⟩
  · have HA := Lib.hid (show ckE (hdOf cmd ver says) e one = ck2 e by rw [HA.out, if_neg f0, if_pos f2, if_neg v1])
    have HM := Lib.hid (HM.out ((Mask.plenN e.mask : Nat) : Int) (by rw [HP.out, if_neg f0, if_neg v1]))
    have HA := Lib.hid (HA.out.trans HK2.out)
    have e1 : (ver == 1) = false := by simpa using v1
    have HSet := Lib.hid (HSet.out ((Mask.plenN e.mask : Nat) : Int))
    clear HP HK0 HK1 HK2 PM PN f0 f2 v1 n1 n2 n3 n4
    have d3 := (ec r0.en).c3
    generalize Mask.plenN e.mask = pn at *
    generalize Mask.isMask e.mask = x1 at *
    generalize Pre.rightZ e.addr ((pn : Nat) : Int) = x2 at *
    go_wp2_with fail
    refine (P2.out _).mono ?_
    rintro r w2 ⟨rfl, hb⟩
    replace r0 := r0.call hb
    clear hb d0 d3 e0 e1 e2 e3
    have c7 := r0.own.cs.c7
    have f7 := r0.own.frozen 7
    go_upto_region 14 with fail
    replace r0 := r0.set (i := 7) (v := .int .i64 ((pn : Nat) : Int)) HSet.out
    clear c7 f7 HSet P2
    generalize w2.setCell _ _ = W1 at *
    have d2 := (ec r0.en).c2
    cases x1
    · have HZ := Lib.hid (show ckE (hdOf cmd ver says) e one = 7 by rw [HA.out]; rfl)
      clear HA HM
      have r1 := r0
      go_wp2_with (first | (refine wpList_loadM (b := g) (m := (m0 (hdOf cmd ver says) e ((pn : Nat) : Int))) rfl _ rfl rfl r1.own ?_) | (refine wpList_storeM (b := w.heap.size + 1) (m := M.zero) (m' := (m0 (hdOf cmd ver says) e ((pn : Nat) : Int))) rfl _ _ rfl rfl rfl r1.res ?_))
      exact bodyPost_ret (v := .tuple #[.agg (m0 (hdOf cmd ver says) e ((pn : Nat) : Int)).cells, .int .i64 7]) (Own.results_pair (ty := 34) rfl _ _ (w.heap.size + 1) _ rfl (Own.loadVarM (r1.res.put (m' := (m0 (hdOf cmd ver says) e ((pn : Nat) : Int))))) _ rfl) rfl ⟨(m0 (hdOf cmd ver says) e ((pn : Nat) : Int)), by rw [HZ.out], fun h => absurd h (by rw [HZ.out]; decide), below_setRow r1.bel (by omega) _⟩
    cases x2
    · have HZ := Lib.hid (show ckE (hdOf cmd ver says) e one = 7 by rw [HA.out]; rfl)
      clear HA HM
      go_wp2_with fail
      refine (P3.out _).mono ?_
      rintro r w3 ⟨rfl, hb⟩
      replace r0 := r0.call hb
      clear hb d2
      have r1 := r0
      go_wp2_with (first | (refine wpList_loadM (b := g) (m := (m0 (hdOf cmd ver says) e ((pn : Nat) : Int))) rfl _ rfl rfl r1.own ?_) | (refine wpList_storeM (b := w.heap.size + 1) (m := M.zero) (m' := (m0 (hdOf cmd ver says) e ((pn : Nat) : Int))) rfl _ _ rfl rfl rfl r1.res ?_))
      exact bodyPost_ret (v := .tuple #[.agg (m0 (hdOf cmd ver says) e ((pn : Nat) : Int)).cells, .int .i64 7]) (Own.results_pair (ty := 34) rfl _ _ (w.heap.size + 1) _ rfl (Own.loadVarM (r1.res.put (m' := (m0 (hdOf cmd ver says) e ((pn : Nat) : Int))))) _ rfl) rfl ⟨(m0 (hdOf cmd ver says) e ((pn : Nat) : Int)), by rw [HZ.out], fun h => absurd h (by rw [HZ.out]; decide), below_setRow r1.bel (by omega) _⟩
    have HA := Lib.hid (show ckE (hdOf cmd ver says) e one = ckMet e from HA.out)
    go_wp2_with fail
    refine (P3.out _).mono ?_
    rintro r w3 ⟨rfl, hb⟩
    replace r0 := r0.call hb
    clear hb d2
    go_upto_region 16 with fail
    have d5 := (ec r0.en).c5
    rcases (show e.met < 1 ∨ 1 ≤ e.met by omega) with t1 | t1
    · have HZ := Lib.hid (show ckE (hdOf cmd ver says) e one = 6 by rw [HA.out]; unfold ckMet; rw [show isMet e.met = false by unfold isMet; simp; omega]; rfl)
      clear HA
      have r1 := r0
      go_wp2_with (first | (refine wpList_loadM (b := g) (m := (m0 (hdOf cmd ver says) e ((pn : Nat) : Int))) rfl _ rfl rfl r1.own ?_) | (refine wpList_storeM (b := w.heap.size + 1) (m := M.zero) (m' := (m0 (hdOf cmd ver says) e ((pn : Nat) : Int))) rfl _ _ rfl rfl rfl r1.res ?_))
      exact bodyPost_ret (v := .tuple #[.agg (m0 (hdOf cmd ver says) e ((pn : Nat) : Int)).cells, .int .i64 6]) (Own.results_pair (ty := 34) rfl _ _ (w.heap.size + 1) _ rfl (Own.loadVarM (r1.res.put (m' := (m0 (hdOf cmd ver says) e ((pn : Nat) : Int))))) _ rfl) rfl ⟨(m0 (hdOf cmd ver says) e ((pn : Nat) : Int)), by rw [HZ.out], fun h => absurd h (by rw [HZ.out]; decide), below_setRow r1.bel (by omega) _⟩
    rcases (show 16 < e.met ∨ e.met ≤ 16 by omega) with t2 | t2
    · have HZ := Lib.hid (show ckE (hdOf cmd ver says) e one = 6 by rw [HA.out]; unfold ckMet; rw [show isMet e.met = false by unfold isMet; simp; omega]; rfl)
      clear HA
      have r1 := r0
      go_wp2_with (first | (refine wpList_loadM (b := g) (m := (m0 (hdOf cmd ver says) e ((pn : Nat) : Int))) rfl _ rfl rfl r1.own ?_) | (refine wpList_storeM (b := w.heap.size + 1) (m := M.zero) (m' := (m0 (hdOf cmd ver says) e ((pn : Nat) : Int))) rfl _ _ rfl rfl rfl r1.res ?_))
      exact bodyPost_ret (v := .tuple #[.agg (m0 (hdOf cmd ver says) e ((pn : Nat) : Int)).cells, .int .i64 6]) (Own.results_pair (ty := 34) rfl _ _ (w.heap.size + 1) _ rfl (Own.loadVarM (r1.res.put (m' := (m0 (hdOf cmd ver says) e ((pn : Nat) : Int))))) _ rfl) rfl ⟨(m0 (hdOf cmd ver says) e ((pn : Nat) : Int)), by rw [HZ.out], fun h => absurd h (by rw [HZ.out]; decide), below_setRow r1.bel (by omega) _⟩
    have HZ := Lib.hid (show ckE (hdOf cmd ver says) e one = 0 by rw [HA.out]; unfold ckMet; rw [show isMet e.met = true by unfold isMet; simp; omega]; rfl)
    clear HA
    have r1 := r0
    go_wp2_with (first | (refine wpList_loadM (b := g) (m := (m0 (hdOf cmd ver says) e ((pn : Nat) : Int))) rfl _ rfl rfl r1.own ?_) | (refine wpList_storeM (b := w.heap.size + 1) (m := M.zero) (m' := (m0 (hdOf cmd ver says) e ((pn : Nat) : Int))) rfl _ _ rfl rfl rfl r1.res ?_))
    exact bodyPost_ret (v := .tuple #[.agg (m0 (hdOf cmd ver says) e ((pn : Nat) : Int)).cells, .int .i64 0]) (Own.results_pair (ty := 34) rfl _ _ (w.heap.size + 1) _ rfl (Own.loadVarM (r1.res.put (m' := (m0 (hdOf cmd ver says) e ((pn : Nat) : Int))))) _ rfl) rfl ⟨(m0 (hdOf cmd ver says) e ((pn : Nat) : Int)), by rw [HZ.out], fun _ => HM.out, below_setRow r1.bel (by omega) _⟩
end Go.Proofs.Ytfaobpmbiocafaa.Rq
