/-
  The program's calls on an entry: its error, and its route. Condition: the entry's texts have four bytes.
-/
import Derived.Test.YtfaobpmbiocafaaRt
import Derived.Test.YtfaobpmbiocafaaPs
namespace Go.Proofs.Ytfaobpmbiocafaa.Ck
open Go.ChangeShapes Go.WideShapes Go.ChangeAt Go.RowKit
open Go.Proofs.Ytfaobpmbiocafaa.Ms
open Go.Proofs.Ytfaobpmbiocafaa.Box
open Go.Proofs.Ytfaobpmbiocafaa.Rp
open Go.Proofs.Ytfaobpmbiocafaa.Ps
open Go.Proofs.Ytfaobpmbiocafaa.Rt
open Go.Proofs.Ytfaobpmbiocafaa.Hs
open Go.Proofs.Ytfaobpmbiocafaa.Bk (E Bk shE results_one loadVarK wpList_loadK wpList_storeK run_loadK)
open Go.Proofs.Ytfaobpmbiocafaa.Or (st_yes)
set_option linter.unusedVariables false
set_option maxRecDepth 100000

/-- The entry's texts have four bytes. -/
structure E4 (e : E) : Prop where
  (a : e.addr.size = 4) (m : e.mask.size = 4) (n : e.next.size = 4)
theorem ent4 (s : ByteArray) (h : s.size = 20) : E4 (Ent.E.of s) := by
  constructor <;> (unfold Ent.E.of; simp; omega)
theorem int_eq {k : IntKind} {a b : Int} (h : a = b) : Ending.returned (.int k a) = .returned (.int k b) := by rw [h]
theorem boxE (w : World) (e : E) : Bk 48 (w.alloc (.cells e.cells 48)) w.heap.size e.cells ∧ Below w.heap.size w (w.alloc (.cells e.cells 48)) := ⟨Bk.Bk.new _ w _, balloc (Below.refl _ w) _⟩
theorem box2 (w : World) (h : M) (e : E) : Bx ((w.alloc (.cells h.cells 34)).alloc (.cells e.cells 48)) w.heap.size h ∧ Bk 48 ((w.alloc (.cells h.cells 34)).alloc (.cells e.cells 48)) (w.heap.size + 1) e.cells ∧
    Below w.heap.size w ((w.alloc (.cells h.cells 34)).alloc (.cells e.cells 48)) := by
  refine ⟨(Bx.new w h).old _, ?_, balloc (balloc (Below.refl _ w) _) _⟩
  have := Bk.Bk.new 48 (w.alloc (.cells h.cells 34)) e.cells
  rwa [Bk.alloc_size] at this
structure Ec (w : World) (b : Nat) (e : E) : Prop where
  c0 : w.cell? ⟨b, 0, none⟩ = some (.int .i64 e.fam)
  c1 : w.cell? ⟨b, 1, none⟩ = some (.int .i64 e.tag)
  c2 : w.cell? ⟨b, 2, none⟩ = some (.string e.addr)
  c3 : w.cell? ⟨b, 3, none⟩ = some (.string e.mask)
  c4 : w.cell? ⟨b, 4, none⟩ = some (.string e.next)
  c5 : w.cell? ⟨b, 5, none⟩ = some (.int .i64 e.met)
theorem ec {w : World} {b : Nat} {e : E} (h : Bk 48 w b e.cells) : Ec w b e := by
  constructor <;> exact h.cell _ _ rfl

set_option maxHeartbeats 1600000 in
theorem met_ck (e : E) (w : World) : Calls Try.prog 92 #[.agg e.cells] w fun r w' => r = .returned (.int .i64 (ckMet e)) ∧ Below w.heap.size w w' := by
  obtain ⟨b0, bel⟩ := boxE w e
  have P1 := Lib.hid (fun W => met_any e.met W)
  go_enter Try.func92, Try.ntmps92
  go_upto_region 1 with fail
  generalize w.alloc (.cells e.cells 48) = V at *
  have c5 := (ec b0).c5
  clear b0
  have HA := Lib.hid (show ckMet e = if isMet e.met then 0 else 6 from rfl)
  generalize isMet e.met = x at *
  cases x
  all_goals
    go_wp2_with fail
    refine (P1.out _).mono ?_
    rintro r w1 ⟨rfl, rfl⟩
    go_wp2
    go_ret
    exact ⟨int_eq HA.out.symm, bel⟩

set_option maxHeartbeats 1600000 in
theorem one_ck (e : E) (w : World) : Calls Try.prog 74 #[.agg e.cells] w fun r w' => r = .returned (.int .i64 (ck1 e)) ∧ Below w.heap.size w w' := by
  obtain ⟨b0, bel⟩ := boxE w e
  have P1 := Lib.hid (fun W => met_ck e W)
  go_enter Try.func74, Try.ntmps74
  go_upto_region 1 with fail
  generalize w.alloc (.cells e.cells 48) = V at *
  have c1 := (ec b0).c1
  have c3 := (ec b0).c3
  have c4 := (ec b0).c4
  have B0 := Lib.hid b0
  clear b0
  have HA := Lib.hid (show ck1 e = if e.tag == 0 && (isN e.mask && isN e.next) then ckMet e else 5 from rfl)
  have n1 : (e.mask.toList == [0, 0, 0, 0]) = isN e.mask := rfl
  have n2 : (e.next.toList == [0, 0, 0, 0]) = isN e.next := rfl
  have n3 : (e.mask.toList != [0, 0, 0, 0]) = !isN e.mask := rfl
  have n4 : (e.next.toList != [0, 0, 0, 0]) = !isN e.next := rfl
  have n5 : (e.tag != 0) = !(e.tag == 0) := rfl
  generalize isN e.mask = x2 at *
  generalize isN e.next = x3 at *
  generalize h1 : (e.tag == 0) = x1 at *
  cases x1
  · have HZ := Lib.hid (show ck1 e = 5 by rw [HA.out]; rfl)
    clear HA
    go_wp2
    go_ret
    exact ⟨int_eq HZ.out.symm, bel⟩
  cases x2
  · have HZ := Lib.hid (show ck1 e = 5 by rw [HA.out]; rfl)
    clear HA
    go_wp2
    go_ret
    exact ⟨int_eq HZ.out.symm, bel⟩
  cases x3
  · have HZ := Lib.hid (show ck1 e = 5 by rw [HA.out]; rfl)
    clear HA
    go_wp2
    go_ret
    exact ⟨int_eq HZ.out.symm, bel⟩
  have HZ := Lib.hid (show ck1 e = ckMet e by rw [HA.out]; rfl)
  clear HA
  go_wp2_with (first | (refine wpList_loadK (b := w.heap.size) shE rfl _ rfl rfl B0.out rfl ?_))
  refine (P1.out _).mono ?_
  rintro r w1 ⟨rfl, hb⟩
  have bel := bcall bel hb
  clear hb c1 c3 c4
  go_wp2
  go_ret
  exact ⟨int_eq HZ.out.symm, bel⟩

set_option maxHeartbeats 1600000 in
theorem two_ck (e : E) (w : World) (he : E4 e) : Calls Try.prog 75 #[.agg e.cells] w fun r w' => r = .returned (.int .i64 (ck2 e)) ∧ Below w.heap.size w w' := by
  obtain ⟨b0, bel⟩ := boxE w e
  have P1 := Lib.hid (fun W => met_ck e W)
  have P2 := Lib.hid (fun W => Mask.plen_any e.mask W (by have := he.m; omega))
  have P3 := Lib.hid (fun W => Pre.right_any e.addr ((Mask.plenN e.mask : Nat) : Int) W (by have := he.a; unfold maxLen; omega))
  clear he
  go_enter Try.func75, Try.ntmps75
  go_upto_region 1 with fail
  generalize w.alloc (.cells e.cells 48) = V at *
  have c3 := (ec b0).c3
  have B0 := Lib.hid b0
  clear b0
  have HA := Lib.hid (show ck2 e = if Mask.isMask e.mask && Pre.rightZ e.addr ((Mask.plenN e.mask : Nat) : Int) then ckMet e else 7 from rfl)
  generalize Mask.isMask e.mask = x1 at *
  generalize Pre.rightZ e.addr ((Mask.plenN e.mask : Nat) : Int) = x2 at *
  generalize Mask.plenN e.mask = n at *
  go_wp2_with fail
  refine (P2.out _).mono ?_
  rintro r w1 ⟨rfl, hb⟩
  have bel := bcall bel hb
  have B0 := Lib.hid (B0.out.below hb)
  have c2 := (ec B0.out).c2
  clear hb c3 P2
  cases x1
  · have HZ := Lib.hid (show ck2 e = 7 by rw [HA.out]; rfl)
    clear HA
    go_wp2
    go_ret
    exact ⟨int_eq HZ.out.symm, bel⟩
  cases x2
  · have HZ := Lib.hid (show ck2 e = 7 by rw [HA.out]; rfl)
    clear HA
    go_wp2_with fail
    refine (P3.out _).mono ?_
    rintro r w2 ⟨rfl, hb⟩
    have bel := bcall bel hb
    clear hb c2
    go_wp2
    go_ret
    exact ⟨int_eq HZ.out.symm, bel⟩
  have HZ := Lib.hid (show ck2 e = ckMet e by rw [HA.out]; rfl)
  clear HA
  go_wp2_with fail
  refine (P3.out _).mono ?_
  rintro r w2 ⟨rfl, hb⟩
  have bel := bcall bel hb
  have B0 := Lib.hid (B0.out.below hb)
  clear hb c2 P3
  go_wp2_with (first | (refine wpList_loadK (b := w.heap.size) shE rfl _ rfl rfl B0.out rfl ?_))
  refine (P1.out _).mono ?_
  rintro r w3 ⟨rfl, hb⟩
  have bel := bcall bel hb
  clear hb
  go_wp2
  go_ret
  exact ⟨int_eq HZ.out.symm, bel⟩

set_option maxHeartbeats 1600000 in
theorem plen_ck (h : M) (e : E) (w : World) (he : E4 e) : Calls Try.prog 76 #[.agg h.cells, .agg e.cells] w fun r w' => r = .returned (.int .i64 (plenE h e)) ∧ Below w.heap.size w w' := by
  obtain ⟨b0, b1, bel⟩ := box2 w h e
  have P2 := Lib.hid (fun W => Mask.plen_any e.mask W (by have := he.m; omega))
  clear he
  have HA := Lib.hid (show plenE h e = if e.fam = 0 then 0 else if h.ver = 1 then 32 else ((Mask.plenN e.mask : Nat) : Int) from rfl)
  generalize Mask.plenN e.mask = n at *
  go_enter Try.func76, Try.ntmps76
  go_upto_region 1 with fail
  generalize (w.alloc (.cells h.cells 34)).alloc _ = V at *
  have c0 := (ec b1).c0
  have c3 := (ec b1).c3
  have d2 := b0.cs.c2
  clear b0 b1
  by_cases h0 : e.fam = 0
  · have HZ := Lib.hid (show plenE h e = 0 by rw [HA.out, if_pos h0])
    have e0 : (e.fam == 0) = true := by simpa using h0
    clear HA h0
    go_wp2
    go_ret
    exact ⟨int_eq HZ.out.symm, bel⟩
  have e0 : (e.fam == 0) = false := by simpa using h0
  by_cases h1 : h.ver = 1
  · have HZ := Lib.hid (show plenE h e = 32 by rw [HA.out, if_neg h0, if_pos h1])
    have e1 : (h.ver == 1) = true := by simpa using h1
    clear HA h0 h1
    go_wp2
    go_ret
    exact ⟨int_eq HZ.out.symm, bel⟩
  have e1 : (h.ver == 1) = false := by simpa using h1
  have HZ := Lib.hid (show plenE h e = (n : Int) by rw [HA.out, if_neg h0, if_neg h1])
  clear HA h0 h1
  go_wp2_with fail
  refine (P2.out _).mono ?_
  rintro r w2 ⟨rfl, hb⟩
  have bel := bcall bel hb
  clear hb c0 c3 d2
  go_wp2
  go_ret
  exact ⟨int_eq HZ.out.symm, bel⟩

/-- What stands in the middle of routeOf. -/
structure R (w0 w : World) (n g : Nat) (h : M) (e : E) (m : M) : Prop where
  hd : Bx w n h
  en : Bk 48 w (n + 1) e.cells
  res : Bx w (n + 1 + 1) M.zero
  own : Bx w g m
  o : n + 1 + 1 < g
  bel : Below n w0 w
theorem R.set {w0 w : World} {n g : Nat} {h : M} {e : E} {m m' : M} (r : R w0 w n g h e m) {i : Nat} {v : Value} (hm : m.cells.setIfInBounds i v = m'.cells) : R w0 (w.setCell ⟨g, i, none⟩ v) n g h e m' :=
  ⟨r.hd.off (by have := r.o; show n ≠ g; omega) _, r.en.off (by have := r.o; show n + 1 ≠ g; omega) _, r.res.off (by have := r.o; show n + 1 + 1 ≠ g; omega) _, r.own.set hm, r.o, r.bel.setCell (p := ⟨g, i, none⟩) (by have := r.o; show n ≤ g; omega) _⟩
theorem R.call {w0 w w' : World} {n g : Nat} {h : M} {e : E} {m : M} (r : R w0 w n g h e m) (hb : Below w.heap.size w w') : R w0 w' n g h e m :=
  ⟨r.hd.below hb, r.en.below hb, r.res.below hb, r.own.below hb, r.o, r.bel.trans (hb.mono (by have := r.hd.lt; omega))⟩

set_option maxHeartbeats 3200000 in
theorem route_ck (h : M) (e : E) (w : World) (he : E4 e) : Calls Try.prog 46 #[.agg h.cells, .agg e.cells] w fun r w' => r = .returned (.agg (routeM h e).cells) ∧ Below w.heap.size w w' := by
  have P1 := Lib.hid (fun W => plen_ck h e W he)
  have HA := Lib.hid (show routeM h e = { h with family := e.fam, tag := e.tag, pfx := e.addr, plen := plenE h e, next := e.next, metric := e.met } from rfl)
  generalize plenE h e = q at *
  clear he
  go_enter Try.func46, Try.ntmps46
  go_upto_region 1 with fail
  have st : Bx (((w.alloc (.cells h.cells 34)).alloc (.cells e.cells 48)).alloc (.cells M.zero.cells 34)) w.heap.size h ∧ Bk 48 (((w.alloc (.cells h.cells 34)).alloc (.cells e.cells 48)).alloc (.cells M.zero.cells 34)) (w.heap.size + 1) e.cells ∧
      Bx (((w.alloc (.cells h.cells 34)).alloc (.cells e.cells 48)).alloc (.cells M.zero.cells 34)) (w.heap.size + 1 + 1) M.zero ∧ Below w.heap.size w (((w.alloc (.cells h.cells 34)).alloc (.cells e.cells 48)).alloc (.cells M.zero.cells 34)) := by
    obtain ⟨b0, b1, bel⟩ := box2 w h e
    refine ⟨b0.old _, b1.old _, ?_, balloc bel _⟩
    have := Bx.new ((w.alloc (.cells h.cells 34)).alloc (.cells e.cells 48)) M.zero
    rwa [Bk.alloc_size, Bk.alloc_size] at this
  obtain ⟨b0, b1, b2, bel⟩ := st
  change Code.wp _ _ _ _ (((w.alloc (.cells h.cells 34)).alloc (.cells e.cells 48)).alloc (.cells M.zero.cells 34))
  generalize ((w.alloc (.cells h.cells 34)).alloc (.cells e.cells 48)).alloc (.cells M.zero.cells 34) = V at *
  have B0 := Lib.hid b0
  go_upto_region 2 with (first | (refine wpList_loadM (b := w.heap.size) (m := h) rfl _ rfl rfl B0.out ?_) | (refine wpList_storeM (m := M.zero) (m' := h) rfl _ _ rfl rfl rfl (heap_alloc_new _ _) ?_))
  change Code.wp _ _ _ _ ((V.alloc (.cells M.zero.cells 34)).setRow V.heap.size h.cells)
  rw [World.setRow_alloc_new]
  have r0 : R w (V.alloc (.cells h.cells 34)) w.heap.size V.heap.size h e h := ⟨b0.old _, b1.old _, b2.old _, Bx.new V h, b2.lt, balloc bel _⟩
  clear b0 b1 b2 bel B0
  generalize V.alloc (.cells h.cells 34) = W at *
  generalize V.heap.size = g at *
  have d0 := (ec r0.en).c0
  have cE := r0.own.cs.c4
  have fE := r0.own.frozen 4
  go_upto_region 3 with fail
  replace r0 := r0.set (i := 4) (v := .int .i64 e.fam) (m' := { h with family := e.fam }) rfl
  clear d0 cE fE
  generalize World.setCell _ _ _ = W at *
  have d0 := (ec r0.en).c1
  have cE := r0.own.cs.c8
  have fE := r0.own.frozen 8
  go_upto_region 4 with fail
  replace r0 := r0.set (i := 8) (v := .int .i64 e.tag) (m' := { h with family := e.fam, tag := e.tag }) rfl
  clear d0 cE fE
  generalize World.setCell _ _ _ = W at *
  have d0 := (ec r0.en).c2
  have cE := r0.own.cs.c6
  have fE := r0.own.frozen 6
  go_upto_region 5 with fail
  replace r0 := r0.set (i := 6) (v := .string e.addr) (m' := { h with family := e.fam, tag := e.tag, pfx := e.addr }) rfl
  clear d0 cE fE
  generalize World.setCell _ _ _ = W at *
  go_wp2_with (first | (refine wpList_loadM (b := w.heap.size) (m := h) rfl _ rfl rfl r0.hd ?_) | (refine wpList_loadK (b := w.heap.size + 1) shE rfl _ rfl rfl r0.en rfl ?_))
  refine (P1.out _).mono ?_
  rintro r w2 ⟨rfl, hb⟩
  replace r0 := r0.call hb
  clear hb
  have cE := r0.own.cs.c7
  have fE := r0.own.frozen 7
  go_upto_region 6 with fail
  replace r0 := r0.set (i := 7) (v := .int .i64 q) (m' := { h with family := e.fam, tag := e.tag, pfx := e.addr, plen := q }) rfl
  clear cE fE
  generalize World.setCell _ _ _ = W at *
  have d0 := (ec r0.en).c4
  have cE := r0.own.cs.c9
  have fE := r0.own.frozen 9
  go_upto_region 7 with fail
  replace r0 := r0.set (i := 9) (v := .string e.next) (m' := { h with family := e.fam, tag := e.tag, pfx := e.addr, plen := q, next := e.next }) rfl
  clear d0 cE fE
  generalize World.setCell _ _ _ = W at *
  have d0 := (ec r0.en).c5
  have cE := r0.own.cs.c10
  have fE := r0.own.frozen 10
  go_upto_region 8 with fail
  replace r0 := r0.set (i := 10) (v := .int .i64 e.met) (m' := routeM h e) (by rw [HA.out]; rfl)
  clear d0 cE fE
  generalize World.setCell _ _ _ = W at *
  go_wp2_with (first | (refine wpList_loadM (b := g) (m := routeM h e) rfl _ rfl rfl r0.own ?_) | (refine wpList_storeM (b := w.heap.size + 1 + 1) (m := M.zero) (m' := routeM h e) rfl _ _ rfl rfl rfl r0.res ?_))
  exact bodyPost_ret (v := .agg (routeM h e).cells) (results_one (n := 25) (ty := 34) rfl _ _ (w.heap.size + 1 + 1) _ rfl ⟨_, Try.underlying34, infoM⟩ (r0.res.put (m' := routeM h e)) rfl) rfl ⟨rfl, below_setRow r0.bel (by omega) _⟩
theorem route_in {h : M} (hi : ∀ w, h.In w) (e : E) (w : World) : (routeM h e).In w := ⟨(hi w).d, (hi w).s, (hi w).dl, (hi w).sl⟩
set_option maxHeartbeats 3200000 in
theorem all_ck (h : M) (e : E) (a : Bool) (w : World) (he : E4 e) (hi : ∀ w, h.In w) : Calls Try.prog 73 #[.agg h.cells, .agg e.cells, .bool a] w fun r w' => r = .returned (.int .i64 (ck0 h e a)) ∧ Below w.heap.size w w' := by
  obtain ⟨b0, b1, bel⟩ := box2 w h e
  have P1 := Lib.hid (fun W => route_ck h e W he)
  have P2 := Lib.hid (fun W => wrong_any (routeM h e) W (route_in hi e W))
  clear he hi
  have HA := Lib.hid (show ck0 h e a = if a && (isN e.mask && rightB (routeM h e)) then 0 else 7 from rfl)
  have n1 : (e.mask.toList == [0, 0, 0, 0]) = isN e.mask := rfl
  have n3 : (e.mask.toList != [0, 0, 0, 0]) = !isN e.mask := rfl
  generalize isN e.mask = x2 at *
  generalize rightB (routeM h e) = x3 at *
  generalize routeM h e = z at *
  go_enter Try.func73, Try.ntmps73
  go_upto_region 1 with fail
  generalize (w.alloc (.cells h.cells 34)).alloc _ = V at *
  have c3 := (ec b1).c3
  have B0 := Lib.hid b0
  have B1 := Lib.hid b1
  clear b0 b1
  cases a
  · have HZ := Lib.hid (show ck0 h e false = 7 by rw [HA.out]; rfl)
    clear HA
    go_wp2
    go_ret
    exact ⟨int_eq HZ.out.symm, bel⟩
  cases x2
  · have HZ := Lib.hid (show ck0 h e true = 7 by rw [HA.out]; rfl)
    clear HA
    go_wp2
    go_ret
    exact ⟨int_eq HZ.out.symm, bel⟩
  cases x3
  all_goals
    go_wp2_with (first | (refine st_yes (v := .agg (M.cells h)) (by rfl) rfl (run_loadM (x := .tmp 3) rfl rfl B0.out) ?_) | (refine st_yes (v := .agg e.cells) (by rfl) rfl (run_loadK (x := .tmp 4) shE rfl rfl B1.out rfl) ?_))
    refine (P1.out _).mono ?_
    rintro r w2 ⟨rfl, hb⟩
    have bel := bcall bel hb
    clear hb c3
    go_wp2_with fail
    refine (P2.out _).mono ?_
    rintro r w3 ⟨rfl, hb⟩
    have bel := bcall bel hb
    clear hb
    go_wp2
    go_ret
    exact ⟨int_eq (by rw [HA.out]; rfl), bel⟩

set_option maxHeartbeats 3200000 in
theorem entry_ck (h : M) (e : E) (a : Bool) (w : World) (he : E4 e) (hi : ∀ w, h.In w) : Calls Try.prog 45 #[.agg h.cells, .agg e.cells, .bool a] w fun r w' => r = .returned (.int .i64 (ckE h e a)) ∧ Below w.heap.size w w' := by
  obtain ⟨b0, b1, bel⟩ := box2 w h e
  have P0 := Lib.hid (fun W => all_ck h e a W he hi)
  have P1 := Lib.hid (fun W => one_ck e W)
  have P2 := Lib.hid (fun W => two_ck e W he)
  clear he hi
  have HA := Lib.hid (show ckE h e a = if e.fam = 0 then ck0 h e a else if e.fam = 2 then (if h.ver = 1 then ck1 e else ck2 e) else 4 from rfl)
  go_enter Try.func45, Try.ntmps45
  go_upto_region 1 with fail
  generalize (w.alloc (.cells h.cells 34)).alloc _ = V at *
  have c0 := (ec b1).c0
  have d2 := b0.cs.c2
  have B0 := Lib.hid b0
  have B1 := Lib.hid b1
  clear b0 b1
  by_cases h0 : e.fam = 0
  · have HZ := Lib.hid (show ckE h e a = ck0 h e a by rw [HA.out, if_pos h0])
    have e0 : (e.fam == 0) = true := by simpa using h0
    clear HA h0
    go_wp2_with (first | (refine wpList_loadM (b := w.heap.size) (m := h) rfl _ rfl rfl B0.out ?_) | (refine wpList_loadK (b := w.heap.size + 1) shE rfl _ rfl rfl B1.out rfl ?_))
    refine (P0.out _).mono ?_
    rintro r w2 ⟨rfl, hb⟩
    have bel := bcall bel hb
    clear hb c0 d2
    go_wp2
    go_ret
    exact ⟨int_eq HZ.out.symm, bel⟩
  have e0 : (e.fam == 0) = false := by simpa using h0
  by_cases h2 : e.fam = 2
  rotate_left
  · have HZ := Lib.hid (show ckE h e a = 4 by rw [HA.out, if_neg h0, if_neg h2])
    have e2 : (e.fam == 2) = false := by simpa using h2
    clear HA h0 h2
    go_wp2
    go_ret
    exact ⟨int_eq HZ.out.symm, bel⟩
  have e2 : (e.fam == 2) = true := by simpa using h2
  by_cases h1 : h.ver = 1
  · have HZ := Lib.hid (show ckE h e a = ck1 e by rw [HA.out, if_neg h0, if_pos h2, if_pos h1])
    have e1 : (h.ver == 1) = true := by simpa using h1
    clear HA h0 h2 h1
    go_wp2_with (first | (refine wpList_loadK (b := w.heap.size + 1) shE rfl _ rfl rfl B1.out rfl ?_))
    refine (P1.out _).mono ?_
    rintro r w2 ⟨rfl, hb⟩
    have bel := bcall bel hb
    clear hb c0 d2
    go_wp2
    go_ret
    exact ⟨int_eq HZ.out.symm, bel⟩
  have HZ := Lib.hid (show ckE h e a = ck2 e by rw [HA.out, if_neg h0, if_pos h2, if_neg h1])
  have e1 : (h.ver == 1) = false := by simpa using h1
  clear HA h0 h2 h1
  go_wp2_with (first | (refine wpList_loadK (b := w.heap.size + 1) shE rfl _ rfl rfl B1.out rfl ?_))
  refine (P2.out _).mono ?_
  rintro r w2 ⟨rfl, hb⟩
  have bel := bcall bel hb
  clear hb c0 d2
  go_wp2
  go_ret
  exact ⟨int_eq HZ.out.symm, bel⟩
end Go.Proofs.Ytfaobpmbiocafaa.Ck
