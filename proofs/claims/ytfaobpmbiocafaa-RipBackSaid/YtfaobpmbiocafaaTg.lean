/-
  The program's calls on routes that are to stand together, and on a route's entry. Conditions: a list of at most 2^20 messages; none of one message.
-/
import Derived.Test.YtfaobpmbiocafaaIx
import Derived.Test.YtfaobpmbiocafaaHx
import Derived.Test.YtfaobpmbiocafaaHd
import Derived.BigQuiet
import Derived.Deep.QuietTactic
namespace Go.Proofs.Ytfaobpmbiocafaa.Tg
open Go.ChangeShapes Go.WideShapes Go.ChangeAt Go.RowKit
open Go.Proofs.Ytfaobpmbiocafaa.Ms
open Go.Proofs.Ytfaobpmbiocafaa.Box
open Go.Proofs.Ytfaobpmbiocafaa.Rp
open Go.Proofs.Ytfaobpmbiocafaa.Ps
open Go.Proofs.Ytfaobpmbiocafaa.Es
open Go.Proofs.Ytfaobpmbiocafaa.Hs
open Go.Proofs.Ytfaobpmbiocafaa.Hx
open Go.Proofs.Ytfaobpmbiocafaa.All
open Go.Proofs.Ytfaobpmbiocafaa.Rt
open Go.Proofs.Ytfaobpmbiocafaa.Ix (int_eq)
open Go.Proofs.Ytfaobpmbiocafaa.Bk (E Bk shE results_one)
open Go.Proofs.Ytfaobpmbiocafaa.Or (st_yes)
set_option linter.unusedVariables false
set_option maxRecDepth 100000

theorem boxM2 (w : World) (a b : M) : Bx ((w.alloc (.cells a.cells 34)).alloc (.cells b.cells 34)) w.heap.size a ∧ Bx ((w.alloc (.cells a.cells 34)).alloc (.cells b.cells 34)) (w.heap.size + 1) b ∧
    Below w.heap.size w ((w.alloc (.cells a.cells 34)).alloc (.cells b.cells 34)) := by
  refine ⟨(Bx.new w a).old _, ?_, balloc (balloc (Below.refl _ w) _) _⟩
  have := Bx.new (w.alloc (.cells a.cells 34)) b
  rwa [Bk.alloc_size] at this

set_option maxHeartbeats 3200000 in
theorem tog_any (a b : M) (w : World) : Calls Try.prog 60 #[.agg a.cells, .agg b.cells] w fun e w' => e = .returned (.bool (tog a b)) ∧ Below w.heap.size w w' := by
  obtain ⟨b0, b1, bel⟩ := boxM2 w a b
  have HA := Lib.hid (show tog a b = (a.family != 0 && (b.family != 0 && (a.cmd == b.cmd && (a.ver == b.ver && a.auth.toList == b.auth.toList)))) from rfl)
  go_enter Try.func60, Try.ntmps60
  go_upto_region 1 with fail
  generalize (w.alloc (.cells a.cells 34)).alloc _ = V at *
  have c1 := b0.cs.c1
  have c2 := b0.cs.c2
  have c3 := b0.cs.c3
  have c4 := b0.cs.c4
  have d1 := b1.cs.c1
  have d2 := b1.cs.c2
  have d3 := b1.cs.c3
  have d4 := b1.cs.c4
  clear b0 b1
  generalize h1 : (a.family != 0) = x1 at *
  generalize h2 : (b.family != 0) = x2 at *
  generalize h3 : (a.cmd == b.cmd) = x3 at *
  generalize h4 : (a.ver == b.ver) = x4 at *
  generalize h5 : (a.auth.toList == b.auth.toList) = x5 at *
  cases x1
  · have HZ := Lib.hid (show tog a b = false by rw [HA.out]; rfl)
    clear HA
    go_wp2
    go_ret
    exact ⟨bool_eq HZ.out.symm, bel⟩
  cases x2
  · have HZ := Lib.hid (show tog a b = false by rw [HA.out]; rfl)
    clear HA
    go_wp2
    go_ret
    exact ⟨bool_eq HZ.out.symm, bel⟩
  cases x3
  · have HZ := Lib.hid (show tog a b = false by rw [HA.out]; rfl)
    clear HA
    go_wp2
    go_ret
    exact ⟨bool_eq HZ.out.symm, bel⟩
  cases x4
  · have HZ := Lib.hid (show tog a b = false by rw [HA.out]; rfl)
    clear HA
    go_wp2
    go_ret
    exact ⟨bool_eq HZ.out.symm, bel⟩
  have HZ := Lib.hid (show tog a b = x5 by rw [HA.out]; cases x5 <;> rfl)
  clear HA
  go_wp2
  go_ret
  exact ⟨bool_eq HZ.out.symm, bel⟩

set_option maxHeartbeats 1600000 in
theorem most_any (m : M) (w : World) : Calls Try.prog 59 #[.agg m.cells] w fun e w' => e = .returned (.int .i64 (most m : Nat)) ∧ Below w.heap.size w w' := by
  obtain ⟨b0, bel⟩ := boxed w m
  have HA := Lib.hid (show most m = if m.auth.size = 0 then 25 else 24 from rfl)
  go_enter Try.func59, Try.ntmps59
  go_upto_region 1 with fail
  generalize w.alloc (.cells m.cells 34) = V at *
  have c3 := b0.cs.c3
  clear b0
  by_cases h0 : m.auth.size = 0
  · have HZ := Lib.hid (show most m = 25 by rw [HA.out, if_pos h0])
    have he : m.auth = ⟨#[]⟩ := ByteArray.ext (Array.eq_empty_of_size_eq_zero h0)
    rw [he] at c3
    clear HA h0 he
    go_wp2
    go_ret
    exact ⟨int_eq (by rw [HZ.out]; rfl), bel⟩
  have HZ := Lib.hid (show most m = 24 by rw [HA.out, if_neg h0])
  have hn3 : ¬ m.auth.toList = [] := by
    intro h
    rw [ByteArray.toList_eq] at h
    exact h0 (by have := congrArg List.length h; simpa using this)
  have hn : (m.auth.toList == []) = false := by rw [beq_eq_false_iff_ne]; exact hn3
  have hn2 : m.auth.toList.isEmpty = false := by
    cases h : m.auth.toList
    · exact absurd h hn3
    · rfl
  clear HA h0
  go_wp2
  go_ret
  exact ⟨int_eq (by rw [HZ.out]; rfl), bel⟩

/-- The first that doesn't stand with those ahead: its place, its error. -/
def tgAt (l : List M) : Int × Int := match bad (ckT l) l.length with | some i => (((i : Nat) : Int), ckT l i) | none => (0, 0)
theorem tg_some {l : List M} {k : Nat} (hk : k < l.length) (h : ∀ i, i < k → ckT l i = 0) (hn : ckT l k ≠ 0) : tgAt l = (((k : Nat) : Int), ckT l k) := by
  unfold tgAt
  rw [bad_some hk h hn]
theorem tg_none {l : List M} (h : ∀ i, i < l.length → ckT l i = 0) : tgAt l = (0, 0) := by
  unfold tgAt
  rw [bad_none h]
theorem ckT_most {l : List M} {k : Nat} (h : k = most (at0 l 0)) : ckT l k = 8 := by unfold ckT; rw [if_pos h]
theorem ckT_first {l : List M} (h : 0 ≠ most (at0 l 0)) : ckT l 0 = 0 := by unfold ckT; rw [if_neg h, if_neg (by simp)]
theorem ckT_tog {l : List M} {k : Nat} (h : k ≠ most (at0 l 0)) (hk : 0 < k) : ckT l k = if tog (at0 l 0) (at0 l k) then 0 else 7 := by
  unfold ckT
  rw [if_neg h]
  cases tog (at0 l 0) (at0 l k) <;> simp [hk]
/-- What stays within a statement: the list, its k-th message's copy. -/
structure Tk (w W : World) (a : Option Addr) (l : List M) (g : Nat) (u : M) : Prop where
  row : MRow W a l
  own : Bx W g u
  bel : Below w.heap.size w W
theorem Tk.call {w W w' : World} {a : Option Addr} {l : List M} {g : Nat} {u : M} (t : Tk w W a l g u) (hb : Below W.heap.size W w') : Tk w w' a l g u := ⟨t.row.below hb, t.own.below hb, t.bel.trans (hb.mono t.bel.size)⟩

theorem heldT {P : Program} {f : Nat} {args : Array Value} {v : Ending} {w W : World} {a : Option Addr} {l : List M} {g : Nat} {u : M} (h : Calls P f args W fun e w' => e = v ∧ Below W.heap.size W w') (hS : Tk w W a l g u) : Calls P f args W fun e w' => e = v ∧ Tk w w' a l g u :=
  h.mono fun _ _ ⟨he, hb⟩ => ⟨he, hS.call hb⟩
theorem row_first {W : World} {p : Addr} {l : List M} (h : MRow W (some p) l) (h0 : 0 < l.length) : ∀ j v, ((at0 l 0).cells.toList)[j]? = some v → W.cell? ((p.add (0 * 25)).add j) = some v := by
  obtain ⟨p2, hp2, _, hc, _, _⟩ := h 0 h0
  obtain rfl : p = p2 := by simpa using hp2
  rw [at0_eq l 0 h0]
  exact hc

set_option maxHeartbeats 6400000 in
theorem check_any (a : Option Addr) (c : Nat) (l : List M) (w : World) (hl : MRow w a l) (hn : l.length ≤ 1048576) (h0 : 0 < l.length) :
    Calls Try.prog 35 #[.slice a l.length c] w fun e w' => e = .returned (.tuple #[.int .i64 (tgAt l).1, .int .i64 (tgAt l).2]) ∧ Below w.heap.size w w' := by
  obtain ⟨p, rfl, hp, hc0, _, _⟩ := hl 0 h0
  have HA0 := Lib.hid (at0_eq l 0 h0)
  have HC0 := Lib.hid (show ∀ j v, ((at0 l 0).cells.toList)[j]? = some v → w.cell? (p.add j) = some v by rw [HA0.out]; intro j v hv; have := hc0 j v hv; rwa [Nat.zero_mul, show p.add 0 = p from rfl] at this)
  have PM := Lib.hid (most_any (at0 l 0) w)
  have ix0 := indexM p l.length c 0 h0
  have HMr := Lib.hid hl
  clear hc0 hl
  go_enter Try.func35, Try.ntmps35
  go_wp2_with (first | (refine wpList_loadA (m := at0 l 0) rfl _ rfl rfl HC0.out ?_))
  refine PM.out.mono ?_
  rintro e w1 ⟨rfl, hb⟩
  have HR0 := Lib.hid (HMr.out.below hb)
  have HB0 := Lib.hid hb
  have hm1 : most (at0 l 0) ≤ 25 := by unfold most; split <;> omega
  have hm0 : 0 < most (at0 l 0) := by unfold most; split <;> omega
  have HTM := Lib.hid (fun (k : Nat) (h : k = most (at0 l 0)) => ckT_most h)
  have HTF := Lib.hid (fun (h : 0 ≠ most (at0 l 0)) => ckT_first h)
  have HTT := Lib.hid (fun (k : Nat) (h : k ≠ most (at0 l 0)) (hk : 0 < k) => ckT_tog h hk)
  clear hb PM HC0 HMr ix0 HA0
  have HAT := Lib.hid (fun (W : World) (h : MRow W (some p) l) => row_first h h0)
  have HTG := Lib.hid (fun (u : M) W => tog_any (at0 l 0) u W)
  generalize hf : at0 l 0 = f at *
  have HF := Lib.hid hf
  clear hf
  generalize most f = mo at *
  go_wp2
  go_loopw [13] (fun i wr => ∃ k : Nat, k ≤ l.length ∧ i = .int .i64 k ∧ Hid (∀ i, i < k → ckT l i = 0) ∧ Hid (MRow wr (some p) l) ∧ Hid (Below w.heap.size w wr)) (fun i _ => l.length - (intOf i).toNat)
  case atStart => exact ⟨0, Nat.zero_le _, rfl, Lib.hid (fun i hi => absurd hi (by omega)), HR0, HB0⟩
  case round =>
    obtain ⟨k, hk, rfl, HT, HR, HB⟩ := hrel
    by_cases hlt : k < l.length
    · obtain ⟨p2, hp2, _, hc, _, _⟩ := HR.out k hlt
      obtain rfl : p = p2 := by simpa using hp2
      clear hp2
      have hu := at0_eq l k hlt
      have HS := Lib.hid (fun (h : ckT l k ≠ 0) => tg_some hlt HT.out h)
      have HJ := Lib.hid (fun (h : ckT l k = 0) => show ∀ i, i < k + 1 → ckT l i = 0 from fun i hi => by
        by_cases hik : i < k
        · exact HT.out i hik
        · obtain rfl : i = k := by omega
          exact h)
      have HTT1 := Lib.hid (HTT.out k)
      have HTM1 := Lib.hid (HTM.out k)
      have HCk := Lib.hid (show ∀ j v, ((at0 l k).cells.toList)[j]? = some v → wr.cell? ((p.add (k * 25)).add j) = some v by rw [hu]; exact hc)
      have ixk := indexM p l.length c k hlt
      clear hc hu HT HTT HTM
      generalize at0 l k = u at *
      go_upto_region 5 with (first | (refine wpList_loadA (m := u) rfl _ rfl rfl HCk.out ?_) | (refine wpList_storeM (b := wr.heap.size) (m := M.zero) (m' := u) rfl _ _ rfl rfl rfl (heap_alloc_new wr _) ?_))
      change Code.wp _ _ _ _ ((wr.alloc (.cells M.zero.cells 34)).setRow wr.heap.size u.cells)
      rw [World.setRow_alloc_new]
      have T0 := Lib.hid (show Tk w (wr.alloc (.cells u.cells 34)) (some p) l wr.heap.size u from ⟨HR.out.below (balloc (Below.refl _ wr) _), Bx.new wr u, balloc HB.out _⟩)
      clear HCk HR HB ixk HR0 HB0
      generalize wr.alloc (.cells u.cells 34) = W2 at *
      generalize wr.heap.size = g at *
      rcases (show k = mo ∨ k ≠ mo by omega) with hkm | hkm
      · have h8 := HTM1.out hkm
        have HZ := Lib.hid (show tgAt l = (((k : Nat) : Int), 8) by rw [HS.out (by rw [h8]; decide), h8])
        have e1 : ((k : Int) == (mo : Int)) = true := by rw [beq_iff_eq]; omega
        clear h8 hkm HS HJ HTT1 HTM1 HTF
        go_wp2
        go_ret2
        exact ⟨Hd.pair_eq HZ.out, T0.out.bel⟩
      have e1 : ((k : Int) == (mo : Int)) = false := by rw [beq_eq_false_iff_ne]; omega
      rcases (show k = 0 ∨ 0 < k by omega) with rfl | hk0
      · have HK1 := Lib.hid (HJ.out (HTF.out (by omega)))
        clear hkm HS HJ HTT1 HTM1 HTF
        go_upto_region 7 with fail
        clear e1
        go_quiet (fail)
        have HR1 := Lib.hid (T0.out.call (below_drewN (Below.refl _ _) nq))
        clear T0
        go_wp2
        go_roundw
        case rel => exact ⟨1, by omega, by go_num, HK1, Lib.hid HR1.out.row, Lib.hid HR1.out.bel⟩
        case measure => simp [intOf]; omega
      have HX := Lib.hid (HTT1.out hkm hk0)
      have PT := Lib.hid (HTG.out u)
      clear hkm HTT1 HTM1 HTF
      generalize tog f u = tg at *
      have hk1 : (0 : Int) < (k : Int) := by omega
      go_upto_region 7 with fail
      clear e1
      refine wp_region_held_drew (S := fun W => Tk w W (some p) l g u) (by kernel_rfl) (T0.out.call (Below.refl _ _).drew) (fun hS => ?_)
      clear T0
      generalize W2.drew = w0 at *
      have hd : decide ((0 : Int) < (k : Int)) = true := decide_eq_true hk1
      cases tg
      · have h7 := HX.out
        have HZ := Lib.hid (show tgAt l = (((k : Nat) : Int), 7) by rw [HS.out (by rw [h7]; decide), h7]; rfl)
        clear h7 HS HJ HX
        refine H.take (i := 0) (v := .int .i64 (k : Int)) (by simp only [List.getElem?_toArray, List.getElem?_cons_zero]; rfl) (by kernel_rfl) rfl (by kernel_rfl) (by kernel_rfl) (by kernel_rfl) (fun _ _ _ h => h) ?h0 hS ?_
        case h0 => exact fun w _ => rfl
        try simp only [Act.put, List.setIfInBounds_toArray, List.set_cons_zero, List.set_cons_succ]
        refine H.take (i := 1) (v := .bool true) (by simp only [List.getElem?_toArray, List.getElem?_cons_succ, List.getElem?_cons_zero]; rfl) (by kernel_rfl) rfl (by kernel_rfl) (by kernel_rfl) (by kernel_rfl) (fun _ _ _ h => h) ?h1 hS ?_
        case h1 => (intro w hw; go_simp; first | done | (with_reducible rfl))
        try simp only [Act.put, List.setIfInBounds_toArray, List.set_cons_zero, List.set_cons_succ]
        refine H.take (i := 2) (v := .bool true) (by simp only [List.getElem?_toArray, List.getElem?_cons_succ, List.getElem?_cons_zero]; rfl) (by kernel_rfl) rfl (by kernel_rfl) (by kernel_rfl) (by kernel_rfl) (fun _ _ _ h => h) ?h2 hS ?_
        case h2 => exact fun w _ => rfl
        try simp only [Act.put, List.setIfInBounds_toArray, List.set_cons_zero, List.set_cons_succ]
        refine H.take (i := 3) (v := .slice (some p) l.length c) (by simp only [List.getElem?_toArray, List.getElem?_cons_succ, List.getElem?_cons_zero]; rfl) (by kernel_rfl) rfl (by kernel_rfl) (by kernel_rfl) (by kernel_rfl) (fun _ _ _ h => h) ?h3 hS ?_
        case h3 => exact fun w _ => rfl
        try simp only [Act.put, List.setIfInBounds_toArray, List.set_cons_zero, List.set_cons_succ]
        refine H.take (i := 4) (v := .pointer (some (p.add (0 * 25)))) (by simp only [List.getElem?_toArray, List.getElem?_cons_succ, List.getElem?_cons_zero]; rfl) (by kernel_rfl) rfl (by kernel_rfl) (by kernel_rfl) (by kernel_rfl) (fun _ _ _ h => h) ?h4 hS ?_
        case h4 => exact fun w _ => ex_indexM (x := .tmp 27) (y := .const (.int .i64 0)) rfl rfl rfl h0
        try simp only [Act.put, List.setIfInBounds_toArray, List.set_cons_zero, List.set_cons_succ]
        refine H.take (i := 5) (v := .agg (M.cells f)) (by simp only [List.getElem?_toArray, List.getElem?_cons_succ, List.getElem?_cons_zero]; rfl) (by kernel_rfl) rfl (by kernel_rfl) (by kernel_rfl) (by kernel_rfl) (fun _ _ _ h => h) ?h5 hS ?_
        case h5 => exact fun w hw => ex_loadA (x := .tmp 28) rfl rfl (HAT.out w hw.row)
        try simp only [Act.put, List.setIfInBounds_toArray, List.set_cons_zero, List.set_cons_succ]
        refine H.take (i := 6) (v := .agg (M.cells u)) (by simp only [List.getElem?_toArray, List.getElem?_cons_succ, List.getElem?_cons_zero]; rfl) (by kernel_rfl) rfl (by kernel_rfl) (by kernel_rfl) (by kernel_rfl) (fun _ _ _ h => h) ?h6 hS ?_
        case h6 => exact fun w hw => run_loadM (x := .tmp 6) rfl rfl hw.own
        try simp only [Act.put, List.setIfInBounds_toArray, List.set_cons_zero, List.set_cons_succ]
        refine wpAnyH_ready (rs := [7]) (by kernel_rfl) (by simp) ?_
        refine AllReadyH.cons rfl (fun K hK => ?_) AllReadyH.nil
        go_simp
        refine (heldT (PT.out _) hS).mono ?_
        rintro e w7 ⟨rfl, hS7⟩
        refine hK.out _ _ hS7 (fun _ => ?_)
        clear hK K hS
        have hS := hS7
        clear hS7
        try simp only [Act.put, List.setIfInBounds_toArray, List.set_cons_zero, List.set_cons_succ]
        refine H.take (i := 8) (v := .bool true) (by simp only [List.getElem?_toArray, List.getElem?_cons_succ, List.getElem?_cons_zero]; rfl) (by kernel_rfl) rfl (by kernel_rfl) (by kernel_rfl) (by kernel_rfl) (fun _ _ _ h => h) ?h8 hS ?_
        case h8 => exact fun w _ => rfl
        try simp only [Act.put, List.setIfInBounds_toArray, List.set_cons_zero, List.set_cons_succ]
        refine H.take (i := 9) (v := .bool true) (by simp only [List.getElem?_toArray, List.getElem?_cons_succ, List.getElem?_cons_zero]; rfl) (by kernel_rfl) rfl (by kernel_rfl) (by kernel_rfl) (by kernel_rfl) (fun _ _ _ h => h) ?h9 hS ?_
        case h9 => exact fun w _ => rfl
        try simp only [Act.put, List.setIfInBounds_toArray, List.set_cons_zero, List.set_cons_succ]
        refine H.take (i := 10) (v := .bool true) (by simp only [List.getElem?_toArray, List.getElem?_cons_succ, List.getElem?_cons_zero]; rfl) (by kernel_rfl) rfl (by kernel_rfl) (by kernel_rfl) (by kernel_rfl) (fun _ _ _ h => h) ?h10 hS ?_
        case h10 => exact fun w _ => rfl
        try simp only [Act.put, List.setIfInBounds_toArray, List.set_cons_zero, List.set_cons_succ]
        refine wpAnyH_done (by kernel_rfl) ?_ _
        go_wp2
        go_ret2
        exact ⟨Hd.pair_eq HZ.out, hS.bel⟩
      · have HK1 := Lib.hid (HJ.out HX.out)
        clear HS HJ HX
        refine H.take (i := 0) (v := .int .i64 (k : Int)) (by simp only [List.getElem?_toArray, List.getElem?_cons_zero]; rfl) (by kernel_rfl) rfl (by kernel_rfl) (by kernel_rfl) (by kernel_rfl) (fun _ _ _ h => h) ?h0 hS ?_
        case h0 => exact fun w _ => rfl
        try simp only [Act.put, List.setIfInBounds_toArray, List.set_cons_zero, List.set_cons_succ]
        refine H.take (i := 1) (v := .bool true) (by simp only [List.getElem?_toArray, List.getElem?_cons_succ, List.getElem?_cons_zero]; rfl) (by kernel_rfl) rfl (by kernel_rfl) (by kernel_rfl) (by kernel_rfl) (fun _ _ _ h => h) ?h1 hS ?_
        case h1 => (intro w hw; go_simp; first | done | (with_reducible rfl))
        try simp only [Act.put, List.setIfInBounds_toArray, List.set_cons_zero, List.set_cons_succ]
        refine H.take (i := 2) (v := .bool true) (by simp only [List.getElem?_toArray, List.getElem?_cons_succ, List.getElem?_cons_zero]; rfl) (by kernel_rfl) rfl (by kernel_rfl) (by kernel_rfl) (by kernel_rfl) (fun _ _ _ h => h) ?h2 hS ?_
        case h2 => exact fun w _ => rfl
        try simp only [Act.put, List.setIfInBounds_toArray, List.set_cons_zero, List.set_cons_succ]
        refine H.take (i := 3) (v := .slice (some p) l.length c) (by simp only [List.getElem?_toArray, List.getElem?_cons_succ, List.getElem?_cons_zero]; rfl) (by kernel_rfl) rfl (by kernel_rfl) (by kernel_rfl) (by kernel_rfl) (fun _ _ _ h => h) ?h3 hS ?_
        case h3 => exact fun w _ => rfl
        try simp only [Act.put, List.setIfInBounds_toArray, List.set_cons_zero, List.set_cons_succ]
        refine H.take (i := 4) (v := .pointer (some (p.add (0 * 25)))) (by simp only [List.getElem?_toArray, List.getElem?_cons_succ, List.getElem?_cons_zero]; rfl) (by kernel_rfl) rfl (by kernel_rfl) (by kernel_rfl) (by kernel_rfl) (fun _ _ _ h => h) ?h4 hS ?_
        case h4 => exact fun w _ => ex_indexM (x := .tmp 27) (y := .const (.int .i64 0)) rfl rfl rfl h0
        try simp only [Act.put, List.setIfInBounds_toArray, List.set_cons_zero, List.set_cons_succ]
        refine H.take (i := 5) (v := .agg (M.cells f)) (by simp only [List.getElem?_toArray, List.getElem?_cons_succ, List.getElem?_cons_zero]; rfl) (by kernel_rfl) rfl (by kernel_rfl) (by kernel_rfl) (by kernel_rfl) (fun _ _ _ h => h) ?h5 hS ?_
        case h5 => exact fun w hw => ex_loadA (x := .tmp 28) rfl rfl (HAT.out w hw.row)
        try simp only [Act.put, List.setIfInBounds_toArray, List.set_cons_zero, List.set_cons_succ]
        refine H.take (i := 6) (v := .agg (M.cells u)) (by simp only [List.getElem?_toArray, List.getElem?_cons_succ, List.getElem?_cons_zero]; rfl) (by kernel_rfl) rfl (by kernel_rfl) (by kernel_rfl) (by kernel_rfl) (fun _ _ _ h => h) ?h6 hS ?_
        case h6 => exact fun w hw => run_loadM (x := .tmp 6) rfl rfl hw.own
        try simp only [Act.put, List.setIfInBounds_toArray, List.set_cons_zero, List.set_cons_succ]
        refine wpAnyH_ready (rs := [7]) (by kernel_rfl) (by simp) ?_
        refine AllReadyH.cons rfl (fun K hK => ?_) AllReadyH.nil
        go_simp
        refine (heldT (PT.out _) hS).mono ?_
        rintro e w7 ⟨rfl, hS7⟩
        refine hK.out _ _ hS7 (fun _ => ?_)
        clear hK K hS
        have hS := hS7
        clear hS7
        try simp only [Act.put, List.setIfInBounds_toArray, List.set_cons_zero, List.set_cons_succ]
        refine H.take (i := 8) (v := .bool false) (by simp only [List.getElem?_toArray, List.getElem?_cons_succ, List.getElem?_cons_zero]; rfl) (by kernel_rfl) rfl (by kernel_rfl) (by kernel_rfl) (by kernel_rfl) (fun _ _ _ h => h) ?h8 hS ?_
        case h8 => exact fun w _ => rfl
        try simp only [Act.put, List.setIfInBounds_toArray, List.set_cons_zero, List.set_cons_succ]
        refine H.take (i := 9) (v := .bool false) (by simp only [List.getElem?_toArray, List.getElem?_cons_succ, List.getElem?_cons_zero]; rfl) (by kernel_rfl) rfl (by kernel_rfl) (by kernel_rfl) (by kernel_rfl) (fun _ _ _ h => h) ?h9 hS ?_
        case h9 => exact fun w _ => rfl
        try simp only [Act.put, List.setIfInBounds_toArray, List.set_cons_zero, List.set_cons_succ]
        refine H.take (i := 10) (v := .bool false) (by simp only [List.getElem?_toArray, List.getElem?_cons_succ, List.getElem?_cons_zero]; rfl) (by kernel_rfl) rfl (by kernel_rfl) (by kernel_rfl) (by kernel_rfl) (fun _ _ _ h => h) ?h10 hS ?_
        case h10 => exact fun w _ => rfl
        try simp only [Act.put, List.setIfInBounds_toArray, List.set_cons_zero, List.set_cons_succ]
        refine wpAnyH_done (by kernel_rfl) ?_ _
        have HR1 := Lib.hid hS
        clear hS hd
        go_wp2
        go_roundw
        case rel => exact ⟨k + 1, hlt, by go_num, HK1, Lib.hid HR1.out.row, Lib.hid HR1.out.bel⟩
        case measure => simp [intOf]; omega
    · obtain rfl : k = l.length := by omega
      have HZ := Lib.hid (tg_none HT.out)
      go_wp2
      go_ret2
      exact ⟨Hd.pair_eq HZ.out, HB.out⟩
end Go.Proofs.Ytfaobpmbiocafaa.Tg
