/-
  The document's Take: the Update that a TLV is. Condition: at most 100000 bytes.
-/
import Derived.Test.YtjhfpobjbijcpaaGreatDoorB18
import Derived.Test.YtjhfpobjbijcpaaGreatDoorB19
import Derived.Test.YtjhfpobjbijcpaaGreatDoorB34
import Derived.Test.YtjhfpobjbijcpaaGreatDoorB35
import Derived.Test.YtjhfpobjbijcpaaGreatDoorB37
namespace Go.Proofs.YtjhfpobjbijcpaaGreatDoor.Jt
open Go.ChangeShapes Go.WideShapes Go.ChangeAt Go.RowKit
open Go.Proofs.YtjhfpobjbijcpaaGreatDoor.Ms
open Go.Proofs.YtjhfpobjbijcpaaGreatDoor.Box
open Go.Proofs.YtjhfpobjbijcpaaGreatDoor.S1
open Go.Proofs.YtjhfpobjbijcpaaGreatDoor.Nu
open Go.Proofs.YtjhfpobjbijcpaaGreatDoor.J1
open Go.Proofs.YtjhfpobjbijcpaaGreatDoor.J2
open Go.Proofs.YtjhfpobjbijcpaaGreatDoor.J4 (shU wpList_loadU wpList_storeU)
open Go.Proofs.YtjhfpobjbijcpaaGreatDoor.J6 (lst_cell AnsU AnsU.no AnsU.yes)
open Go.Proofs.YtjhfpobjbijcpaaGreatDoor.J8 (D D.start D.drew D.call D.cell D.row rnum2)
open Go.Proofs.YtjhfpobjbijcpaaGreatDoor.An
open Go.Proofs.YtjhfpobjbijcpaaGreatDoor.F1 (bt bt_nn bt_lt)
open Go.Proofs.YtjhfpobjbijcpaaGreatDoor.F2 (idx sl_m sl_l)
open Go.Proofs.YtjhfpobjbijcpaaGreatDoor.Hx (conv8)
open Go.Proofs.YtjhfpobjbijcpaaGreatDoor.Pre (leastN)
open Go.Proofs.YtjhfpobjbijcpaaGreatDoor.Tl (cellsT)
open Go.Proofs.YtjhfpobjbijcpaaGreatDoor.Bk (Bk wpList_builtK alloc_size loadVarK)
open Go.Proofs.YtjhfpobjbijcpaaGreatDoor.Hs
open Go.Proofs.YtjhfpobjbijcpaaGreatDoor.Hy
set_option linter.unusedVariables false
set_option maxRecDepth 100000
set_option maxRecDepth 100000
theorem cutG {T G : Prop} (t : T) (h : T → G) : G := h t
theorem rnumE (s : ByteArray) (a b : Nat) (h : b = a + 2) (w : World) : Calls Tryz.prog 90 #[.string (s.extract a b)] w fun e w' => e = .returned (.int .i64 (num2 s a)) ∧ w = w' := (rnum2 s a b h w).mono fun _ _ ⟨h, k⟩ => ⟨h, k.symm⟩
theorem infoU : (Tryz.prog.info? 120).map (·.size) = some 10 := by kernel_rfl
theorem H.storeLast {i : Nat} {P : Program} {ops : Array Oper} {Q : Exit → Act → World → Prop} {md : Region.Mode} {S : World → Prop} {o : Oper} {fuel : Nat} {listed : Array Bool} {a : Act} {w : World} {ty : TypeId} {x y : Operand}
    (ho : ops[i]? = some o) (hw : Region.wanted o (yielded ops a.tmps) = true) (hr : Region.ready md ops listed = [i]) (hd : o.dst = none) (hop : o.op = .store ty x y)
    (g : Nat) (cells : Array Value) (hx : a.eval x = .pointer (some ⟨g, 0, none⟩)) (hy : a.eval y = .agg cells) (t : TypeId) (old : Array Value) (hg : w.heap[g]? = some (.cells old t (0, 0)))
    (hi : (P.info? ty).map (·.size) = some cells.size) (hold : old.size = cells.size) (h1 : cells.all (·.oneCell') = true) (hS : S (w.setRow g cells))
    (h : wpAnyH P md ops Q S fuel (listed.setIfInBounds i true) a (w.setRow g cells)) : wpAnyH P md ops Q S (fuel + 1) listed a w := Hx.H.storeRow ho hw hd hop hr g cells hx hy t old hg hi hold h1 hS h
set_option maxHeartbeats 25600000 in
theorem rtake_own (a : Int) (s : ByteArray) (w : World) (hs : s.size ≤ 100000) : Calls Tryz.prog 114 #[.agg (cellsT (a, (s, 8)))] w (AnsU (outK s) w) := by
  by_cases hz : s.size < 10
  · have HY := Lib.hid (outK_no (d := s) (end_short hz))
    have hz2 : (s.size : Int) < 10 := by omega
    go_enter Tryz.func114, Tryz.ntmps114
    go_upto_region 1 with fail
    change Code.wp _ _ _ _ ((w.alloc (.cells (cellsT (a, (s, 8))) 79)).alloc (.cells Up.zero.cells 120))
    have HD := Lib.hid (D.start (T := 120) (zs := Up.zero.cells) w a 8 s)
    generalize (w.alloc (.cells (cellsT (a, (s, 8))) 79)).alloc (.cells Up.zero.cells 120) = W at *
    have c2 := HD.out.tl.cell 2 (.string s) rfl
    go_wp2_with (first | (refine wpList_builtK rfl 120 _ rfl (Up.cells Up.zero) (by kernel_rfl) ?_) | (refine wpList_storeU (b := w.heap.size + 1) (m := Up.zero) (m' := Up.zero) rfl _ _ rfl rfl rfl HD.out.res ?_))
    exact bodyPost_ret (v := .tuple #[.agg Up.zero.cells, .bool false, .int .i64 2]) (results_three rfl _ _ (w.heap.size + 1) _ rfl (loadVarK shU (HD.out.res.put Up.zero.cells) rfl) (.bool false) rfl (.int .i64 2) rfl) rfl (AnsU.no HY.out (Box.below_setRow HD.out.bel (by omega) _))
  have hz2 : ¬ (s.size : Int) < 10 := by omega
  have i0 := idx s 0 0 rfl (by omega)
  have b0 := bt_nn s 0
  have b0' := bt_lt s 0
  have v0 := conv8 (bt s 0) b0 b0'
  have i1 := idx s 1 1 rfl (by omega)
  have b1 := bt_nn s 1
  have b1' := bt_lt s 1
  have v1 := conv8 (bt s 1) b1 b1'
  have i2 := idx s 2 2 rfl (by omega)
  have b2 := bt_nn s 2
  have b2' := bt_lt s 2
  have v2 := conv8 (bt s 2) b2 b2'
  have i3 := idx s 3 3 rfl (by omega)
  have b3 := bt_nn s 3
  have b3' := bt_lt s 3
  have v3 := conv8 (bt s 3) b3 b3'
  have P4 := Lib.hid (rnumE s 4 6 rfl)
  have s4 := sl_m s 4 6 4 6 rfl rfl (by omega) (by omega)
  have P6 := Lib.hid (rnumE s 6 8 rfl)
  have s6 := sl_m s 6 8 6 8 rfl rfl (by omega) (by omega)
  have P8 := Lib.hid (rnumE s 8 10 rfl)
  have s8 := sl_m s 8 10 8 10 rfl rfl (by omega) (by omega)
  go_enter Tryz.func114, Tryz.ntmps114
  go_upto_region 1 with fail
  change Code.wp _ _ _ _ ((w.alloc (.cells (cellsT (a, (s, 8))) 79)).alloc (.cells Up.zero.cells 120))
  have HD := Lib.hid (D.start (T := 120) (zs := Up.zero.cells) w a 8 s)
  generalize (w.alloc (.cells (cellsT (a, (s, 8))) 79)).alloc (.cells Up.zero.cells 120) = W at *
  have c2 := HD.out.tl.cell 2 (.string s) rfl
  go_upto_region 4 with fail
  clear c2
  refine wp_region_held_drew (S := fun _ => True) (by kernel_rfl) trivial (fun hS => ?_)
  have HD := Lib.hid HD.out.drew
  generalize W.drew = X0 at *
  apply cutG
  case h =>
    intro leaf
    refine H.tk (i := 0) (v := ?v0x1) ?h0x1 hS ?_
    case h0x1 => (intro w hw; go_simp; first | done | (with_reducible rfl))
    try simp only [Act.put, List.setIfInBounds_toArray, List.set_cons_zero, List.set_cons_succ]
    refine H.tk (i := 1) (v := .int .u8 (bt s 0)) ?h1x2 hS ?_
    case h1x2 => exact (fun w hw => by go_simp)
    try simp only [Act.put, List.setIfInBounds_toArray, List.set_cons_zero, List.set_cons_succ]
    refine H.tk (i := 2) (v := .int .i64 (bt s 0)) ?h2x3 hS ?_
    case h2x3 => exact (fun w hw => by go_simp)
    try simp only [Act.put, List.setIfInBounds_toArray, List.set_cons_zero, List.set_cons_succ]
    refine H.tk (i := 3) (v := ?v3x4) ?h3x4 hS ?_
    case h3x4 => (intro w hw; go_simp; first | done | (with_reducible rfl))
    try simp only [Act.put, List.setIfInBounds_toArray, List.set_cons_zero, List.set_cons_succ]
    refine H.tk (i := 4) (v := .int .u8 (bt s 1)) ?h4x5 hS ?_
    case h4x5 => exact (fun w hw => by go_simp)
    try simp only [Act.put, List.setIfInBounds_toArray, List.set_cons_zero, List.set_cons_succ]
    refine H.tk (i := 5) (v := .int .i64 (bt s 1)) ?h5x6 hS ?_
    case h5x6 => exact (fun w hw => by go_simp)
    try simp only [Act.put, List.setIfInBounds_toArray, List.set_cons_zero, List.set_cons_succ]
    refine H.tk (i := 6) (v := ?v6x7) ?h6x7 hS ?_
    case h6x7 => (intro w hw; go_simp; first | done | (with_reducible rfl))
    try simp only [Act.put, List.setIfInBounds_toArray, List.set_cons_zero, List.set_cons_succ]
    refine H.tk (i := 7) (v := .int .u8 (bt s 2)) ?h7x8 hS ?_
    case h7x8 => exact (fun w hw => by go_simp)
    try simp only [Act.put, List.setIfInBounds_toArray, List.set_cons_zero, List.set_cons_succ]
    refine H.tk (i := 8) (v := .int .i64 (bt s 2)) ?h8x9 hS ?_
    case h8x9 => exact (fun w hw => by go_simp)
    try simp only [Act.put, List.setIfInBounds_toArray, List.set_cons_zero, List.set_cons_succ]
    refine H.tk (i := 9) (v := ?v9x10) ?h9x10 hS ?_
    case h9x10 => (intro w hw; go_simp; first | done | (with_reducible rfl))
    try simp only [Act.put, List.setIfInBounds_toArray, List.set_cons_zero, List.set_cons_succ]
    refine H.tk (i := 10) (v := .int .u8 (bt s 3)) ?h10x11 hS ?_
    case h10x11 => exact (fun w hw => by go_simp)
    try simp only [Act.put, List.setIfInBounds_toArray, List.set_cons_zero, List.set_cons_succ]
    refine H.tk (i := 11) (v := .int .i64 (bt s 3)) ?h11x12 hS ?_
    case h11x12 => exact (fun w hw => by go_simp)
    try simp only [Act.put, List.setIfInBounds_toArray, List.set_cons_zero, List.set_cons_succ]
    refine H.tk (i := 12) (v := ?v12x13) ?h12x13 hS ?_
    case h12x13 => (intro w hw; go_simp; first | done | (with_reducible rfl))
    try simp only [Act.put, List.setIfInBounds_toArray, List.set_cons_zero, List.set_cons_succ]
    refine H.tk (i := 13) (v := .string (s.extract 4 6)) ?h13x14 hS ?_
    case h13x14 => exact (fun w hw => by go_simp)
    try simp only [Act.put, List.setIfInBounds_toArray, List.set_cons_zero, List.set_cons_succ]
    refine H.tk (i := 15) (v := ?v15x15) ?h15x15 hS ?_
    case h15x15 => (intro w hw; go_simp; first | done | (with_reducible rfl))
    try simp only [Act.put, List.setIfInBounds_toArray, List.set_cons_zero, List.set_cons_succ]
    refine H.tk (i := 16) (v := .string (s.extract 6 8)) ?h16x16 hS ?_
    case h16x16 => exact (fun w hw => by go_simp)
    try simp only [Act.put, List.setIfInBounds_toArray, List.set_cons_zero, List.set_cons_succ]
    refine H.tk (i := 18) (v := ?v18x17) ?h18x17 hS ?_
    case h18x17 => (intro w hw; go_simp; first | done | (with_reducible rfl))
    try simp only [Act.put, List.setIfInBounds_toArray, List.set_cons_zero, List.set_cons_succ]
    refine H.tk (i := 19) (v := .string (s.extract 8 10)) ?h19x18 hS ?_
    case h19x18 => exact (fun w hw => by go_simp)
    try simp only [Act.put, List.setIfInBounds_toArray, List.set_cons_zero, List.set_cons_succ]
    refine H.two (i := 14) (j := 22) (by simp only [List.getElem?_toArray, List.getElem?_cons_succ, List.getElem?_cons_zero]; rfl) (by kernel_rfl) (by simp only [List.getElem?_toArray, List.getElem?_cons_succ, List.getElem?_cons_zero]; rfl) (by kernel_rfl) (by kernel_rfl) (fun K hK => ?wa19) (fun K hK => ?wb19)
    case wa19 =>
      go_simp
      refine (P4.out _).mono ?_
      rintro e X1 ⟨rfl, hX⟩
      obtain rfl := hX
      refine hK.out _ _ trivial ?_
      clear hK K
      try simp only [Act.put, List.setIfInBounds_toArray, List.set_cons_zero, List.set_cons_succ]
      refine H.two (i := 17) (j := 22) (by simp only [List.getElem?_toArray, List.getElem?_cons_succ, List.getElem?_cons_zero]; rfl) (by kernel_rfl) (by simp only [List.getElem?_toArray, List.getElem?_cons_succ, List.getElem?_cons_zero]; rfl) (by kernel_rfl) (by kernel_rfl) (fun K hK => ?wa20) (fun K hK => ?wb20)
      case wa20 =>
        go_simp
        refine (P6.out _).mono ?_
        rintro e X1 ⟨rfl, hX⟩
        obtain rfl := hX
        refine hK.out _ _ trivial ?_
        clear hK K
        try simp only [Act.put, List.setIfInBounds_toArray, List.set_cons_zero, List.set_cons_succ]
        refine H.two (i := 20) (j := 22) (by simp only [List.getElem?_toArray, List.getElem?_cons_succ, List.getElem?_cons_zero]; rfl) (by kernel_rfl) (by simp only [List.getElem?_toArray, List.getElem?_cons_succ, List.getElem?_cons_zero]; rfl) (by kernel_rfl) (by kernel_rfl) (fun K hK => ?wa21) (fun K hK => ?wb21)
        case wa21 =>
          go_simp
          refine (P8.out _).mono ?_
          rintro e X1 ⟨rfl, hX⟩
          obtain rfl := hX
          refine hK.out _ _ trivial ?_
          clear hK K
          try simp only [Act.put, List.setIfInBounds_toArray, List.set_cons_zero, List.set_cons_succ]
          refine H.tk (i := 21) (v := .agg (Up.cells { Up.zero with ae := bt s 0, flags := bt s 1, plen := bt s 2, om := bt s 3, iv := num2 s 4, seq := num2 s 6, metric := num2 s 8 })) ?h21x22 hS ?_
          case h21x22 => exact (fun w hw => Hx.ex_built rfl (by kernel_rfl))
          try simp only [Act.put, List.setIfInBounds_toArray, List.set_cons_zero, List.set_cons_succ]
          refine H.one (i := 22) (by simp only [List.getElem?_toArray, List.getElem?_cons_succ, List.getElem?_cons_zero]; rfl) (by kernel_rfl) (by kernel_rfl) (fun K hK => ?_)
          go_simp
          refine hK.out _ _ trivial ?_
          clear hK K
          try simp only [Act.put, List.setIfInBounds_toArray, List.set_cons_zero, List.set_cons_succ]
          change wpAnyH _ _ _ _ _ _ _ _ (X0.alloc (.cells Up.zero.cells 120))
          try simp only [Act.put, List.setIfInBounds_toArray, List.set_cons_zero, List.set_cons_succ]
          refine H.storeLast (i := 23) (by simp only [List.getElem?_toArray, List.getElem?_cons_succ, List.getElem?_cons_zero]; rfl) (by kernel_rfl) (by kernel_rfl) rfl rfl X0.heap.size (Up.cells { Up.zero with ae := bt s 0, flags := bt s 1, plen := bt s 2, om := bt s 3, iv := num2 s 4, seq := num2 s 6, metric := num2 s 8 }) rfl rfl 120 Up.zero.cells (heap_alloc_new _ _) infoU rfl (J4.oneU _) trivial ?_
          refine wpAnyH_done (by kernel_rfl) ?_ _
          exact leaf
        case wb21 =>
          go_simp
          refine hK.out _ _ trivial ?_
          clear hK K
          try simp only [Act.put, List.setIfInBounds_toArray, List.set_cons_zero, List.set_cons_succ]
          change wpAnyH _ _ _ _ _ _ _ _ (X0.alloc (.cells Up.zero.cells 120))
          try simp only [Act.put, List.setIfInBounds_toArray, List.set_cons_zero, List.set_cons_succ]
          refine H.one (i := 20) (by simp only [List.getElem?_toArray, List.getElem?_cons_succ, List.getElem?_cons_zero]; rfl) (by kernel_rfl) (by kernel_rfl) (fun K hK => ?_)
          go_simp
          refine (P8.out _).mono ?_
          rintro e X1 ⟨rfl, hX⟩
          obtain rfl := hX
          refine hK.out _ _ trivial ?_
          clear hK K
          try simp only [Act.put, List.setIfInBounds_toArray, List.set_cons_zero, List.set_cons_succ]
          refine H.tk (i := 21) (v := .agg (Up.cells { Up.zero with ae := bt s 0, flags := bt s 1, plen := bt s 2, om := bt s 3, iv := num2 s 4, seq := num2 s 6, metric := num2 s 8 })) ?h21x23 hS ?_
          case h21x23 => exact (fun w hw => Hx.ex_built rfl (by kernel_rfl))
          try simp only [Act.put, List.setIfInBounds_toArray, List.set_cons_zero, List.set_cons_succ]
          refine H.storeLast (i := 23) (by simp only [List.getElem?_toArray, List.getElem?_cons_succ, List.getElem?_cons_zero]; rfl) (by kernel_rfl) (by kernel_rfl) rfl rfl X0.heap.size (Up.cells { Up.zero with ae := bt s 0, flags := bt s 1, plen := bt s 2, om := bt s 3, iv := num2 s 4, seq := num2 s 6, metric := num2 s 8 }) rfl rfl 120 Up.zero.cells (heap_alloc_new _ _) infoU rfl (J4.oneU _) trivial ?_
          refine wpAnyH_done (by kernel_rfl) ?_ _
          exact leaf
      case wb20 =>
        go_simp
        refine hK.out _ _ trivial ?_
        clear hK K
        try simp only [Act.put, List.setIfInBounds_toArray, List.set_cons_zero, List.set_cons_succ]
        change wpAnyH _ _ _ _ _ _ _ _ (X0.alloc (.cells Up.zero.cells 120))
        try simp only [Act.put, List.setIfInBounds_toArray, List.set_cons_zero, List.set_cons_succ]
        refine H.one (i := 17) (by simp only [List.getElem?_toArray, List.getElem?_cons_succ, List.getElem?_cons_zero]; rfl) (by kernel_rfl) (by kernel_rfl) (fun K hK => ?_)
        go_simp
        refine (P6.out _).mono ?_
        rintro e X1 ⟨rfl, hX⟩
        obtain rfl := hX
        refine hK.out _ _ trivial ?_
        clear hK K
        try simp only [Act.put, List.setIfInBounds_toArray, List.set_cons_zero, List.set_cons_succ]
        refine H.one (i := 20) (by simp only [List.getElem?_toArray, List.getElem?_cons_succ, List.getElem?_cons_zero]; rfl) (by kernel_rfl) (by kernel_rfl) (fun K hK => ?_)
        go_simp
        refine (P8.out _).mono ?_
        rintro e X1 ⟨rfl, hX⟩
        obtain rfl := hX
        refine hK.out _ _ trivial ?_
        clear hK K
        try simp only [Act.put, List.setIfInBounds_toArray, List.set_cons_zero, List.set_cons_succ]
        refine H.tk (i := 21) (v := .agg (Up.cells { Up.zero with ae := bt s 0, flags := bt s 1, plen := bt s 2, om := bt s 3, iv := num2 s 4, seq := num2 s 6, metric := num2 s 8 })) ?h21x24 hS ?_
        case h21x24 => exact (fun w hw => Hx.ex_built rfl (by kernel_rfl))
        try simp only [Act.put, List.setIfInBounds_toArray, List.set_cons_zero, List.set_cons_succ]
        refine H.storeLast (i := 23) (by simp only [List.getElem?_toArray, List.getElem?_cons_succ, List.getElem?_cons_zero]; rfl) (by kernel_rfl) (by kernel_rfl) rfl rfl X0.heap.size (Up.cells { Up.zero with ae := bt s 0, flags := bt s 1, plen := bt s 2, om := bt s 3, iv := num2 s 4, seq := num2 s 6, metric := num2 s 8 }) rfl rfl 120 Up.zero.cells (heap_alloc_new _ _) infoU rfl (J4.oneU _) trivial ?_
        refine wpAnyH_done (by kernel_rfl) ?_ _
        exact leaf
    case wb19 =>
      go_simp
      refine hK.out _ _ trivial ?_
      clear hK K
      try simp only [Act.put, List.setIfInBounds_toArray, List.set_cons_zero, List.set_cons_succ]
      change wpAnyH _ _ _ _ _ _ _ _ (X0.alloc (.cells Up.zero.cells 120))
      try simp only [Act.put, List.setIfInBounds_toArray, List.set_cons_zero, List.set_cons_succ]
      refine H.one (i := 14) (by simp only [List.getElem?_toArray, List.getElem?_cons_succ, List.getElem?_cons_zero]; rfl) (by kernel_rfl) (by kernel_rfl) (fun K hK => ?_)
      go_simp
      refine (P4.out _).mono ?_
      rintro e X1 ⟨rfl, hX⟩
      obtain rfl := hX
      refine hK.out _ _ trivial ?_
      clear hK K
      try simp only [Act.put, List.setIfInBounds_toArray, List.set_cons_zero, List.set_cons_succ]
      refine H.one (i := 17) (by simp only [List.getElem?_toArray, List.getElem?_cons_succ, List.getElem?_cons_zero]; rfl) (by kernel_rfl) (by kernel_rfl) (fun K hK => ?_)
      go_simp
      refine (P6.out _).mono ?_
      rintro e X1 ⟨rfl, hX⟩
      obtain rfl := hX
      refine hK.out _ _ trivial ?_
      clear hK K
      try simp only [Act.put, List.setIfInBounds_toArray, List.set_cons_zero, List.set_cons_succ]
      refine H.one (i := 20) (by simp only [List.getElem?_toArray, List.getElem?_cons_succ, List.getElem?_cons_zero]; rfl) (by kernel_rfl) (by kernel_rfl) (fun K hK => ?_)
      go_simp
      refine (P8.out _).mono ?_
      rintro e X1 ⟨rfl, hX⟩
      obtain rfl := hX
      refine hK.out _ _ trivial ?_
      clear hK K
      try simp only [Act.put, List.setIfInBounds_toArray, List.set_cons_zero, List.set_cons_succ]
      refine H.tk (i := 21) (v := .agg (Up.cells { Up.zero with ae := bt s 0, flags := bt s 1, plen := bt s 2, om := bt s 3, iv := num2 s 4, seq := num2 s 6, metric := num2 s 8 })) ?h21x25 hS ?_
      case h21x25 => exact (fun w hw => Hx.ex_built rfl (by kernel_rfl))
      try simp only [Act.put, List.setIfInBounds_toArray, List.set_cons_zero, List.set_cons_succ]
      refine H.storeLast (i := 23) (by simp only [List.getElem?_toArray, List.getElem?_cons_succ, List.getElem?_cons_zero]; rfl) (by kernel_rfl) (by kernel_rfl) rfl rfl X0.heap.size (Up.cells { Up.zero with ae := bt s 0, flags := bt s 1, plen := bt s 2, om := bt s 3, iv := num2 s 4, seq := num2 s 6, metric := num2 s 8 }) rfl rfl 120 Up.zero.cells (heap_alloc_new _ _) infoU rfl (J4.oneU _) trivial ?_
      refine wpAnyH_done (by kernel_rfl) ?_ _
      exact leaf
  rw [World.setRow_alloc_new]
  have XM := Lib.hid (Bk.Bk.new 120 X0 (Up.cells { Up.zero with ae := bt s 0, flags := bt s 1, plen := bt s 2, om := bt s 3, iv := num2 s 4, seq := num2 s 6, metric := num2 s 8 }))
  have hg := HD.out.res.lt
  have HD := Lib.hid (HD.out.call (balloc (Below.refl X0.heap.size X0) (.cells (Up.cells { Up.zero with ae := bt s 0, flags := bt s 1, plen := bt s 2, om := bt s 3, iv := num2 s 4, seq := num2 s 6, metric := num2 s 8 }) 120)))
  generalize X0.alloc (.cells (Up.cells { Up.zero with ae := bt s 0, flags := bt s 1, plen := bt s 2, om := bt s 3, iv := num2 s 4, seq := num2 s 6, metric := num2 s 8 }) 120) = V at *
  generalize X0.heap.size = g at *
  obtain ⟨x, hx⟩ : ∃ x : Up, x = { Up.zero with ae := bt s 0, flags := bt s 1, plen := bt s 2, om := bt s 3, iv := num2 s 4, seq := num2 s 6, metric := num2 s 8 } := ⟨_, rfl⟩
  have c0 : V.cell? ⟨g, 0, none⟩ = some (.int .i64 (bt s 0)) := XM.out.cell 0 _ rfl
  have c2 : V.cell? ⟨g, 2, none⟩ = some (.int .i64 (bt s 2)) := XM.out.cell 2 _ rfl
  have c3 : V.cell? ⟨g, 3, none⟩ = some (.int .i64 (bt s 3)) := XM.out.cell 3 _ rfl
  rw [← hx] at XM
  have HX := Lib.hid hx
  clear hx hS i0 i1 i2 i3 v0 v1 v2 v3 s4 s6 s8 P4 P6 P8
  by_cases k3 : 3 < bt s 0
  · have HY := Lib.hid (outK_no (d := s) (end_none hz k3))
    generalize bt s 0 = y0 at *
    generalize bt s 2 = y2 at *
    generalize bt s 3 = y3 at *
    go_wp2_with (first | (refine wpList_builtK rfl 120 _ rfl (Up.cells Up.zero) (by kernel_rfl) ?_) | (refine wpList_storeU (b := w.heap.size + 1) (m := Up.zero) (m' := Up.zero) rfl _ _ rfl rfl rfl HD.out.res ?_))
    exact bodyPost_ret (v := .tuple #[.agg Up.zero.cells, .bool false, .int .i64 0]) (results_three rfl _ _ (w.heap.size + 1) _ rfl (loadVarK shU (HD.out.res.put Up.zero.cells) rfl) (.bool false) rfl (.int .i64 0) rfl) rfl (AnsU.no HY.out (Box.below_setRow HD.out.bel (by omega) _))
  have PG := Lib.hid (fun V => great_any (bt s 0) (bt s 2) V b0 (by omega) b2)
  cases g1 : lenB (bt s 0) (bt s 2)
  · have HY := Lib.hid (outK_no (d := s) (end_range hz k3 (.inl g1)))
    rw [g1] at PG
    clear g1
    generalize bt s 0 = y0 at *
    generalize bt s 2 = y2 at *
    generalize bt s 3 = y3 at *
    go_wp2_with fail
    refine (PG.out _).mono ?_
    rintro r w' ⟨rfl, rfl⟩
    go_wp2_with (first | (refine wpList_builtK rfl 120 _ rfl (Up.cells Up.zero) (by kernel_rfl) ?_) | (refine wpList_storeU (b := w.heap.size + 1) (m := Up.zero) (m' := Up.zero) rfl _ _ rfl rfl rfl HD.out.res ?_))
    exact bodyPost_ret (v := .tuple #[.agg Up.zero.cells, .bool false, .int .i64 6]) (results_three rfl _ _ (w.heap.size + 1) _ rfl (loadVarK shU (HD.out.res.put Up.zero.cells) rfl) (.bool false) rfl (.int .i64 6) rfl) rfl (AnsU.no HY.out (Box.below_setRow HD.out.bel (by omega) _))
  rw [g1] at PG
  have hcl := count_le g1
  have PL := Lib.hid (fun V => Pre.rleast_any (bt s 2) V (by omega))
  have PB := Lib.hid (fun V => base_any (bt s 0) V)
  obtain ⟨cn, hcn⟩ : ∃ n, countN (bt s 0) (bt s 2) = n := ⟨_, rfl⟩
  obtain ⟨n, hn⟩ : ∃ n : Int, (cn : Int) - bt s 3 = n := ⟨_, rfl⟩
  have HW1 := Lib.hid (show IntKind.i64.wrap ((leastN (bt s 2) : Int) - (baseN (bt s 0) : Int)) = (cn : Int) by rw [IntWalk.i64_in _ ⟨by omega, by omega⟩]; omega)
  have HW2 := Lib.hid (show IntKind.i64.wrap n = n from IntWalk.i64_in _ ⟨by omega, by omega⟩)
  by_cases g2 : n < 0
  · have HY := Lib.hid (outK_no (d := s) (end_range hz k3 (.inr (by rw [hcn]; omega))))
    clear g1 hcl hcn
    generalize leastN (bt s 2) = ln at *
    generalize baseN (bt s 0) = bn at *
    generalize bt s 0 = y0 at *
    generalize bt s 2 = y2 at *
    generalize bt s 3 = y3 at *
    go_wp2_with fail
    refine (PG.out _).mono ?_
    rintro r w' ⟨rfl, rfl⟩
    go_upto_region 9 with fail
    refine wp_region_held_drew (S := fun W => W.cell? ⟨g, 0, none⟩ = some (.int .i64 y0) ∧ W.cell? ⟨g, 2, none⟩ = some (.int .i64 y2) ∧ W.cell? ⟨g, 3, none⟩ = some (.int .i64 y3)) (by kernel_rfl) ⟨c0, c2, c3⟩ (fun hS => ?_)
    have XM := Lib.hid (show Bk 120 V.drew g x.cells from XM.out)
    have HD := Lib.hid HD.out.drew
    clear c0 c2 c3
    generalize V.drew = V at *
    refine H.tk (i := 0) (v := ?v0a) ?h0a hS ?_
    case h0a => (intro w hw; go_simp; first | done | (with_reducible rfl))
    try simp only [Act.put, List.setIfInBounds_toArray, List.set_cons_zero, List.set_cons_succ]
    refine H.tk (i := 1) (v := .int .i64 y2) ?h1a hS ?_
    case h1a => exact (fun w hw => by have c := hw.2.1; go_simp)
    try simp only [Act.put, List.setIfInBounds_toArray, List.set_cons_zero, List.set_cons_succ]
    refine H.tk (i := 3) (v := ?v3a) ?h3a hS ?_
    case h3a => (intro w hw; go_simp; first | done | (with_reducible rfl))
    try simp only [Act.put, List.setIfInBounds_toArray, List.set_cons_zero, List.set_cons_succ]
    refine H.tk (i := 4) (v := .int .i64 y0) ?h4a hS ?_
    case h4a => exact (fun w hw => by have c := hw.1; go_simp)
    try simp only [Act.put, List.setIfInBounds_toArray, List.set_cons_zero, List.set_cons_succ]
    refine H.tk (i := 7) (v := ?v7a) ?h7a hS ?_
    case h7a => (intro w hw; go_simp; first | done | (with_reducible rfl))
    try simp only [Act.put, List.setIfInBounds_toArray, List.set_cons_zero, List.set_cons_succ]
    refine H.tk (i := 8) (v := .int .i64 y3) ?h8a hS ?_
    case h8a => exact (fun w hw => by have c := hw.2.2; go_simp)
    try simp only [Act.put, List.setIfInBounds_toArray, List.set_cons_zero, List.set_cons_succ]
    refine wpAnyH_ready (rs := [2]) (by kernel_rfl) (by simp) ?_
    refine AllReadyH.cons rfl (fun K hK => ?_) AllReadyH.nil
    go_simp
    refine (PL.out _).mono ?_
    rintro e X2 ⟨rfl, rfl⟩
    refine hK.out _ _ hS (fun _ => ?_)
    clear hK K
    try simp only [Act.put, List.setIfInBounds_toArray, List.set_cons_zero, List.set_cons_succ]
    refine wpAnyH_ready (rs := [5]) (by kernel_rfl) (by simp) ?_
    refine AllReadyH.cons rfl (fun K hK => ?_) AllReadyH.nil
    go_simp
    refine (PB.out _).mono ?_
    rintro e X5 ⟨rfl, rfl⟩
    refine hK.out _ _ hS (fun _ => ?_)
    clear hK K
    try simp only [Act.put, List.setIfInBounds_toArray, List.set_cons_zero, List.set_cons_succ]
    refine H.tk (i := 6) (v := .int .i64 (cn : Int)) ?h6a hS ?_
    case h6a => exact (fun w hw => by go_simp; rw [HW1.out])
    try simp only [Act.put, List.setIfInBounds_toArray, List.set_cons_zero, List.set_cons_succ]
    refine H.tk (i := 9) (v := .int .i64 n) ?h9a hS ?_
    case h9a => exact (fun w hw => by go_simp; rw [HW2.out])
    try simp only [Act.put, List.setIfInBounds_toArray, List.set_cons_zero, List.set_cons_succ]
    refine H.tk (i := 10) (v := (.int .i64 n)) (fun w _ => rfl) hS ?_
    try simp only [Act.put, List.setIfInBounds_toArray, List.set_cons_zero, List.set_cons_succ]
    refine wpAnyH_done (by kernel_rfl) ?_ _
    go_wp2_with (first | (refine wpList_builtK rfl 120 _ rfl (Up.cells Up.zero) (by kernel_rfl) ?_) | (refine wpList_storeU (b := w.heap.size + 1) (m := Up.zero) (m' := Up.zero) rfl _ _ rfl rfl rfl HD.out.res ?_))
    exact bodyPost_ret (v := .tuple #[.agg Up.zero.cells, .bool false, .int .i64 6]) (results_three rfl _ _ (w.heap.size + 1) _ rfl (loadVarK shU (HD.out.res.put Up.zero.cells) rfl) (.bool false) rfl (.int .i64 6) rfl) rfl (AnsU.no HY.out (Box.below_setRow HD.out.bel (by omega) _))
  obtain ⟨m, rfl⟩ : ∃ m : Nat, n = m := ⟨n.toNat, by omega⟩
  have hm16 : m ≤ 16 := by have := hcl.1; omega
  have hr : restN 10 (bt s 0) (bt s 2) (bt s 3) = 10 + m := by unfold restN; rw [hcn]; omega
  have g3 : ¬ (countN (bt s 0) (bt s 2) : Int) < bt s 3 := by rw [hcn]; omega
  by_cases c9 : s.size < 10 + m
  · have HY := Lib.hid (outK_no (d := s) (end_cut hz k3 g1 g3 (by rw [hr]; exact c9)))
    have c9' : (s.size : Int) < 10 + (m : Int) := by omega
    clear g1 g3 hcl hcn hr
    generalize leastN (bt s 2) = ln at *
    generalize baseN (bt s 0) = bn at *
    generalize bt s 0 = y0 at *
    generalize bt s 2 = y2 at *
    generalize bt s 3 = y3 at *
    go_wp2_with fail
    refine (PG.out _).mono ?_
    rintro r w' ⟨rfl, rfl⟩
    go_upto_region 9 with fail
    refine wp_region_held_drew (S := fun W => W.cell? ⟨g, 0, none⟩ = some (.int .i64 y0) ∧ W.cell? ⟨g, 2, none⟩ = some (.int .i64 y2) ∧ W.cell? ⟨g, 3, none⟩ = some (.int .i64 y3)) (by kernel_rfl) ⟨c0, c2, c3⟩ (fun hS => ?_)
    have XM := Lib.hid (show Bk 120 V.drew g x.cells from XM.out)
    have HD := Lib.hid HD.out.drew
    clear c0 c2 c3
    generalize V.drew = V at *
    refine H.tk (i := 0) (v := ?v0b) ?h0b hS ?_
    case h0b => (intro w hw; go_simp; first | done | (with_reducible rfl))
    try simp only [Act.put, List.setIfInBounds_toArray, List.set_cons_zero, List.set_cons_succ]
    refine H.tk (i := 1) (v := .int .i64 y2) ?h1b hS ?_
    case h1b => exact (fun w hw => by have c := hw.2.1; go_simp)
    try simp only [Act.put, List.setIfInBounds_toArray, List.set_cons_zero, List.set_cons_succ]
    refine H.tk (i := 3) (v := ?v3b) ?h3b hS ?_
    case h3b => (intro w hw; go_simp; first | done | (with_reducible rfl))
    try simp only [Act.put, List.setIfInBounds_toArray, List.set_cons_zero, List.set_cons_succ]
    refine H.tk (i := 4) (v := .int .i64 y0) ?h4b hS ?_
    case h4b => exact (fun w hw => by have c := hw.1; go_simp)
    try simp only [Act.put, List.setIfInBounds_toArray, List.set_cons_zero, List.set_cons_succ]
    refine H.tk (i := 7) (v := ?v7b) ?h7b hS ?_
    case h7b => (intro w hw; go_simp; first | done | (with_reducible rfl))
    try simp only [Act.put, List.setIfInBounds_toArray, List.set_cons_zero, List.set_cons_succ]
    refine H.tk (i := 8) (v := .int .i64 y3) ?h8b hS ?_
    case h8b => exact (fun w hw => by have c := hw.2.2; go_simp)
    try simp only [Act.put, List.setIfInBounds_toArray, List.set_cons_zero, List.set_cons_succ]
    refine wpAnyH_ready (rs := [2]) (by kernel_rfl) (by simp) ?_
    refine AllReadyH.cons rfl (fun K hK => ?_) AllReadyH.nil
    go_simp
    refine (PL.out _).mono ?_
    rintro e X2 ⟨rfl, rfl⟩
    refine hK.out _ _ hS (fun _ => ?_)
    clear hK K
    try simp only [Act.put, List.setIfInBounds_toArray, List.set_cons_zero, List.set_cons_succ]
    refine wpAnyH_ready (rs := [5]) (by kernel_rfl) (by simp) ?_
    refine AllReadyH.cons rfl (fun K hK => ?_) AllReadyH.nil
    go_simp
    refine (PB.out _).mono ?_
    rintro e X5 ⟨rfl, rfl⟩
    refine hK.out _ _ hS (fun _ => ?_)
    clear hK K
    try simp only [Act.put, List.setIfInBounds_toArray, List.set_cons_zero, List.set_cons_succ]
    refine H.tk (i := 6) (v := .int .i64 (cn : Int)) ?h6b hS ?_
    case h6b => exact (fun w hw => by go_simp; rw [HW1.out])
    try simp only [Act.put, List.setIfInBounds_toArray, List.set_cons_zero, List.set_cons_succ]
    refine H.tk (i := 9) (v := .int .i64 (m : Int)) ?h9b hS ?_
    case h9b => exact (fun w hw => by go_simp; rw [HW2.out])
    try simp only [Act.put, List.setIfInBounds_toArray, List.set_cons_zero, List.set_cons_succ]
    refine H.tk (i := 10) (v := (.int .i64 (m : Int))) (fun w _ => rfl) hS ?_
    try simp only [Act.put, List.setIfInBounds_toArray, List.set_cons_zero, List.set_cons_succ]
    refine wpAnyH_done (by kernel_rfl) ?_ _
    go_wp2_with (first | (refine wpList_builtK rfl 120 _ rfl (Up.cells Up.zero) (by kernel_rfl) ?_) | (refine wpList_storeU (b := w.heap.size + 1) (m := Up.zero) (m' := Up.zero) rfl _ _ rfl rfl rfl HD.out.res ?_))
    exact bodyPost_ret (v := .tuple #[.agg Up.zero.cells, .bool false, .int .i64 2]) (results_three rfl _ _ (w.heap.size + 1) _ rfl (loadVarK shU (HD.out.res.put Up.zero.cells) rfl) (.bool false) rfl (.int .i64 2) rfl) rfl (AnsU.no HY.out (Box.below_setRow HD.out.bel (by omega) _))
  have c9' : ¬ (s.size : Int) < 10 + (m : Int) := by omega
  have slt := sl_l s (10 + (m : Int)) (10 + m) s.size (by omega) (by omega) rfl
  have sla := sl_m s 10 (10 + (m : Int)) 10 (10 + m) rfl (by omega) (by omega) (by omega)
  have PS := Lib.hid (fun V => S6.rget_own (s.extract (10 + m) s.size) V (by simp; omega))
  obtain ⟨⟨l, kn, er⟩, ho⟩ : ∃ q, outS (s.extract (10 + m) s.size) = q := ⟨_, rfl⟩
  rw [ho] at PS
  rw [← hr] at ho
  by_cases he : er = 0
  rotate_left
  · have HY := Lib.hid (outK_no (d := s) (end_sub hz k3 g1 g3 (by rw [hr]; exact c9) ho he))
    have e1 : (er == 0) = false := by simpa using he
    have e2 : (er != 0) = true := by rw [bne, e1]; rfl
    clear he g1 g3 hcl hcn hr ho
    generalize s.extract 10 (10 + m) = ea at *
    generalize s.extract (10 + m) s.size = er2 at *
    generalize leastN (bt s 2) = ln at *
    generalize baseN (bt s 0) = bn at *
    generalize bt s 0 = y0 at *
    generalize bt s 2 = y2 at *
    generalize bt s 3 = y3 at *
    go_wp2_with fail
    refine (PG.out _).mono ?_
    rintro r w' ⟨rfl, rfl⟩
    go_upto_region 9 with fail
    refine wp_region_held_drew (S := fun W => W.cell? ⟨g, 0, none⟩ = some (.int .i64 y0) ∧ W.cell? ⟨g, 2, none⟩ = some (.int .i64 y2) ∧ W.cell? ⟨g, 3, none⟩ = some (.int .i64 y3)) (by kernel_rfl) ⟨c0, c2, c3⟩ (fun hS => ?_)
    have XM := Lib.hid (show Bk 120 V.drew g x.cells from XM.out)
    have HD := Lib.hid HD.out.drew
    clear c0 c2 c3
    generalize V.drew = V at *
    refine H.tk (i := 0) (v := ?v0c) ?h0c hS ?_
    case h0c => (intro w hw; go_simp; first | done | (with_reducible rfl))
    try simp only [Act.put, List.setIfInBounds_toArray, List.set_cons_zero, List.set_cons_succ]
    refine H.tk (i := 1) (v := .int .i64 y2) ?h1c hS ?_
    case h1c => exact (fun w hw => by have c := hw.2.1; go_simp)
    try simp only [Act.put, List.setIfInBounds_toArray, List.set_cons_zero, List.set_cons_succ]
    refine H.tk (i := 3) (v := ?v3c) ?h3c hS ?_
    case h3c => (intro w hw; go_simp; first | done | (with_reducible rfl))
    try simp only [Act.put, List.setIfInBounds_toArray, List.set_cons_zero, List.set_cons_succ]
    refine H.tk (i := 4) (v := .int .i64 y0) ?h4c hS ?_
    case h4c => exact (fun w hw => by have c := hw.1; go_simp)
    try simp only [Act.put, List.setIfInBounds_toArray, List.set_cons_zero, List.set_cons_succ]
    refine H.tk (i := 7) (v := ?v7c) ?h7c hS ?_
    case h7c => (intro w hw; go_simp; first | done | (with_reducible rfl))
    try simp only [Act.put, List.setIfInBounds_toArray, List.set_cons_zero, List.set_cons_succ]
    refine H.tk (i := 8) (v := .int .i64 y3) ?h8c hS ?_
    case h8c => exact (fun w hw => by have c := hw.2.2; go_simp)
    try simp only [Act.put, List.setIfInBounds_toArray, List.set_cons_zero, List.set_cons_succ]
    refine wpAnyH_ready (rs := [2]) (by kernel_rfl) (by simp) ?_
    refine AllReadyH.cons rfl (fun K hK => ?_) AllReadyH.nil
    go_simp
    refine (PL.out _).mono ?_
    rintro e X2 ⟨rfl, rfl⟩
    refine hK.out _ _ hS (fun _ => ?_)
    clear hK K
    try simp only [Act.put, List.setIfInBounds_toArray, List.set_cons_zero, List.set_cons_succ]
    refine wpAnyH_ready (rs := [5]) (by kernel_rfl) (by simp) ?_
    refine AllReadyH.cons rfl (fun K hK => ?_) AllReadyH.nil
    go_simp
    refine (PB.out _).mono ?_
    rintro e X5 ⟨rfl, rfl⟩
    refine hK.out _ _ hS (fun _ => ?_)
    clear hK K
    try simp only [Act.put, List.setIfInBounds_toArray, List.set_cons_zero, List.set_cons_succ]
    refine H.tk (i := 6) (v := .int .i64 (cn : Int)) ?h6c hS ?_
    case h6c => exact (fun w hw => by go_simp; rw [HW1.out])
    try simp only [Act.put, List.setIfInBounds_toArray, List.set_cons_zero, List.set_cons_succ]
    refine H.tk (i := 9) (v := .int .i64 (m : Int)) ?h9c hS ?_
    case h9c => exact (fun w hw => by go_simp; rw [HW2.out])
    try simp only [Act.put, List.setIfInBounds_toArray, List.set_cons_zero, List.set_cons_succ]
    refine H.tk (i := 10) (v := (.int .i64 (m : Int))) (fun w _ => rfl) hS ?_
    try simp only [Act.put, List.setIfInBounds_toArray, List.set_cons_zero, List.set_cons_succ]
    refine wpAnyH_done (by kernel_rfl) ?_ _
    go_wp2_with fail
    refine (PS.out _).mono ?_
    rintro e w4 ⟨sa, sc, rfl, hl, hb⟩
    have hgl := XM.out.lt
    have hsw := HD.out.bel.size
    have HD := Lib.hid (HD.out.call hb)
    have XM := Lib.hid (XM.out.below hb)
    have HL := Lib.hid hl
    clear hb hl PS
    simp only [] at HL
    go_wp2_with (first | (refine wpList_builtK rfl 120 _ rfl (Up.cells Up.zero) (by kernel_rfl) ?_) | (refine wpList_storeU (b := w.heap.size + 1) (m := Up.zero) (m' := Up.zero) rfl _ _ rfl rfl rfl HD.out.res ?_))
    exact bodyPost_ret (v := .tuple #[.agg Up.zero.cells, .bool false, .int .i64 er]) (results_three rfl _ _ (w.heap.size + 1) _ rfl (loadVarK shU (HD.out.res.put Up.zero.cells) rfl) (.bool false) rfl (.int .i64 er) rfl) rfl (AnsU.no HY.out (Box.below_setRow HD.out.bel (by omega) _))
  subst he
  have HE := Lib.hid (outK_yes (end_yes hz k3 g1 g3 (by rw [hr]; exact c9) ho))
  rw [hr] at HE
  have HE := Lib.hid (show outK s = ({ x with hav := if kn = true then 1 else 0, bytes := s.extract 10 (10 + m), sl := l }, true, 0) by rw [HE.out, HX.out]; rfl)
  have HS := Lib.hid (show x.hav = 0 ∧ x.bytes = ByteArray.empty ∧ x.sa = none ∧ x.sl = [] ∧ x.sc = 0 by rw [HX.out]; exact ⟨rfl, rfl, rfl, rfl, rfl⟩)
  clear HX
  clear g1 g3 hcl hcn hr ho
  generalize s.extract 10 (10 + m) = ea at *
  generalize s.extract (10 + m) s.size = er2 at *
  generalize leastN (bt s 2) = ln at *
  generalize baseN (bt s 0) = bn at *
  generalize bt s 0 = y0 at *
  generalize bt s 2 = y2 at *
  generalize bt s 3 = y3 at *
  go_wp2_with fail
  refine (PG.out _).mono ?_
  rintro r w' ⟨rfl, rfl⟩
  go_upto_region 9 with fail
  refine wp_region_held_drew (S := fun W => W.cell? ⟨g, 0, none⟩ = some (.int .i64 y0) ∧ W.cell? ⟨g, 2, none⟩ = some (.int .i64 y2) ∧ W.cell? ⟨g, 3, none⟩ = some (.int .i64 y3)) (by kernel_rfl) ⟨c0, c2, c3⟩ (fun hS => ?_)
  have XM := Lib.hid (show Bk 120 V.drew g x.cells from XM.out)
  have HD := Lib.hid HD.out.drew
  clear c0 c2 c3
  generalize V.drew = V at *
  refine H.tk (i := 0) (v := ?v0d) ?h0d hS ?_
  case h0d => (intro w hw; go_simp; first | done | (with_reducible rfl))
  try simp only [Act.put, List.setIfInBounds_toArray, List.set_cons_zero, List.set_cons_succ]
  refine H.tk (i := 1) (v := .int .i64 y2) ?h1d hS ?_
  case h1d => exact (fun w hw => by have c := hw.2.1; go_simp)
  try simp only [Act.put, List.setIfInBounds_toArray, List.set_cons_zero, List.set_cons_succ]
  refine H.tk (i := 3) (v := ?v3d) ?h3d hS ?_
  case h3d => (intro w hw; go_simp; first | done | (with_reducible rfl))
  try simp only [Act.put, List.setIfInBounds_toArray, List.set_cons_zero, List.set_cons_succ]
  refine H.tk (i := 4) (v := .int .i64 y0) ?h4d hS ?_
  case h4d => exact (fun w hw => by have c := hw.1; go_simp)
  try simp only [Act.put, List.setIfInBounds_toArray, List.set_cons_zero, List.set_cons_succ]
  refine H.tk (i := 7) (v := ?v7d) ?h7d hS ?_
  case h7d => (intro w hw; go_simp; first | done | (with_reducible rfl))
  try simp only [Act.put, List.setIfInBounds_toArray, List.set_cons_zero, List.set_cons_succ]
  refine H.tk (i := 8) (v := .int .i64 y3) ?h8d hS ?_
  case h8d => exact (fun w hw => by have c := hw.2.2; go_simp)
  try simp only [Act.put, List.setIfInBounds_toArray, List.set_cons_zero, List.set_cons_succ]
  refine wpAnyH_ready (rs := [2]) (by kernel_rfl) (by simp) ?_
  refine AllReadyH.cons rfl (fun K hK => ?_) AllReadyH.nil
  go_simp
  refine (PL.out _).mono ?_
  rintro e X2 ⟨rfl, rfl⟩
  refine hK.out _ _ hS (fun _ => ?_)
  clear hK K
  try simp only [Act.put, List.setIfInBounds_toArray, List.set_cons_zero, List.set_cons_succ]
  refine wpAnyH_ready (rs := [5]) (by kernel_rfl) (by simp) ?_
  refine AllReadyH.cons rfl (fun K hK => ?_) AllReadyH.nil
  go_simp
  refine (PB.out _).mono ?_
  rintro e X5 ⟨rfl, rfl⟩
  refine hK.out _ _ hS (fun _ => ?_)
  clear hK K
  try simp only [Act.put, List.setIfInBounds_toArray, List.set_cons_zero, List.set_cons_succ]
  refine H.tk (i := 6) (v := .int .i64 (cn : Int)) ?h6d hS ?_
  case h6d => exact (fun w hw => by go_simp; rw [HW1.out])
  try simp only [Act.put, List.setIfInBounds_toArray, List.set_cons_zero, List.set_cons_succ]
  refine H.tk (i := 9) (v := .int .i64 (m : Int)) ?h9d hS ?_
  case h9d => exact (fun w hw => by go_simp; rw [HW2.out])
  try simp only [Act.put, List.setIfInBounds_toArray, List.set_cons_zero, List.set_cons_succ]
  refine H.tk (i := 10) (v := (.int .i64 (m : Int))) (fun w _ => rfl) hS ?_
  try simp only [Act.put, List.setIfInBounds_toArray, List.set_cons_zero, List.set_cons_succ]
  refine wpAnyH_done (by kernel_rfl) ?_ _
  go_wp2_with fail
  refine (PS.out _).mono ?_
  rintro e w4 ⟨sa, sc, rfl, hl, hb⟩
  have hgl := XM.out.lt
  have hsw := HD.out.bel.size
  have HD := Lib.hid (HD.out.call hb)
  have XM := Lib.hid (XM.out.below hb)
  have HL := Lib.hid hl
  clear hb hl PS
  simp only [] at HL
  have d8 := XM.out.cell 8 _ rfl
  have fd8 := XM.out.frozen 8
  have d9 := XM.out.cell 9 _ rfl
  have fd9 := XM.out.frozen 9
  go_upto_region 18 with fail
  have XM := Lib.hid (XM.out.set (i := 8) (v := .string ea) (cs' := Up.cells { x with bytes := ea }) rfl)
  have XM := Lib.hid (XM.out.set (i := 9) (v := .slice sa l.length sc) (cs' := Up.cells { x with bytes := ea, sa := sa, sl := l, sc := sc }) rfl)
  have HD := Lib.hid ((HD.out.cell hg 8 (.string ea)).cell hg 9 (.slice sa l.length sc))
  have HL := Lib.hid (lst_cell (u := .slice sa l.length sc) (p := ⟨g, 9, none⟩) (lst_cell (u := .string ea) (p := ⟨g, 8, none⟩) HL.out (by show g < _; omega)) (by show g < _; omega))
  clear d8 fd8 d9 fd9
  generalize (w4.setCell ⟨g, 8, none⟩ (.string ea)).setCell ⟨g, 9, none⟩ (.slice sa l.length sc) = V5 at *
  cases kn with
  | false =>
    have HY := Lib.hid (show outK s = ({ ({ x with bytes := ea } : Up) with sl := l }, true, 0) by rw [HE.out]; obtain ⟨_, _, _, _, _, _, _, xh, _, _, _, _⟩ := x; obtain rfl : xh = 0 := HS.out.1; rfl)
    go_wp2_with (first | (refine wpList_loadU (b := g) (m := { x with bytes := ea, sa := sa, sl := l, sc := sc }) rfl _ rfl rfl XM.out ?_) | (refine wpList_storeU (b := w.heap.size + 1) (m := Up.zero) (m' := { x with bytes := ea, sa := sa, sl := l, sc := sc }) rfl _ _ rfl rfl rfl HD.out.res ?_))
    exact bodyPost_ret (v := .tuple #[.agg (Up.cells { x with bytes := ea, sa := sa, sl := l, sc := sc }), .bool true, .int .i64 0]) (results_three rfl _ _ (w.heap.size + 1) _ rfl (loadVarK shU (HD.out.res.put (Up.cells { x with bytes := ea, sa := sa, sl := l, sc := sc })) rfl) (.bool true) rfl (.int .i64 0) rfl) rfl (AnsU.yes (r := { x with bytes := ea }) HY.out (lst_under HL.out (by omega) _) hsw (Box.below_setRow HD.out.bel (by omega) _))
  | true =>
    have HY := Lib.hid (show outK s = ({ ({ x with hav := 1, bytes := ea } : Up) with sl := l }, true, 0) by rw [HE.out]; rfl)
    have d := XM.out.cell 7 _ rfl
    have fd := XM.out.frozen 7
    go_upto_region 20 with fail
    have XM := Lib.hid (XM.out.set (i := 7) (v := .int .i64 1) (cs' := Up.cells { x with hav := 1, bytes := ea, sa := sa, sl := l, sc := sc }) rfl)
    have HD := Lib.hid (HD.out.cell hg 7 (.int .i64 1))
    have HL := Lib.hid (lst_cell (u := .int .i64 1) (p := ⟨g, 7, none⟩) HL.out (by show g < _; omega))
    clear d fd
    generalize V5.setCell ⟨g, 7, none⟩ (.int .i64 1) = V9 at *
    go_wp2_with (first | (refine wpList_loadU (b := g) (m := { x with hav := 1, bytes := ea, sa := sa, sl := l, sc := sc }) rfl _ rfl rfl XM.out ?_) | (refine wpList_storeU (b := w.heap.size + 1) (m := Up.zero) (m' := { x with hav := 1, bytes := ea, sa := sa, sl := l, sc := sc }) rfl _ _ rfl rfl rfl HD.out.res ?_))
    exact bodyPost_ret (v := .tuple #[.agg (Up.cells { x with hav := 1, bytes := ea, sa := sa, sl := l, sc := sc }), .bool true, .int .i64 0]) (results_three rfl _ _ (w.heap.size + 1) _ rfl (loadVarK shU (HD.out.res.put (Up.cells { x with hav := 1, bytes := ea, sa := sa, sl := l, sc := sc })) rfl) (.bool true) rfl (.int .i64 0) rfl) rfl (AnsU.yes (r := { x with hav := 1, bytes := ea }) HY.out (lst_under HL.out (by omega) _) hsw (Box.below_setRow HD.out.bel (by omega) _))
end Go.Proofs.YtjhfpobjbijcpaaGreatDoor.Jt
