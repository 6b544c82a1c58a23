/-
  The statement RouteNoise, of any TLV and any two bytes. Condition: the listed variable has what the program's text lays it with (the tied card).
-/
import Derived.Test.YtkhdllhlhpkekaaDoorNs9
import Derived.Test.YtkhdllhlhpkekaaDoorCards
import Derived.Test.YtkhdllhlhpkekaaDoorTie
import Derived.Lay
import Derived.SevenTiedAt
import Derived.Stop.Joined
namespace Go.Proofs.YtkhdllhlhpkekaaDoor.routeNoise
open Go.ChangeShapes Go.WideShapes Go.ChangeAt Go.RowKit
open Go.ChangeMaps (open_string shut_string)
open Go.Proofs.YtkhdllhlhpkekaaDoor.Ms
open Go.Proofs.YtkhdllhlhpkekaaDoor.Box
open Go.Proofs.YtkhdllhlhpkekaaDoor.S1
open Go.Proofs.YtkhdllhlhpkekaaDoor.J1
open Go.Proofs.YtkhdllhlhpkekaaDoor.An
open Go.Proofs.YtkhdllhlhpkekaaDoor.Tc
open Go.Proofs.YtkhdllhlhpkekaaDoor.J9
open Go.Proofs.YtkhdllhlhpkekaaDoor.Hs
open Go.Proofs.YtkhdllhlhpkekaaDoor.Open
set_option linter.unusedVariables false

open Go.Proofs.YtkhdllhlhpkekaaDoor.Tl (cellsT)
open Go.Proofs.YtkhdllhlhpkekaaDoor.F1 (bt bt_nn bt_lt)
open Go.Proofs.YtkhdllhlhpkekaaDoor.Tl (cellsT)
open Go.Proofs.YtkhdllhlhpkekaaDoor.Or (st_yes)
open Go.Proofs.YtkhdllhlhpkekaaDoor.Hx (ex_built)
open Go.Proofs.YtkhdllhlhpkekaaDoor.Bk (Bk)
open Go.Proofs.YtkhdllhlhpkekaaDoor.J4 (shU wpList_loadU wpList_storeU)
open Go.Proofs.YtkhdllhlhpkekaaDoor.J6 (AnsU)
open Go.Proofs.YtkhdllhlhpkekaaDoor.F1 (bt bt_nn bt_lt)
open Go.Proofs.YtkhdllhlhpkekaaDoor.Hy
open Go.Proofs.YtkhdllhlhpkekaaDoor.Or (ex_load)
open Go.Proofs.YtkhdllhlhpkekaaDoor.Pre (leastN)
open Go.Proofs.YtkhdllhlhpkekaaDoor.Bits (keepL mask)
open Go.Proofs.YtkhdllhlhpkekaaDoor.Nu (text_eq ext_list)
open Go.Proofs.YtkhdllhlhpkekaaDoor.Nz
set_option maxRecDepth 100000
set_option maxHeartbeats 25600000 in
set_option maxRecDepth 100000 in
theorem walkT (a : Int) (d : ByteArray) (k0 k1 : Nat) (w : World) (hz : d.size ≤ 255) (hk0 : k0 < 256) (hk1 : k1 < 256) (HT0 : Hid (Tab w)) :
    Calls Tryd.prog 7 #[.agg (cellsT (a, (d, 10))), .agg #[.int .u8 (k0 : Int), .int .u8 (k1 : Int)]] w fun r w' => r = .returned (.bool true) ∧ Below w.heap.size w w' := by
  have hz2 : ¬ 255 < (d.size : Int) := by omega
  have P1 := Lib.hid (fun V (q : Tab V) => J6.get_own 10 a d V (.inr rfl) (by omega) q)
  have HO := out_len 10 d (.inr rfl)
  have HL := Lib.hid (show (outJ 10 d).1.ll = [] ∧ (outJ 10 d).1.sl.length ≤ 1048576 from ⟨HO.2.1, by have := HO.2.2.2.1; omega⟩)
  clear HO
  rcases out_cases (d := d) (t := 10) (.inr rfl) with ⟨er, hq⟩ | ⟨x, gx, hk, hkb, hq, _, _⟩
  · rw [hq] at P1 HL
    clear hq
    simp only [] at HL
    go_enter Tryd.func7, Tryd.ntmps7
    go_upto_region 1 with fail
    change Code.wp _ _ _ _ ((w.alloc (.cells (cellsT (a, (d, 10))) 35)).alloc (.cells #[.int .u8 (k0 : Int), .int .u8 (k1 : Int)] 51))
    have bel := balloc (balloc (Below.refl _ w) (.cells (cellsT (a, (d, 10))) 35)) (.cells #[.int .u8 (k0 : Int), .int .u8 (k1 : Int)] 51)
    have N0 := Bk.Bk.new 51 (w.alloc (.cells (cellsT (a, (d, 10))) 35)) #[.int .u8 (k0 : Int), .int .u8 (k1 : Int)]
    rw [Bk.alloc_size] at N0
    have N0 := Lib.hid N0
    have T0 := Lib.hid ((Bk.Bk.new 35 w (cellsT (a, (d, 10)))).old (.cells #[.int .u8 (k0 : Int), .int .u8 (k1 : Int)] 51))
    have HT := Lib.hid (HT0.out.below bel)
    have HB := Lib.hid bel
    clear bel
    generalize (w.alloc (.cells (cellsT (a, (d, 10))) 35)).alloc (.cells #[.int .u8 (k0 : Int), .int .u8 (k1 : Int)] 51) = V at *
    have q0 := T0.out.cell 0 (.int .i64 10) rfl
    have q2 := T0.out.cell 2 (.string d) rfl
    go_wp2_with (first | (refine Bk.wpList_loadK (b := w.heap.size) Tl.shT rfl _ rfl rfl T0.out rfl ?_))
    refine (P1.out _ HT.out).mono ?_
    intro r w1 hr
    obtain ⟨n1, rfl, hi, hp, hb⟩ := hr.at HL.out.1 HL.out.2
    have HT := Lib.hid (HT.out.below hb)
    have HB := Lib.hid (bcall HB.out hb)
    clear hr
    go_upto_region 4 with (refine wpList_storeM (b := w1.heap.size) (m := M.zero) (m' := n1) rfl _ _ rfl rfl rfl (Bx.new w1 M.zero) ?_)
    change Code.wp _ _ _ _ ((w1.alloc (.cells M.zero.cells 25)).setRow w1.heap.size n1.cells)
    rw [World.setRow_alloc_new]
    have bel := balloc (Below.refl w1.heap.size w1) (.cells n1.cells 25)
    clear q0 q2
    have I1 := Lib.hid (hi.below bel)
    have HT := Lib.hid (HT.out.below bel)
    have HB := Lib.hid (bcall HB.out bel)
    have X1 := Lib.hid (Bx.new w1 n1)
    have H1 := Lib.hid hp
    clear hi hp hb bel
    generalize w1.alloc (.cells n1.cells 25) = V1 at *
    generalize w1.heap.size = g1 at *
    go_wp2_with fail
    refine (awake_any _ HT.out).mono ?_
    rintro r w2 ⟨rfl, hb⟩
    have HB := Lib.hid (bcall HB.out hb)
    clear hb
    go_wp2
    go_ret
    exact ⟨rfl, HB.out⟩
  have szt : szJ 10 = 14 := rfl
  obtain ⟨n, hn⟩ : ∃ n, countN (bt d 0) (bt d 1) = n := ⟨_, rfl⟩
  obtain ⟨r, hr⟩ : ∃ r, (bt d 1).toNat % 8 = r := ⟨_, rfl⟩
  have hsz : 14 + n ≤ d.size := by have := gx.size; unfold restN at this; rw [hn, szt] at this; exact this
  have hl := len_range gx.len
  have hc := count_le gx.len
  have hln : (bt d 1 + 7) / 8 = (leastN (bt d 1) : Int) := by unfold leastN; omega
  have hrem : bt d 1 % 8 = (r : Int) := by omega
  have NB := Lib.hid (fun (L : List UInt8) (z : Nz 10 d L) => noiseB (t := 10) (.inr rfl) gx hk hkb z)
  have NA := Lib.hid (fun (L : List UInt8) c b y pos (z : Nz 10 d L) n0 r0 hp hb hc hy => noiseA (t := 10) (L := L) (c := c) (b := b) (n := n) (r := r) (y := y) (pos := pos) (.inr rfl) gx hk hkb z hn n0 hr r0 hp hb hc hy)
  have PG := Lib.hid (fun (L : List UInt8) (hL : L.length = d.size) V (q : Tab V) => J6.get_own 10 a ⟨L.toArray⟩ V (.inr rfl) (by rw [mk_sz L, hL]; omega) q)
  obtain ⟨q, hqq⟩ : ∃ q, outJ 10 d = (q, true, 0) := ⟨_, hq⟩
  have hq5 : q.ae = bt d 0 := by rw [hqq] at hq; rw [(Prod.mk.inj hq).1]; rfl
  have hq7 : q.plen = bt d 1 := by rw [hqq] at hq; rw [(Prod.mk.inj hq).1]; rfl
  rw [hqq] at P1 HL
  simp only [] at HL
  have HKq := Lib.hid (fun (n1 : M) (h : Pl n1 q) => show n1.ae = bt d 0 ∧ n1.plen = bt d 1 from by rw [show n1 = _ from h]; exact ⟨hq5, hq7⟩)
  obtain ⟨c5, hc5⟩ : ∃ c, d.data.toList[5]? = some c := ⟨_, List.getElem?_eq_getElem (by rw [size_list]; omega)⟩
  obtain ⟨x5, hx5, -⟩ := xor_byte c5 k0 hk0
  have H5 := Lib.hid hc5
  have HX5 := Lib.hid hx5
  clear hx5 hc5
  clear hq hq5 hq7
  have HQQ := Lib.hid hqq
  clear hqq
  have hb3 : bt d 0 = 3 → (bt d 1 + 7) / 8 = (n : Int) + 8 := fun e => by
    have : baseN (bt d 0) = 8 := by rw [e]; rfl
    omega
  have hb0 : ¬ bt d 0 = 3 → (bt d 1 + 7) / 8 = (n : Int) := fun e => by
    have : baseN (bt d 0) = 0 := by unfold baseN; rw [if_neg e]
    omega
  have htm : (bt d 1).tmod 8 = (r : Int) := by rw [Int.tmod_eq_emod_of_nonneg (bt_nn d 1)]; exact hrem
  clear hln
  by_cases n0 : n = 0
  · obtain rfl : n = 0 := n0
    by_cases h3 : bt d 0 = 3
    · have hlen : (d.data.toList.set 5 x5).length = d.size := (Nz.five d x5).len
      have P2 := Lib.hid (PG.out _ hlen)
      rw [NB.out (d.data.toList.set 5 x5) (Nz.five d x5), HQQ.out] at P2
      have HLn := Lib.hid hlen
      clear hlen
      have y1b := bt_nn d 1
      have y1c := bt_lt d 1
      clear gx hk hkb hr hn hc NA NB PG HQQ hl
      generalize bt d 0 = y0 at *
      generalize bt d 1 = y1 at *
      have hln := hb3 h3
      clear hb3 hb0
      have hln : (y1 + 7) / 8 = 8 := by omega
      subst h3
      go_enter Tryd.func7, Tryd.ntmps7
      go_upto_region 1 with fail
      change Code.wp _ _ _ _ ((w.alloc (.cells (cellsT (a, (d, 10))) 35)).alloc (.cells #[.int .u8 (k0 : Int), .int .u8 (k1 : Int)] 51))
      have bel := balloc (balloc (Below.refl _ w) (.cells (cellsT (a, (d, 10))) 35)) (.cells #[.int .u8 (k0 : Int), .int .u8 (k1 : Int)] 51)
      have N0 := Bk.Bk.new 51 (w.alloc (.cells (cellsT (a, (d, 10))) 35)) #[.int .u8 (k0 : Int), .int .u8 (k1 : Int)]
      rw [Bk.alloc_size] at N0
      have N0 := Lib.hid N0
      have T0 := Lib.hid ((Bk.Bk.new 35 w (cellsT (a, (d, 10)))).old (.cells #[.int .u8 (k0 : Int), .int .u8 (k1 : Int)] 51))
      have HT := Lib.hid (HT0.out.below bel)
      have HB := Lib.hid bel
      clear bel
      generalize (w.alloc (.cells (cellsT (a, (d, 10))) 35)).alloc (.cells #[.int .u8 (k0 : Int), .int .u8 (k1 : Int)] 51) = V at *
      have q0 := T0.out.cell 0 (.int .i64 10) rfl
      have q2 := T0.out.cell 2 (.string d) rfl
      go_wp2_with (first | (refine Bk.wpList_loadK (b := w.heap.size) Tl.shT rfl _ rfl rfl T0.out rfl ?_))
      refine (P1.out _ HT.out).mono ?_
      intro r w1 hr
      obtain ⟨n1, rfl, hi, hp, hb⟩ := hr.at HL.out.1 HL.out.2
      have T0 := Lib.hid (T0.out.below hb)
      have N0 := Lib.hid (N0.out.below hb)
      have HT := Lib.hid (HT.out.below hb)
      have HB := Lib.hid (bcall HB.out hb)
      clear hr
      go_upto_region 4 with (refine wpList_storeM (b := w1.heap.size) (m := M.zero) (m' := n1) rfl _ _ rfl rfl rfl (Bx.new w1 M.zero) ?_)
      change Code.wp _ _ _ _ ((w1.alloc (.cells M.zero.cells 25)).setRow w1.heap.size n1.cells)
      rw [World.setRow_alloc_new]
      have bel := balloc (Below.refl w1.heap.size w1) (.cells n1.cells 25)
      have T0 := Lib.hid (T0.out.below bel)
      have N0 := Lib.hid (N0.out.below bel)
      clear q0 q2
      have I1 := Lib.hid (hi.below bel)
      have HT := Lib.hid (HT.out.below bel)
      have HB := Lib.hid (bcall HB.out bel)
      have X1 := Lib.hid (Bx.new w1 n1)
      have H1 := Lib.hid hp
      clear hi hp hb bel
      generalize w1.alloc (.cells n1.cells 25) = V1 at *
      generalize w1.heap.size = g1 at *
      obtain ⟨k5, k7⟩ := HKq.out n1 H1.out
      have K5 := Lib.hid k5
      have K7 := Lib.hid k7
      clear k5 k7 HKq
      have CV := run_bytes_of_string (P := Tryd.prog) V1 9 52 5 d Tryd.underlying9 Tryd.underlying52 Tryd.underlying5
      have HNV := Lib.hid (rw_new V1 d d.data.toList rfl (grownCap V1 d.size 0 5) (bytesRow d (grownCap V1 d.size 0 5)).size (by unfold bytesRow; simp))
      have q2 := T0.out.cell 2 (.string d) rfl
      go_upto_region 7 with (first | (refine st_made (by rfl) rfl (ex_bytes (x := .tmp 39) rfl rfl CV) ?_))
      change Code.wp _ _ _ _ (V1.drew.alloc (.cells (bytesRow d (grownCap V1 d.size 0 5)) 5 ((bytesRow d (grownCap V1 d.size 0 5)).size, (bytesRow d (grownCap V1 d.size 0 5)).size + 1)))
      generalize hcap : grownCap V1 d.size 0 5 = cap at *
      clear CV hcap q2
      have BL := Lib.hid ((Below.refl V1.heap.size V1).drew.alloc (Nat.le_refl _) (.cells (bytesRow d cap) 5 ((bytesRow d cap).size, (bytesRow d cap).size + 1)))
      have FT := Lib.hid (fun W' (h : Below V1.heap.size V1 W') => T0.out.below h)
      have FNo := Lib.hid (fun W' (h : Below V1.heap.size V1 W') => N0.out.below h)
      have FX := Lib.hid (fun W' (h : Below V1.heap.size V1 W') => X1.out.below h)
      have FI := Lib.hid (fun W' (h : Below V1.heap.size V1 W') => I1.out.below h)
      have FTb := Lib.hid (fun W' (h : Below V1.heap.size V1 W') => HT.out.below h)
      have FB := Lib.hid (fun W' (h : Below V1.heap.size V1 W') => bcall HB.out h)
      clear T0 N0 X1 I1 HT HB
      generalize V1.drew.alloc (.cells (bytesRow d cap) 5 ((bytesRow d cap).size, (bytesRow d cap).size + 1)) = W2 at *
      generalize V1.heap.size = g at *
      have HN := HNV
      clear HNV
      have q0 := (FT.out _ BL.out).cell 0 (.int .i64 10) rfl
      go_upto_region 10 with fail
      clear q0
      refine wp_region_held_drew (S := fun W => Below g V1 W) (by kernel_rfl) BL.out.drew (fun hS => ?_)
      have BL := Lib.hid BL.out.drew
      have HN := Lib.hid HN.out.drew
      generalize W2.drew = X0 at *
      refine H.tk (i := 0) (v := ?v0x1t1f) ?h0x1t1f hS ?_
      case h0x1t1f => (intro w hw; go_simp; first | done | (with_reducible rfl))
      try simp only [Act.put, List.setIfInBounds_toArray, List.set_cons_zero, List.set_cons_succ]
      refine H.tk (i := 1) (v := ?v1x2t1f) ?h1x2t1f hS ?_
      case h1x2t1f => (intro w hw; go_simp; first | done | (with_reducible rfl))
      try simp only [Act.put, List.setIfInBounds_toArray, List.set_cons_zero, List.set_cons_succ]
      refine H.tk (i := 2) (v := .pointer (some ⟨g, 5, none⟩)) ?h2x3t1f hS ?_
      case h2x3t1f => exact (fun w hw => by go_simp; intro e; omega)
      try simp only [Act.put, List.setIfInBounds_toArray, List.set_cons_zero, List.set_cons_succ]
      refine H.tk (i := 4) (v := .pointer (some ⟨w.heap.size + 1, 0, none⟩)) ?h4x4t1f hS ?_
      case h4x4t1f => exact (fun w hw => by go_simp)
      try simp only [Act.put, List.setIfInBounds_toArray, List.set_cons_zero, List.set_cons_succ]
      refine H.tk (i := 5) (v := .int .u8 (k0 : Int)) ?h5x5t1f hS ?_
      case h5x5t1f => exact (fun w hw => by have c := (FNo.out _ hw).cell 0 (.int .u8 (k0 : Int)) rfl; go_simp)
      try simp only [Act.put, List.setIfInBounds_toArray, List.set_cons_zero, List.set_cons_succ]
      refine H.one (i := 3) (by simp only [List.getElem?_toArray, List.getElem?_cons_succ, List.getElem?_cons_zero]; rfl) (by kernel_rfl) (by kernel_rfl) (fun K hK => ?_)
      refine wp_valW (d := 47) rfl (ex_load (T := 5) rfl (agg_u8 _) rfl (HN.out.at 5 c5 H5.out)) ?_
      refine hK.out _ _ hS ?_
      clear hK K
      try simp only [Act.put, List.setIfInBounds_toArray, List.set_cons_zero, List.set_cons_succ]
      refine H.tk (i := 6) (v := .int .u8 (x5.toNat : Int)) ?h6x6t1f hS ?_
      case h6x6t1f => exact (fun w hw => by go_simp; rw [HX5.out])
      try simp only [Act.put, List.setIfInBounds_toArray, List.set_cons_zero, List.set_cons_succ]
      refine H.tk (i := 7) (v := .pointer (some ⟨g, 5, none⟩)) ?h7x7t1f hS ?_
      case h7x7t1f => exact (fun w hw => by go_simp; intro e; omega)
      try simp only [Act.put, List.setIfInBounds_toArray, List.set_cons_zero, List.set_cons_succ]
      refine H.one (i := 8) (by simp only [List.getElem?_toArray, List.getElem?_cons_succ, List.getElem?_cons_zero]; rfl) (by kernel_rfl) (by kernel_rfl) (fun K hK => ?_)
      have cx := HN.out.at 5 c5 H5.out
      have fx := HN.out.froz 5 (List.getElem?_eq_some_iff.1 H5.out).1
      go_simp
      have HN := Lib.hid (HN.out.set 5 x5 (List.getElem?_eq_some_iff.1 H5.out).1)
      have BL := Lib.hid (BL.out.setCell (p := ⟨g, 5, none⟩) (Nat.le_refl _) (.int .u8 (x5.toNat : Int)))
      refine hK.out _ _ BL.out ?_
      clear hK K hS cx fx
      have hS := BL.out
      generalize World.setCell _ ⟨g, 5, none⟩ _ = W3 at *
      try simp only [Act.put, List.setIfInBounds_toArray, List.set_cons_zero, List.set_cons_succ]
      refine wpAnyH_done (by kernel_rfl) ?_ _
      clear hS
      have c7 := (FX.out _ BL.out).cs.c7
      have c5m := (FX.out _ BL.out).cs.c5
      rw [K7.out] at c7
      rw [K5.out] at c5m
      go_upto_region 16 with fail
      clear c7 c5m
      have T0 := Lib.hid (FT.out _ BL.out)
      have X1 := Lib.hid (FX.out _ BL.out)
      have I1 := Lib.hid (FI.out _ BL.out)
      have HT := Lib.hid (FTb.out _ BL.out)
      have HB := Lib.hid (FB.out _ BL.out)
      have q0 := T0.out.cell 0 (.int .i64 10) rfl
      have q1 := T0.out.cell 1 (.int .i64 a) rfl
      have cv := run_convert_bytes_back W3 52 9 5 ⟨g, 0, none⟩ cap (d.data.toList.set 5 x5) Tryd.underlying52 Tryd.underlying5 Tryd.underlying9 (fun j hj => by rw [Sx.add_at, Nat.zero_add]; exact HN.out.cell j hj)
      rw [HLn.out] at cv
      generalize (⟨(d.data.toList.set 5 x5).toArray⟩ : ByteArray) = d2 at *
      clear HN BL FT FNo FX FI FTb FB
      go_wp2_with fail
      refine (P2.out _ HT.out).mono ?_
      intro r w12 hr
      obtain ⟨n2, rfl, hi, hp, hb⟩ := hr.at HL.out.1 HL.out.2
      have X1 := Lib.hid (X1.out.below hb)
      have I1 := Lib.hid (I1.out.below hb)
      have HT := Lib.hid (HT.out.below hb)
      have HB := Lib.hid (bcall HB.out hb)
      clear hr
      go_upto_region 17 with (refine wpList_storeM (b := w12.heap.size) (m := M.zero) (m' := n2) rfl _ _ rfl rfl rfl (Bx.new w12 M.zero) ?_)
      change Code.wp _ _ _ _ ((w12.alloc (.cells M.zero.cells 25)).setRow w12.heap.size n2.cells)
      rw [World.setRow_alloc_new]
      have bel := balloc (Below.refl w12.heap.size w12) (.cells n2.cells 25)
      have X1 := Lib.hid (X1.out.below bel)
      have I1 := Lib.hid (I1.out.below bel)
      clear q0 q1 cv T0
      have I2 := Lib.hid (hi.below bel)
      have HT := Lib.hid (HT.out.below bel)
      have HB := Lib.hid (bcall HB.out bel)
      have X2 := Lib.hid (Bx.new w12 n2)
      have H2 := Lib.hid hp
      clear hi hp hb bel
      generalize w12.alloc (.cells n2.cells 25) = V2 at *
      generalize w12.heap.size = g2 at *
      have PS := Lib.hid (fun W h h' => RSame.rsame_any n1 n2 W h h')
      rw [H1.out.same H2.out, same_self] at PS
      go_wp2_with fail
      refine (awake_any _ HT.out).mono ?_
      rintro r w13 ⟨rfl, hb⟩
      have X1 := Lib.hid (X1.out.below hb)
      have I1 := Lib.hid (I1.out.below hb)
      have X2 := Lib.hid (X2.out.below hb)
      have I2 := Lib.hid (I2.out.below hb)
      have HT := Lib.hid (HT.out.below hb)
      have HB := Lib.hid (bcall HB.out hb)
      clear hb
      go_wp2_with (first | (refine st_yes (v := .agg (M.cells n1)) (by rfl) rfl (run_loadM (x := .tmp 5) rfl rfl X1.out) ?_) | (refine st_yes (v := .agg (M.cells n2)) (by rfl) rfl (run_loadM (x := .tmp 11) rfl rfl X2.out) ?_))
      refine (PS.out _ I1.out I2.out).mono ?_
      rintro r' w14 ⟨rfl, hb⟩
      have HB := Lib.hid (bcall HB.out hb)
      clear hb
      go_wp2
      go_ret
      exact ⟨rfl, HB.out⟩
    have hlen : (d.data.toList.set 5 x5).length = d.size := (Nz.five d x5).len
    have P2 := Lib.hid (PG.out _ hlen)
    rw [NB.out (d.data.toList.set 5 x5) (Nz.five d x5), HQQ.out] at P2
    have HLn := Lib.hid hlen
    clear hlen
    have y1b := bt_nn d 1
    have y1c := bt_lt d 1
    clear gx hk hkb hr hn hc NA NB PG HQQ hl
    generalize bt d 0 = y0 at *
    generalize bt d 1 = y1 at *
    have hln := hb0 h3
    have e3 : (y0 == 3) = false := by simpa using h3
    clear hb3 hb0
    have hln : (y1 + 7) / 8 = 0 := by omega
    go_enter Tryd.func7, Tryd.ntmps7
    go_upto_region 1 with fail
    change Code.wp _ _ _ _ ((w.alloc (.cells (cellsT (a, (d, 10))) 35)).alloc (.cells #[.int .u8 (k0 : Int), .int .u8 (k1 : Int)] 51))
    have bel := balloc (balloc (Below.refl _ w) (.cells (cellsT (a, (d, 10))) 35)) (.cells #[.int .u8 (k0 : Int), .int .u8 (k1 : Int)] 51)
    have N0 := Bk.Bk.new 51 (w.alloc (.cells (cellsT (a, (d, 10))) 35)) #[.int .u8 (k0 : Int), .int .u8 (k1 : Int)]
    rw [Bk.alloc_size] at N0
    have N0 := Lib.hid N0
    have T0 := Lib.hid ((Bk.Bk.new 35 w (cellsT (a, (d, 10)))).old (.cells #[.int .u8 (k0 : Int), .int .u8 (k1 : Int)] 51))
    have HT := Lib.hid (HT0.out.below bel)
    have HB := Lib.hid bel
    clear bel
    generalize (w.alloc (.cells (cellsT (a, (d, 10))) 35)).alloc (.cells #[.int .u8 (k0 : Int), .int .u8 (k1 : Int)] 51) = V at *
    have q0 := T0.out.cell 0 (.int .i64 10) rfl
    have q2 := T0.out.cell 2 (.string d) rfl
    go_wp2_with (first | (refine Bk.wpList_loadK (b := w.heap.size) Tl.shT rfl _ rfl rfl T0.out rfl ?_))
    refine (P1.out _ HT.out).mono ?_
    intro r w1 hr
    obtain ⟨n1, rfl, hi, hp, hb⟩ := hr.at HL.out.1 HL.out.2
    have T0 := Lib.hid (T0.out.below hb)
    have N0 := Lib.hid (N0.out.below hb)
    have HT := Lib.hid (HT.out.below hb)
    have HB := Lib.hid (bcall HB.out hb)
    clear hr
    go_upto_region 4 with (refine wpList_storeM (b := w1.heap.size) (m := M.zero) (m' := n1) rfl _ _ rfl rfl rfl (Bx.new w1 M.zero) ?_)
    change Code.wp _ _ _ _ ((w1.alloc (.cells M.zero.cells 25)).setRow w1.heap.size n1.cells)
    rw [World.setRow_alloc_new]
    have bel := balloc (Below.refl w1.heap.size w1) (.cells n1.cells 25)
    have T0 := Lib.hid (T0.out.below bel)
    have N0 := Lib.hid (N0.out.below bel)
    clear q0 q2
    have I1 := Lib.hid (hi.below bel)
    have HT := Lib.hid (HT.out.below bel)
    have HB := Lib.hid (bcall HB.out bel)
    have X1 := Lib.hid (Bx.new w1 n1)
    have H1 := Lib.hid hp
    clear hi hp hb bel
    generalize w1.alloc (.cells n1.cells 25) = V1 at *
    generalize w1.heap.size = g1 at *
    obtain ⟨k5, k7⟩ := HKq.out n1 H1.out
    have K5 := Lib.hid k5
    have K7 := Lib.hid k7
    clear k5 k7 HKq
    have CV := run_bytes_of_string (P := Tryd.prog) V1 9 52 5 d Tryd.underlying9 Tryd.underlying52 Tryd.underlying5
    have HNV := Lib.hid (rw_new V1 d d.data.toList rfl (grownCap V1 d.size 0 5) (bytesRow d (grownCap V1 d.size 0 5)).size (by unfold bytesRow; simp))
    have q2 := T0.out.cell 2 (.string d) rfl
    go_upto_region 7 with (first | (refine st_made (by rfl) rfl (ex_bytes (x := .tmp 39) rfl rfl CV) ?_))
    change Code.wp _ _ _ _ (V1.drew.alloc (.cells (bytesRow d (grownCap V1 d.size 0 5)) 5 ((bytesRow d (grownCap V1 d.size 0 5)).size, (bytesRow d (grownCap V1 d.size 0 5)).size + 1)))
    generalize hcap : grownCap V1 d.size 0 5 = cap at *
    clear CV hcap q2
    have BL := Lib.hid ((Below.refl V1.heap.size V1).drew.alloc (Nat.le_refl _) (.cells (bytesRow d cap) 5 ((bytesRow d cap).size, (bytesRow d cap).size + 1)))
    have FT := Lib.hid (fun W' (h : Below V1.heap.size V1 W') => T0.out.below h)
    have FNo := Lib.hid (fun W' (h : Below V1.heap.size V1 W') => N0.out.below h)
    have FX := Lib.hid (fun W' (h : Below V1.heap.size V1 W') => X1.out.below h)
    have FI := Lib.hid (fun W' (h : Below V1.heap.size V1 W') => I1.out.below h)
    have FTb := Lib.hid (fun W' (h : Below V1.heap.size V1 W') => HT.out.below h)
    have FB := Lib.hid (fun W' (h : Below V1.heap.size V1 W') => bcall HB.out h)
    clear T0 N0 X1 I1 HT HB
    generalize V1.drew.alloc (.cells (bytesRow d cap) 5 ((bytesRow d cap).size, (bytesRow d cap).size + 1)) = W2 at *
    generalize V1.heap.size = g at *
    have HN := HNV
    clear HNV
    have q0 := (FT.out _ BL.out).cell 0 (.int .i64 10) rfl
    go_upto_region 10 with fail
    clear q0
    refine wp_region_held_drew (S := fun W => Below g V1 W) (by kernel_rfl) BL.out.drew (fun hS => ?_)
    have BL := Lib.hid BL.out.drew
    have HN := Lib.hid HN.out.drew
    generalize W2.drew = X0 at *
    refine H.tk (i := 0) (v := ?v0x1t2f) ?h0x1t2f hS ?_
    case h0x1t2f => (intro w hw; go_simp; first | done | (with_reducible rfl))
    try simp only [Act.put, List.setIfInBounds_toArray, List.set_cons_zero, List.set_cons_succ]
    refine H.tk (i := 1) (v := ?v1x2t2f) ?h1x2t2f hS ?_
    case h1x2t2f => (intro w hw; go_simp; first | done | (with_reducible rfl))
    try simp only [Act.put, List.setIfInBounds_toArray, List.set_cons_zero, List.set_cons_succ]
    refine H.tk (i := 2) (v := .pointer (some ⟨g, 5, none⟩)) ?h2x3t2f hS ?_
    case h2x3t2f => exact (fun w hw => by go_simp; intro e; omega)
    try simp only [Act.put, List.setIfInBounds_toArray, List.set_cons_zero, List.set_cons_succ]
    refine H.tk (i := 4) (v := .pointer (some ⟨w.heap.size + 1, 0, none⟩)) ?h4x4t2f hS ?_
    case h4x4t2f => exact (fun w hw => by go_simp)
    try simp only [Act.put, List.setIfInBounds_toArray, List.set_cons_zero, List.set_cons_succ]
    refine H.tk (i := 5) (v := .int .u8 (k0 : Int)) ?h5x5t2f hS ?_
    case h5x5t2f => exact (fun w hw => by have c := (FNo.out _ hw).cell 0 (.int .u8 (k0 : Int)) rfl; go_simp)
    try simp only [Act.put, List.setIfInBounds_toArray, List.set_cons_zero, List.set_cons_succ]
    refine H.one (i := 3) (by simp only [List.getElem?_toArray, List.getElem?_cons_succ, List.getElem?_cons_zero]; rfl) (by kernel_rfl) (by kernel_rfl) (fun K hK => ?_)
    refine wp_valW (d := 47) rfl (ex_load (T := 5) rfl (agg_u8 _) rfl (HN.out.at 5 c5 H5.out)) ?_
    refine hK.out _ _ hS ?_
    clear hK K
    try simp only [Act.put, List.setIfInBounds_toArray, List.set_cons_zero, List.set_cons_succ]
    refine H.tk (i := 6) (v := .int .u8 (x5.toNat : Int)) ?h6x6t2f hS ?_
    case h6x6t2f => exact (fun w hw => by go_simp; rw [HX5.out])
    try simp only [Act.put, List.setIfInBounds_toArray, List.set_cons_zero, List.set_cons_succ]
    refine H.tk (i := 7) (v := .pointer (some ⟨g, 5, none⟩)) ?h7x7t2f hS ?_
    case h7x7t2f => exact (fun w hw => by go_simp; intro e; omega)
    try simp only [Act.put, List.setIfInBounds_toArray, List.set_cons_zero, List.set_cons_succ]
    refine H.one (i := 8) (by simp only [List.getElem?_toArray, List.getElem?_cons_succ, List.getElem?_cons_zero]; rfl) (by kernel_rfl) (by kernel_rfl) (fun K hK => ?_)
    have cx := HN.out.at 5 c5 H5.out
    have fx := HN.out.froz 5 (List.getElem?_eq_some_iff.1 H5.out).1
    go_simp
    have HN := Lib.hid (HN.out.set 5 x5 (List.getElem?_eq_some_iff.1 H5.out).1)
    have BL := Lib.hid (BL.out.setCell (p := ⟨g, 5, none⟩) (Nat.le_refl _) (.int .u8 (x5.toNat : Int)))
    refine hK.out _ _ BL.out ?_
    clear hK K hS cx fx
    have hS := BL.out
    generalize World.setCell _ ⟨g, 5, none⟩ _ = W3 at *
    try simp only [Act.put, List.setIfInBounds_toArray, List.set_cons_zero, List.set_cons_succ]
    refine wpAnyH_done (by kernel_rfl) ?_ _
    clear hS
    have c7 := (FX.out _ BL.out).cs.c7
    have c5m := (FX.out _ BL.out).cs.c5
    rw [K7.out] at c7
    rw [K5.out] at c5m
    go_upto_region 16 with fail
    clear c7 c5m
    have T0 := Lib.hid (FT.out _ BL.out)
    have X1 := Lib.hid (FX.out _ BL.out)
    have I1 := Lib.hid (FI.out _ BL.out)
    have HT := Lib.hid (FTb.out _ BL.out)
    have HB := Lib.hid (FB.out _ BL.out)
    have q0 := T0.out.cell 0 (.int .i64 10) rfl
    have q1 := T0.out.cell 1 (.int .i64 a) rfl
    have cv := run_convert_bytes_back W3 52 9 5 ⟨g, 0, none⟩ cap (d.data.toList.set 5 x5) Tryd.underlying52 Tryd.underlying5 Tryd.underlying9 (fun j hj => by rw [Sx.add_at, Nat.zero_add]; exact HN.out.cell j hj)
    rw [HLn.out] at cv
    generalize (⟨(d.data.toList.set 5 x5).toArray⟩ : ByteArray) = d2 at *
    clear HN BL FT FNo FX FI FTb FB
    go_wp2_with fail
    refine (P2.out _ HT.out).mono ?_
    intro r w12 hr
    obtain ⟨n2, rfl, hi, hp, hb⟩ := hr.at HL.out.1 HL.out.2
    have X1 := Lib.hid (X1.out.below hb)
    have I1 := Lib.hid (I1.out.below hb)
    have HT := Lib.hid (HT.out.below hb)
    have HB := Lib.hid (bcall HB.out hb)
    clear hr
    go_upto_region 17 with (refine wpList_storeM (b := w12.heap.size) (m := M.zero) (m' := n2) rfl _ _ rfl rfl rfl (Bx.new w12 M.zero) ?_)
    change Code.wp _ _ _ _ ((w12.alloc (.cells M.zero.cells 25)).setRow w12.heap.size n2.cells)
    rw [World.setRow_alloc_new]
    have bel := balloc (Below.refl w12.heap.size w12) (.cells n2.cells 25)
    have X1 := Lib.hid (X1.out.below bel)
    have I1 := Lib.hid (I1.out.below bel)
    clear q0 q1 cv T0
    have I2 := Lib.hid (hi.below bel)
    have HT := Lib.hid (HT.out.below bel)
    have HB := Lib.hid (bcall HB.out bel)
    have X2 := Lib.hid (Bx.new w12 n2)
    have H2 := Lib.hid hp
    clear hi hp hb bel
    generalize w12.alloc (.cells n2.cells 25) = V2 at *
    generalize w12.heap.size = g2 at *
    have PS := Lib.hid (fun W h h' => RSame.rsame_any n1 n2 W h h')
    rw [H1.out.same H2.out, same_self] at PS
    go_wp2_with fail
    refine (awake_any _ HT.out).mono ?_
    rintro r w13 ⟨rfl, hb⟩
    have X1 := Lib.hid (X1.out.below hb)
    have I1 := Lib.hid (I1.out.below hb)
    have X2 := Lib.hid (X2.out.below hb)
    have I2 := Lib.hid (I2.out.below hb)
    have HT := Lib.hid (HT.out.below hb)
    have HB := Lib.hid (bcall HB.out hb)
    clear hb
    go_wp2_with (first | (refine st_yes (v := .agg (M.cells n1)) (by rfl) rfl (run_loadM (x := .tmp 5) rfl rfl X1.out) ?_) | (refine st_yes (v := .agg (M.cells n2)) (by rfl) rfl (run_loadM (x := .tmp 11) rfl rfl X2.out) ?_))
    refine (PS.out _ I1.out I2.out).mono ?_
    rintro r' w14 ⟨rfl, hb⟩
    have HB := Lib.hid (bcall HB.out hb)
    clear hb
    go_wp2
    go_ret
    exact ⟨rfl, HB.out⟩
  by_cases r0 : r = 0
  · obtain rfl : r = 0 := r0
    have hrem : bt d 1 % 8 = 0 := hrem
    have htm : (bt d 1).tmod 8 = 0 := htm
    by_cases h3 : bt d 0 = 3
    · have hlen : (d.data.toList.set 5 x5).length = d.size := (Nz.five d x5).len
      have P2 := Lib.hid (PG.out _ hlen)
      rw [NB.out (d.data.toList.set 5 x5) (Nz.five d x5), HQQ.out] at P2
      have HLn := Lib.hid hlen
      clear hlen
      have y1b := bt_nn d 1
      have y1c := bt_lt d 1
      clear gx hk hkb hr hn hc NA NB PG HQQ hl
      generalize bt d 0 = y0 at *
      generalize bt d 1 = y1 at *
      have hn1 : 0 < (n : Int) := by omega
      have hln := hb3 h3
      clear hb3 hb0
      subst h3
      go_enter Tryd.func7, Tryd.ntmps7
      go_upto_region 1 with fail
      change Code.wp _ _ _ _ ((w.alloc (.cells (cellsT (a, (d, 10))) 35)).alloc (.cells #[.int .u8 (k0 : Int), .int .u8 (k1 : Int)] 51))
      have bel := balloc (balloc (Below.refl _ w) (.cells (cellsT (a, (d, 10))) 35)) (.cells #[.int .u8 (k0 : Int), .int .u8 (k1 : Int)] 51)
      have N0 := Bk.Bk.new 51 (w.alloc (.cells (cellsT (a, (d, 10))) 35)) #[.int .u8 (k0 : Int), .int .u8 (k1 : Int)]
      rw [Bk.alloc_size] at N0
      have N0 := Lib.hid N0
      have T0 := Lib.hid ((Bk.Bk.new 35 w (cellsT (a, (d, 10)))).old (.cells #[.int .u8 (k0 : Int), .int .u8 (k1 : Int)] 51))
      have HT := Lib.hid (HT0.out.below bel)
      have HB := Lib.hid bel
      clear bel
      generalize (w.alloc (.cells (cellsT (a, (d, 10))) 35)).alloc (.cells #[.int .u8 (k0 : Int), .int .u8 (k1 : Int)] 51) = V at *
      have q0 := T0.out.cell 0 (.int .i64 10) rfl
      have q2 := T0.out.cell 2 (.string d) rfl
      go_wp2_with (first | (refine Bk.wpList_loadK (b := w.heap.size) Tl.shT rfl _ rfl rfl T0.out rfl ?_))
      refine (P1.out _ HT.out).mono ?_
      intro r w1 hr
      obtain ⟨n1, rfl, hi, hp, hb⟩ := hr.at HL.out.1 HL.out.2
      have T0 := Lib.hid (T0.out.below hb)
      have N0 := Lib.hid (N0.out.below hb)
      have HT := Lib.hid (HT.out.below hb)
      have HB := Lib.hid (bcall HB.out hb)
      clear hr
      go_upto_region 4 with (refine wpList_storeM (b := w1.heap.size) (m := M.zero) (m' := n1) rfl _ _ rfl rfl rfl (Bx.new w1 M.zero) ?_)
      change Code.wp _ _ _ _ ((w1.alloc (.cells M.zero.cells 25)).setRow w1.heap.size n1.cells)
      rw [World.setRow_alloc_new]
      have bel := balloc (Below.refl w1.heap.size w1) (.cells n1.cells 25)
      have T0 := Lib.hid (T0.out.below bel)
      have N0 := Lib.hid (N0.out.below bel)
      clear q0 q2
      have I1 := Lib.hid (hi.below bel)
      have HT := Lib.hid (HT.out.below bel)
      have HB := Lib.hid (bcall HB.out bel)
      have X1 := Lib.hid (Bx.new w1 n1)
      have H1 := Lib.hid hp
      clear hi hp hb bel
      generalize w1.alloc (.cells n1.cells 25) = V1 at *
      generalize w1.heap.size = g1 at *
      obtain ⟨k5, k7⟩ := HKq.out n1 H1.out
      have K5 := Lib.hid k5
      have K7 := Lib.hid k7
      clear k5 k7 HKq
      have CV := run_bytes_of_string (P := Tryd.prog) V1 9 52 5 d Tryd.underlying9 Tryd.underlying52 Tryd.underlying5
      have HNV := Lib.hid (rw_new V1 d d.data.toList rfl (grownCap V1 d.size 0 5) (bytesRow d (grownCap V1 d.size 0 5)).size (by unfold bytesRow; simp))
      have q2 := T0.out.cell 2 (.string d) rfl
      go_upto_region 7 with (first | (refine st_made (by rfl) rfl (ex_bytes (x := .tmp 39) rfl rfl CV) ?_))
      change Code.wp _ _ _ _ (V1.drew.alloc (.cells (bytesRow d (grownCap V1 d.size 0 5)) 5 ((bytesRow d (grownCap V1 d.size 0 5)).size, (bytesRow d (grownCap V1 d.size 0 5)).size + 1)))
      generalize hcap : grownCap V1 d.size 0 5 = cap at *
      clear CV hcap q2
      have BL := Lib.hid ((Below.refl V1.heap.size V1).drew.alloc (Nat.le_refl _) (.cells (bytesRow d cap) 5 ((bytesRow d cap).size, (bytesRow d cap).size + 1)))
      have FT := Lib.hid (fun W' (h : Below V1.heap.size V1 W') => T0.out.below h)
      have FNo := Lib.hid (fun W' (h : Below V1.heap.size V1 W') => N0.out.below h)
      have FX := Lib.hid (fun W' (h : Below V1.heap.size V1 W') => X1.out.below h)
      have FI := Lib.hid (fun W' (h : Below V1.heap.size V1 W') => I1.out.below h)
      have FTb := Lib.hid (fun W' (h : Below V1.heap.size V1 W') => HT.out.below h)
      have FB := Lib.hid (fun W' (h : Below V1.heap.size V1 W') => bcall HB.out h)
      clear T0 N0 X1 I1 HT HB
      generalize V1.drew.alloc (.cells (bytesRow d cap) 5 ((bytesRow d cap).size, (bytesRow d cap).size + 1)) = W2 at *
      generalize V1.heap.size = g at *
      have HN := HNV
      clear HNV
      have q0 := (FT.out _ BL.out).cell 0 (.int .i64 10) rfl
      go_upto_region 10 with fail
      clear q0
      refine wp_region_held_drew (S := fun W => Below g V1 W) (by kernel_rfl) BL.out.drew (fun hS => ?_)
      have BL := Lib.hid BL.out.drew
      have HN := Lib.hid HN.out.drew
      generalize W2.drew = X0 at *
      refine H.tk (i := 0) (v := ?v0x1t3f) ?h0x1t3f hS ?_
      case h0x1t3f => (intro w hw; go_simp; first | done | (with_reducible rfl))
      try simp only [Act.put, List.setIfInBounds_toArray, List.set_cons_zero, List.set_cons_succ]
      refine H.tk (i := 1) (v := ?v1x2t3f) ?h1x2t3f hS ?_
      case h1x2t3f => (intro w hw; go_simp; first | done | (with_reducible rfl))
      try simp only [Act.put, List.setIfInBounds_toArray, List.set_cons_zero, List.set_cons_succ]
      refine H.tk (i := 2) (v := .pointer (some ⟨g, 5, none⟩)) ?h2x3t3f hS ?_
      case h2x3t3f => exact (fun w hw => by go_simp; intro e; omega)
      try simp only [Act.put, List.setIfInBounds_toArray, List.set_cons_zero, List.set_cons_succ]
      refine H.tk (i := 4) (v := .pointer (some ⟨w.heap.size + 1, 0, none⟩)) ?h4x4t3f hS ?_
      case h4x4t3f => exact (fun w hw => by go_simp)
      try simp only [Act.put, List.setIfInBounds_toArray, List.set_cons_zero, List.set_cons_succ]
      refine H.tk (i := 5) (v := .int .u8 (k0 : Int)) ?h5x5t3f hS ?_
      case h5x5t3f => exact (fun w hw => by have c := (FNo.out _ hw).cell 0 (.int .u8 (k0 : Int)) rfl; go_simp)
      try simp only [Act.put, List.setIfInBounds_toArray, List.set_cons_zero, List.set_cons_succ]
      refine H.one (i := 3) (by simp only [List.getElem?_toArray, List.getElem?_cons_succ, List.getElem?_cons_zero]; rfl) (by kernel_rfl) (by kernel_rfl) (fun K hK => ?_)
      refine wp_valW (d := 47) rfl (ex_load (T := 5) rfl (agg_u8 _) rfl (HN.out.at 5 c5 H5.out)) ?_
      refine hK.out _ _ hS ?_
      clear hK K
      try simp only [Act.put, List.setIfInBounds_toArray, List.set_cons_zero, List.set_cons_succ]
      refine H.tk (i := 6) (v := .int .u8 (x5.toNat : Int)) ?h6x6t3f hS ?_
      case h6x6t3f => exact (fun w hw => by go_simp; rw [HX5.out])
      try simp only [Act.put, List.setIfInBounds_toArray, List.set_cons_zero, List.set_cons_succ]
      refine H.tk (i := 7) (v := .pointer (some ⟨g, 5, none⟩)) ?h7x7t3f hS ?_
      case h7x7t3f => exact (fun w hw => by go_simp; intro e; omega)
      try simp only [Act.put, List.setIfInBounds_toArray, List.set_cons_zero, List.set_cons_succ]
      refine H.one (i := 8) (by simp only [List.getElem?_toArray, List.getElem?_cons_succ, List.getElem?_cons_zero]; rfl) (by kernel_rfl) (by kernel_rfl) (fun K hK => ?_)
      have cx := HN.out.at 5 c5 H5.out
      have fx := HN.out.froz 5 (List.getElem?_eq_some_iff.1 H5.out).1
      go_simp
      have HN := Lib.hid (HN.out.set 5 x5 (List.getElem?_eq_some_iff.1 H5.out).1)
      have BL := Lib.hid (BL.out.setCell (p := ⟨g, 5, none⟩) (Nat.le_refl _) (.int .u8 (x5.toNat : Int)))
      refine hK.out _ _ BL.out ?_
      clear hK K hS cx fx
      have hS := BL.out
      generalize World.setCell _ ⟨g, 5, none⟩ _ = W3 at *
      try simp only [Act.put, List.setIfInBounds_toArray, List.set_cons_zero, List.set_cons_succ]
      refine wpAnyH_done (by kernel_rfl) ?_ _
      clear hS
      have c7 := (FX.out _ BL.out).cs.c7
      have c5m := (FX.out _ BL.out).cs.c5
      rw [K7.out] at c7
      rw [K5.out] at c5m
      go_upto_region 16 with fail
      clear c7 c5m
      have T0 := Lib.hid (FT.out _ BL.out)
      have X1 := Lib.hid (FX.out _ BL.out)
      have I1 := Lib.hid (FI.out _ BL.out)
      have HT := Lib.hid (FTb.out _ BL.out)
      have HB := Lib.hid (FB.out _ BL.out)
      have q0 := T0.out.cell 0 (.int .i64 10) rfl
      have q1 := T0.out.cell 1 (.int .i64 a) rfl
      have cv := run_convert_bytes_back W3 52 9 5 ⟨g, 0, none⟩ cap (d.data.toList.set 5 x5) Tryd.underlying52 Tryd.underlying5 Tryd.underlying9 (fun j hj => by rw [Sx.add_at, Nat.zero_add]; exact HN.out.cell j hj)
      rw [HLn.out] at cv
      generalize (⟨(d.data.toList.set 5 x5).toArray⟩ : ByteArray) = d2 at *
      clear HN BL FT FNo FX FI FTb FB
      go_wp2_with fail
      refine (P2.out _ HT.out).mono ?_
      intro r w12 hr
      obtain ⟨n2, rfl, hi, hp, hb⟩ := hr.at HL.out.1 HL.out.2
      have X1 := Lib.hid (X1.out.below hb)
      have I1 := Lib.hid (I1.out.below hb)
      have HT := Lib.hid (HT.out.below hb)
      have HB := Lib.hid (bcall HB.out hb)
      clear hr
      go_upto_region 17 with (refine wpList_storeM (b := w12.heap.size) (m := M.zero) (m' := n2) rfl _ _ rfl rfl rfl (Bx.new w12 M.zero) ?_)
      change Code.wp _ _ _ _ ((w12.alloc (.cells M.zero.cells 25)).setRow w12.heap.size n2.cells)
      rw [World.setRow_alloc_new]
      have bel := balloc (Below.refl w12.heap.size w12) (.cells n2.cells 25)
      have X1 := Lib.hid (X1.out.below bel)
      have I1 := Lib.hid (I1.out.below bel)
      clear q0 q1 cv T0
      have I2 := Lib.hid (hi.below bel)
      have HT := Lib.hid (HT.out.below bel)
      have HB := Lib.hid (bcall HB.out bel)
      have X2 := Lib.hid (Bx.new w12 n2)
      have H2 := Lib.hid hp
      clear hi hp hb bel
      generalize w12.alloc (.cells n2.cells 25) = V2 at *
      generalize w12.heap.size = g2 at *
      have PS := Lib.hid (fun W h h' => RSame.rsame_any n1 n2 W h h')
      rw [H1.out.same H2.out, same_self] at PS
      go_wp2_with fail
      refine (awake_any _ HT.out).mono ?_
      rintro r w13 ⟨rfl, hb⟩
      have X1 := Lib.hid (X1.out.below hb)
      have I1 := Lib.hid (I1.out.below hb)
      have X2 := Lib.hid (X2.out.below hb)
      have I2 := Lib.hid (I2.out.below hb)
      have HT := Lib.hid (HT.out.below hb)
      have HB := Lib.hid (bcall HB.out hb)
      clear hb
      go_wp2_with (first | (refine st_yes (v := .agg (M.cells n1)) (by rfl) rfl (run_loadM (x := .tmp 5) rfl rfl X1.out) ?_) | (refine st_yes (v := .agg (M.cells n2)) (by rfl) rfl (run_loadM (x := .tmp 11) rfl rfl X2.out) ?_))
      refine (PS.out _ I1.out I2.out).mono ?_
      rintro r' w14 ⟨rfl, hb⟩
      have HB := Lib.hid (bcall HB.out hb)
      clear hb
      go_wp2
      go_ret
      exact ⟨rfl, HB.out⟩
    have hlen : (d.data.toList.set 5 x5).length = d.size := (Nz.five d x5).len
    have P2 := Lib.hid (PG.out _ hlen)
    rw [NB.out (d.data.toList.set 5 x5) (Nz.five d x5), HQQ.out] at P2
    have HLn := Lib.hid hlen
    clear hlen
    have y1b := bt_nn d 1
    have y1c := bt_lt d 1
    clear gx hk hkb hr hn hc NA NB PG HQQ hl
    generalize bt d 0 = y0 at *
    generalize bt d 1 = y1 at *
    have hn1 : 0 < (n : Int) := by omega
    have hln := hb0 h3
    have e3 : (y0 == 3) = false := by simpa using h3
    clear hb3 hb0
    go_enter Tryd.func7, Tryd.ntmps7
    go_upto_region 1 with fail
    change Code.wp _ _ _ _ ((w.alloc (.cells (cellsT (a, (d, 10))) 35)).alloc (.cells #[.int .u8 (k0 : Int), .int .u8 (k1 : Int)] 51))
    have bel := balloc (balloc (Below.refl _ w) (.cells (cellsT (a, (d, 10))) 35)) (.cells #[.int .u8 (k0 : Int), .int .u8 (k1 : Int)] 51)
    have N0 := Bk.Bk.new 51 (w.alloc (.cells (cellsT (a, (d, 10))) 35)) #[.int .u8 (k0 : Int), .int .u8 (k1 : Int)]
    rw [Bk.alloc_size] at N0
    have N0 := Lib.hid N0
    have T0 := Lib.hid ((Bk.Bk.new 35 w (cellsT (a, (d, 10)))).old (.cells #[.int .u8 (k0 : Int), .int .u8 (k1 : Int)] 51))
    have HT := Lib.hid (HT0.out.below bel)
    have HB := Lib.hid bel
    clear bel
    generalize (w.alloc (.cells (cellsT (a, (d, 10))) 35)).alloc (.cells #[.int .u8 (k0 : Int), .int .u8 (k1 : Int)] 51) = V at *
    have q0 := T0.out.cell 0 (.int .i64 10) rfl
    have q2 := T0.out.cell 2 (.string d) rfl
    go_wp2_with (first | (refine Bk.wpList_loadK (b := w.heap.size) Tl.shT rfl _ rfl rfl T0.out rfl ?_))
    refine (P1.out _ HT.out).mono ?_
    intro r w1 hr
    obtain ⟨n1, rfl, hi, hp, hb⟩ := hr.at HL.out.1 HL.out.2
    have T0 := Lib.hid (T0.out.below hb)
    have N0 := Lib.hid (N0.out.below hb)
    have HT := Lib.hid (HT.out.below hb)
    have HB := Lib.hid (bcall HB.out hb)
    clear hr
    go_upto_region 4 with (refine wpList_storeM (b := w1.heap.size) (m := M.zero) (m' := n1) rfl _ _ rfl rfl rfl (Bx.new w1 M.zero) ?_)
    change Code.wp _ _ _ _ ((w1.alloc (.cells M.zero.cells 25)).setRow w1.heap.size n1.cells)
    rw [World.setRow_alloc_new]
    have bel := balloc (Below.refl w1.heap.size w1) (.cells n1.cells 25)
    have T0 := Lib.hid (T0.out.below bel)
    have N0 := Lib.hid (N0.out.below bel)
    clear q0 q2
    have I1 := Lib.hid (hi.below bel)
    have HT := Lib.hid (HT.out.below bel)
    have HB := Lib.hid (bcall HB.out bel)
    have X1 := Lib.hid (Bx.new w1 n1)
    have H1 := Lib.hid hp
    clear hi hp hb bel
    generalize w1.alloc (.cells n1.cells 25) = V1 at *
    generalize w1.heap.size = g1 at *
    obtain ⟨k5, k7⟩ := HKq.out n1 H1.out
    have K5 := Lib.hid k5
    have K7 := Lib.hid k7
    clear k5 k7 HKq
    have CV := run_bytes_of_string (P := Tryd.prog) V1 9 52 5 d Tryd.underlying9 Tryd.underlying52 Tryd.underlying5
    have HNV := Lib.hid (rw_new V1 d d.data.toList rfl (grownCap V1 d.size 0 5) (bytesRow d (grownCap V1 d.size 0 5)).size (by unfold bytesRow; simp))
    have q2 := T0.out.cell 2 (.string d) rfl
    go_upto_region 7 with (first | (refine st_made (by rfl) rfl (ex_bytes (x := .tmp 39) rfl rfl CV) ?_))
    change Code.wp _ _ _ _ (V1.drew.alloc (.cells (bytesRow d (grownCap V1 d.size 0 5)) 5 ((bytesRow d (grownCap V1 d.size 0 5)).size, (bytesRow d (grownCap V1 d.size 0 5)).size + 1)))
    generalize hcap : grownCap V1 d.size 0 5 = cap at *
    clear CV hcap q2
    have BL := Lib.hid ((Below.refl V1.heap.size V1).drew.alloc (Nat.le_refl _) (.cells (bytesRow d cap) 5 ((bytesRow d cap).size, (bytesRow d cap).size + 1)))
    have FT := Lib.hid (fun W' (h : Below V1.heap.size V1 W') => T0.out.below h)
    have FNo := Lib.hid (fun W' (h : Below V1.heap.size V1 W') => N0.out.below h)
    have FX := Lib.hid (fun W' (h : Below V1.heap.size V1 W') => X1.out.below h)
    have FI := Lib.hid (fun W' (h : Below V1.heap.size V1 W') => I1.out.below h)
    have FTb := Lib.hid (fun W' (h : Below V1.heap.size V1 W') => HT.out.below h)
    have FB := Lib.hid (fun W' (h : Below V1.heap.size V1 W') => bcall HB.out h)
    clear T0 N0 X1 I1 HT HB
    generalize V1.drew.alloc (.cells (bytesRow d cap) 5 ((bytesRow d cap).size, (bytesRow d cap).size + 1)) = W2 at *
    generalize V1.heap.size = g at *
    have HN := HNV
    clear HNV
    have q0 := (FT.out _ BL.out).cell 0 (.int .i64 10) rfl
    go_upto_region 10 with fail
    clear q0
    refine wp_region_held_drew (S := fun W => Below g V1 W) (by kernel_rfl) BL.out.drew (fun hS => ?_)
    have BL := Lib.hid BL.out.drew
    have HN := Lib.hid HN.out.drew
    generalize W2.drew = X0 at *
    refine H.tk (i := 0) (v := ?v0x1t4f) ?h0x1t4f hS ?_
    case h0x1t4f => (intro w hw; go_simp; first | done | (with_reducible rfl))
    try simp only [Act.put, List.setIfInBounds_toArray, List.set_cons_zero, List.set_cons_succ]
    refine H.tk (i := 1) (v := ?v1x2t4f) ?h1x2t4f hS ?_
    case h1x2t4f => (intro w hw; go_simp; first | done | (with_reducible rfl))
    try simp only [Act.put, List.setIfInBounds_toArray, List.set_cons_zero, List.set_cons_succ]
    refine H.tk (i := 2) (v := .pointer (some ⟨g, 5, none⟩)) ?h2x3t4f hS ?_
    case h2x3t4f => exact (fun w hw => by go_simp; intro e; omega)
    try simp only [Act.put, List.setIfInBounds_toArray, List.set_cons_zero, List.set_cons_succ]
    refine H.tk (i := 4) (v := .pointer (some ⟨w.heap.size + 1, 0, none⟩)) ?h4x4t4f hS ?_
    case h4x4t4f => exact (fun w hw => by go_simp)
    try simp only [Act.put, List.setIfInBounds_toArray, List.set_cons_zero, List.set_cons_succ]
    refine H.tk (i := 5) (v := .int .u8 (k0 : Int)) ?h5x5t4f hS ?_
    case h5x5t4f => exact (fun w hw => by have c := (FNo.out _ hw).cell 0 (.int .u8 (k0 : Int)) rfl; go_simp)
    try simp only [Act.put, List.setIfInBounds_toArray, List.set_cons_zero, List.set_cons_succ]
    refine H.one (i := 3) (by simp only [List.getElem?_toArray, List.getElem?_cons_succ, List.getElem?_cons_zero]; rfl) (by kernel_rfl) (by kernel_rfl) (fun K hK => ?_)
    refine wp_valW (d := 47) rfl (ex_load (T := 5) rfl (agg_u8 _) rfl (HN.out.at 5 c5 H5.out)) ?_
    refine hK.out _ _ hS ?_
    clear hK K
    try simp only [Act.put, List.setIfInBounds_toArray, List.set_cons_zero, List.set_cons_succ]
    refine H.tk (i := 6) (v := .int .u8 (x5.toNat : Int)) ?h6x6t4f hS ?_
    case h6x6t4f => exact (fun w hw => by go_simp; rw [HX5.out])
    try simp only [Act.put, List.setIfInBounds_toArray, List.set_cons_zero, List.set_cons_succ]
    refine H.tk (i := 7) (v := .pointer (some ⟨g, 5, none⟩)) ?h7x7t4f hS ?_
    case h7x7t4f => exact (fun w hw => by go_simp; intro e; omega)
    try simp only [Act.put, List.setIfInBounds_toArray, List.set_cons_zero, List.set_cons_succ]
    refine H.one (i := 8) (by simp only [List.getElem?_toArray, List.getElem?_cons_succ, List.getElem?_cons_zero]; rfl) (by kernel_rfl) (by kernel_rfl) (fun K hK => ?_)
    have cx := HN.out.at 5 c5 H5.out
    have fx := HN.out.froz 5 (List.getElem?_eq_some_iff.1 H5.out).1
    go_simp
    have HN := Lib.hid (HN.out.set 5 x5 (List.getElem?_eq_some_iff.1 H5.out).1)
    have BL := Lib.hid (BL.out.setCell (p := ⟨g, 5, none⟩) (Nat.le_refl _) (.int .u8 (x5.toNat : Int)))
    refine hK.out _ _ BL.out ?_
    clear hK K hS cx fx
    have hS := BL.out
    generalize World.setCell _ ⟨g, 5, none⟩ _ = W3 at *
    try simp only [Act.put, List.setIfInBounds_toArray, List.set_cons_zero, List.set_cons_succ]
    refine wpAnyH_done (by kernel_rfl) ?_ _
    clear hS
    have c7 := (FX.out _ BL.out).cs.c7
    have c5m := (FX.out _ BL.out).cs.c5
    rw [K7.out] at c7
    rw [K5.out] at c5m
    go_upto_region 16 with fail
    clear c7 c5m
    have T0 := Lib.hid (FT.out _ BL.out)
    have X1 := Lib.hid (FX.out _ BL.out)
    have I1 := Lib.hid (FI.out _ BL.out)
    have HT := Lib.hid (FTb.out _ BL.out)
    have HB := Lib.hid (FB.out _ BL.out)
    have q0 := T0.out.cell 0 (.int .i64 10) rfl
    have q1 := T0.out.cell 1 (.int .i64 a) rfl
    have cv := run_convert_bytes_back W3 52 9 5 ⟨g, 0, none⟩ cap (d.data.toList.set 5 x5) Tryd.underlying52 Tryd.underlying5 Tryd.underlying9 (fun j hj => by rw [Sx.add_at, Nat.zero_add]; exact HN.out.cell j hj)
    rw [HLn.out] at cv
    generalize (⟨(d.data.toList.set 5 x5).toArray⟩ : ByteArray) = d2 at *
    clear HN BL FT FNo FX FI FTb FB
    go_wp2_with fail
    refine (P2.out _ HT.out).mono ?_
    intro r w12 hr
    obtain ⟨n2, rfl, hi, hp, hb⟩ := hr.at HL.out.1 HL.out.2
    have X1 := Lib.hid (X1.out.below hb)
    have I1 := Lib.hid (I1.out.below hb)
    have HT := Lib.hid (HT.out.below hb)
    have HB := Lib.hid (bcall HB.out hb)
    clear hr
    go_upto_region 17 with (refine wpList_storeM (b := w12.heap.size) (m := M.zero) (m' := n2) rfl _ _ rfl rfl rfl (Bx.new w12 M.zero) ?_)
    change Code.wp _ _ _ _ ((w12.alloc (.cells M.zero.cells 25)).setRow w12.heap.size n2.cells)
    rw [World.setRow_alloc_new]
    have bel := balloc (Below.refl w12.heap.size w12) (.cells n2.cells 25)
    have X1 := Lib.hid (X1.out.below bel)
    have I1 := Lib.hid (I1.out.below bel)
    clear q0 q1 cv T0
    have I2 := Lib.hid (hi.below bel)
    have HT := Lib.hid (HT.out.below bel)
    have HB := Lib.hid (bcall HB.out bel)
    have X2 := Lib.hid (Bx.new w12 n2)
    have H2 := Lib.hid hp
    clear hi hp hb bel
    generalize w12.alloc (.cells n2.cells 25) = V2 at *
    generalize w12.heap.size = g2 at *
    have PS := Lib.hid (fun W h h' => RSame.rsame_any n1 n2 W h h')
    rw [H1.out.same H2.out, same_self] at PS
    go_wp2_with fail
    refine (awake_any _ HT.out).mono ?_
    rintro r w13 ⟨rfl, hb⟩
    have X1 := Lib.hid (X1.out.below hb)
    have I1 := Lib.hid (I1.out.below hb)
    have X2 := Lib.hid (X2.out.below hb)
    have I2 := Lib.hid (I2.out.below hb)
    have HT := Lib.hid (HT.out.below hb)
    have HB := Lib.hid (bcall HB.out hb)
    clear hb
    go_wp2_with (first | (refine st_yes (v := .agg (M.cells n1)) (by rfl) rfl (run_loadM (x := .tmp 5) rfl rfl X1.out) ?_) | (refine st_yes (v := .agg (M.cells n2)) (by rfl) rfl (run_loadM (x := .tmp 11) rfl rfl X2.out) ?_))
    refine (PS.out _ I1.out I2.out).mono ?_
    rintro r' w14 ⟨rfl, hb⟩
    have HB := Lib.hid (bcall HB.out hb)
    clear hb
    go_wp2
    go_ret
    exact ⟨rfl, HB.out⟩
  by_cases h3 : bt d 0 = 3
  · obtain ⟨pos, hpos⟩ : ∃ p, p = 14 + n - 1 := ⟨_, rfl⟩
    obtain ⟨cP, hcP⟩ : ∃ c, (d.data.toList.set 5 x5)[pos]? = some c := ⟨_, List.getElem?_eq_getElem (by rw [(Nz.five d x5).len]; omega)⟩
    obtain ⟨ha1, ha2⟩ := and_high k1 r hk1 (by omega) (by omega)
    obtain ⟨xP, hxP, hxv⟩ := xor_byte cP (k1 &&& (255 / 2 ^ r)) (Nat.lt_of_lt_of_le ha2 (by exact Nat.pow_le_pow_right (n := 2) (by decide) (show 8 - r ≤ 8 by omega)))
    have hlen : ((d.data.toList.set 5 x5).set pos xP).length = d.size := by rw [List.length_set, (Nz.five d x5).len]
    have P2 := Lib.hid (PG.out _ hlen)
    rw [NA.out (d.data.toList.set 5 x5) xP cP _ pos (Nz.five d x5) (by omega) (by omega) (by rw [szt]; exact hpos) hcP hxv ha2, HQQ.out] at P2
    have HPW := Lib.hid (show IntKind.i64.wrap (14 + (n : Int) - 1) = (pos : Int) by rw [IntWalk.i64_in _ ⟨by omega, by omega⟩]; omega)
    have HA := Lib.hid ha1
    have HXP := Lib.hid hxP
    have HP := Lib.hid hcP
    have HLn := Lib.hid hlen
    have hpd : pos < d.size := by omega
    have HS := Lib.hid (show (255 : Int) / 2 ^ min (IntKind.u64.wrap (r : Int)).toNat 8 = ((255 / 2 ^ r : Nat) : Int) from by
      rw [show IntKind.u64.wrap (r : Int) = (r : Int) from by show (r : Int) % 18446744073709551616 = r; omega, Int.toNat_natCast, Nat.min_eq_left (by omega)]
      exact shr_high r)
    have HW2 := Lib.hid (show IntKind.i64.wrap (14 + (n : Int)) = 14 + (n : Int) from IntWalk.i64_in _ ⟨by omega, by omega⟩)
    have HRT := Lib.hid (show (bt d 1).tmod 8 = (r : Int) by rw [Int.tmod_eq_emod_of_nonneg (bt_nn d 1)]; exact hrem)
    clear ha1 ha2 hxP hxv hcP hlen hpos
    generalize k1 &&& (255 / 2 ^ r) = ya at *
    generalize 255 / 2 ^ r = hv at *
    have y1b := bt_nn d 1
    have y1c := bt_lt d 1
    clear gx hk hkb hr hn hc NA NB PG HQQ hl
    generalize bt d 0 = y0 at *
    generalize bt d 1 = y1 at *
    have hn1 : 0 < (n : Int) := by omega
    have hr1 : ¬ (r : Int) = 0 := by omega
    have er1 : ((r : Int) == 0) = false := by simpa using hr1
    have er2 : ((r : Int) != 0) = true := by rw [bne, er1]; rfl
    have hr8 : (r : Int) ≤ 8 := by omega
    have hsi : 14 + (n : Int) ≤ (d.size : Int) := by omega
    have hln := hb3 h3
    clear hb3 hb0
    subst h3
    go_enter Tryd.func7, Tryd.ntmps7
    go_upto_region 1 with fail
    change Code.wp _ _ _ _ ((w.alloc (.cells (cellsT (a, (d, 10))) 35)).alloc (.cells #[.int .u8 (k0 : Int), .int .u8 (k1 : Int)] 51))
    have bel := balloc (balloc (Below.refl _ w) (.cells (cellsT (a, (d, 10))) 35)) (.cells #[.int .u8 (k0 : Int), .int .u8 (k1 : Int)] 51)
    have N0 := Bk.Bk.new 51 (w.alloc (.cells (cellsT (a, (d, 10))) 35)) #[.int .u8 (k0 : Int), .int .u8 (k1 : Int)]
    rw [Bk.alloc_size] at N0
    have N0 := Lib.hid N0
    have T0 := Lib.hid ((Bk.Bk.new 35 w (cellsT (a, (d, 10)))).old (.cells #[.int .u8 (k0 : Int), .int .u8 (k1 : Int)] 51))
    have HT := Lib.hid (HT0.out.below bel)
    have HB := Lib.hid bel
    clear bel
    generalize (w.alloc (.cells (cellsT (a, (d, 10))) 35)).alloc (.cells #[.int .u8 (k0 : Int), .int .u8 (k1 : Int)] 51) = V at *
    have q0 := T0.out.cell 0 (.int .i64 10) rfl
    have q2 := T0.out.cell 2 (.string d) rfl
    go_wp2_with (first | (refine Bk.wpList_loadK (b := w.heap.size) Tl.shT rfl _ rfl rfl T0.out rfl ?_))
    refine (P1.out _ HT.out).mono ?_
    intro r w1 hr
    obtain ⟨n1, rfl, hi, hp, hb⟩ := hr.at HL.out.1 HL.out.2
    have T0 := Lib.hid (T0.out.below hb)
    have N0 := Lib.hid (N0.out.below hb)
    have HT := Lib.hid (HT.out.below hb)
    have HB := Lib.hid (bcall HB.out hb)
    clear hr
    go_upto_region 4 with (refine wpList_storeM (b := w1.heap.size) (m := M.zero) (m' := n1) rfl _ _ rfl rfl rfl (Bx.new w1 M.zero) ?_)
    change Code.wp _ _ _ _ ((w1.alloc (.cells M.zero.cells 25)).setRow w1.heap.size n1.cells)
    rw [World.setRow_alloc_new]
    have bel := balloc (Below.refl w1.heap.size w1) (.cells n1.cells 25)
    have T0 := Lib.hid (T0.out.below bel)
    have N0 := Lib.hid (N0.out.below bel)
    clear q0 q2
    have I1 := Lib.hid (hi.below bel)
    have HT := Lib.hid (HT.out.below bel)
    have HB := Lib.hid (bcall HB.out bel)
    have X1 := Lib.hid (Bx.new w1 n1)
    have H1 := Lib.hid hp
    clear hi hp hb bel
    generalize w1.alloc (.cells n1.cells 25) = V1 at *
    generalize w1.heap.size = g1 at *
    obtain ⟨k5, k7⟩ := HKq.out n1 H1.out
    have K5 := Lib.hid k5
    have K7 := Lib.hid k7
    clear k5 k7 HKq
    have CV := run_bytes_of_string (P := Tryd.prog) V1 9 52 5 d Tryd.underlying9 Tryd.underlying52 Tryd.underlying5
    have HNV := Lib.hid (rw_new V1 d d.data.toList rfl (grownCap V1 d.size 0 5) (bytesRow d (grownCap V1 d.size 0 5)).size (by unfold bytesRow; simp))
    have q2 := T0.out.cell 2 (.string d) rfl
    go_upto_region 7 with (first | (refine st_made (by rfl) rfl (ex_bytes (x := .tmp 39) rfl rfl CV) ?_))
    change Code.wp _ _ _ _ (V1.drew.alloc (.cells (bytesRow d (grownCap V1 d.size 0 5)) 5 ((bytesRow d (grownCap V1 d.size 0 5)).size, (bytesRow d (grownCap V1 d.size 0 5)).size + 1)))
    generalize hcap : grownCap V1 d.size 0 5 = cap at *
    clear CV hcap q2
    have BL := Lib.hid ((Below.refl V1.heap.size V1).drew.alloc (Nat.le_refl _) (.cells (bytesRow d cap) 5 ((bytesRow d cap).size, (bytesRow d cap).size + 1)))
    have FT := Lib.hid (fun W' (h : Below V1.heap.size V1 W') => T0.out.below h)
    have FNo := Lib.hid (fun W' (h : Below V1.heap.size V1 W') => N0.out.below h)
    have FX := Lib.hid (fun W' (h : Below V1.heap.size V1 W') => X1.out.below h)
    have FI := Lib.hid (fun W' (h : Below V1.heap.size V1 W') => I1.out.below h)
    have FTb := Lib.hid (fun W' (h : Below V1.heap.size V1 W') => HT.out.below h)
    have FB := Lib.hid (fun W' (h : Below V1.heap.size V1 W') => bcall HB.out h)
    clear T0 N0 X1 I1 HT HB
    generalize V1.drew.alloc (.cells (bytesRow d cap) 5 ((bytesRow d cap).size, (bytesRow d cap).size + 1)) = W2 at *
    generalize V1.heap.size = g at *
    have HN := HNV
    clear HNV
    have q0 := (FT.out _ BL.out).cell 0 (.int .i64 10) rfl
    go_upto_region 10 with fail
    clear q0
    refine wp_region_held_drew (S := fun W => Below g V1 W) (by kernel_rfl) BL.out.drew (fun hS => ?_)
    have BL := Lib.hid BL.out.drew
    have HN := Lib.hid HN.out.drew
    generalize W2.drew = X0 at *
    refine H.tk (i := 0) (v := ?v0x1t5f) ?h0x1t5f hS ?_
    case h0x1t5f => (intro w hw; go_simp; first | done | (with_reducible rfl))
    try simp only [Act.put, List.setIfInBounds_toArray, List.set_cons_zero, List.set_cons_succ]
    refine H.tk (i := 1) (v := ?v1x2t5f) ?h1x2t5f hS ?_
    case h1x2t5f => (intro w hw; go_simp; first | done | (with_reducible rfl))
    try simp only [Act.put, List.setIfInBounds_toArray, List.set_cons_zero, List.set_cons_succ]
    refine H.tk (i := 2) (v := .pointer (some ⟨g, 5, none⟩)) ?h2x3t5f hS ?_
    case h2x3t5f => exact (fun w hw => by go_simp; intro e; omega)
    try simp only [Act.put, List.setIfInBounds_toArray, List.set_cons_zero, List.set_cons_succ]
    refine H.tk (i := 4) (v := .pointer (some ⟨w.heap.size + 1, 0, none⟩)) ?h4x4t5f hS ?_
    case h4x4t5f => exact (fun w hw => by go_simp)
    try simp only [Act.put, List.setIfInBounds_toArray, List.set_cons_zero, List.set_cons_succ]
    refine H.tk (i := 5) (v := .int .u8 (k0 : Int)) ?h5x5t5f hS ?_
    case h5x5t5f => exact (fun w hw => by have c := (FNo.out _ hw).cell 0 (.int .u8 (k0 : Int)) rfl; go_simp)
    try simp only [Act.put, List.setIfInBounds_toArray, List.set_cons_zero, List.set_cons_succ]
    refine H.one (i := 3) (by simp only [List.getElem?_toArray, List.getElem?_cons_succ, List.getElem?_cons_zero]; rfl) (by kernel_rfl) (by kernel_rfl) (fun K hK => ?_)
    refine wp_valW (d := 47) rfl (ex_load (T := 5) rfl (agg_u8 _) rfl (HN.out.at 5 c5 H5.out)) ?_
    refine hK.out _ _ hS ?_
    clear hK K
    try simp only [Act.put, List.setIfInBounds_toArray, List.set_cons_zero, List.set_cons_succ]
    refine H.tk (i := 6) (v := .int .u8 (x5.toNat : Int)) ?h6x6t5f hS ?_
    case h6x6t5f => exact (fun w hw => by go_simp; rw [HX5.out])
    try simp only [Act.put, List.setIfInBounds_toArray, List.set_cons_zero, List.set_cons_succ]
    refine H.tk (i := 7) (v := .pointer (some ⟨g, 5, none⟩)) ?h7x7t5f hS ?_
    case h7x7t5f => exact (fun w hw => by go_simp; intro e; omega)
    try simp only [Act.put, List.setIfInBounds_toArray, List.set_cons_zero, List.set_cons_succ]
    refine H.one (i := 8) (by simp only [List.getElem?_toArray, List.getElem?_cons_succ, List.getElem?_cons_zero]; rfl) (by kernel_rfl) (by kernel_rfl) (fun K hK => ?_)
    have cx := HN.out.at 5 c5 H5.out
    have fx := HN.out.froz 5 (List.getElem?_eq_some_iff.1 H5.out).1
    go_simp
    have HN := Lib.hid (HN.out.set 5 x5 (List.getElem?_eq_some_iff.1 H5.out).1)
    have BL := Lib.hid (BL.out.setCell (p := ⟨g, 5, none⟩) (Nat.le_refl _) (.int .u8 (x5.toNat : Int)))
    refine hK.out _ _ BL.out ?_
    clear hK K hS cx fx
    have hS := BL.out
    generalize World.setCell _ ⟨g, 5, none⟩ _ = W3 at *
    try simp only [Act.put, List.setIfInBounds_toArray, List.set_cons_zero, List.set_cons_succ]
    refine wpAnyH_done (by kernel_rfl) ?_ _
    clear hS
    have c7 := (FX.out _ BL.out).cs.c7
    have c5m := (FX.out _ BL.out).cs.c5
    rw [K7.out] at c7
    rw [K5.out] at c5m
    go_upto_region 15 with fail
    clear c7 c5m
    refine wp_region_held_drew (S := fun W => Below g V1 W) (by kernel_rfl) BL.out.drew (fun hS => ?_)
    have BL := Lib.hid BL.out.drew
    have HN := Lib.hid HN.out.drew
    generalize W3.drew = X0 at *
    refine H.tk (i := 0) (v := ?v0x1t5p) ?h0x1t5p hS ?_
    case h0x1t5p => (intro w hw; go_simp; first | done | (with_reducible rfl))
    try simp only [Act.put, List.setIfInBounds_toArray, List.set_cons_zero, List.set_cons_succ]
    refine H.tk (i := 1) (v := ?v1x2t5p) ?h1x2t5p hS ?_
    case h1x2t5p => (intro w hw; go_simp; first | done | (with_reducible rfl))
    try simp only [Act.put, List.setIfInBounds_toArray, List.set_cons_zero, List.set_cons_succ]
    refine H.tk (i := 2) (v := ?v2x3t5p) ?h2x3t5p hS ?_
    case h2x3t5p => (intro w hw; go_simp; first | done | (with_reducible rfl))
    try simp only [Act.put, List.setIfInBounds_toArray, List.set_cons_zero, List.set_cons_succ]
    refine H.tk (i := 3) (v := .int .i64 (14 + (n : Int))) ?h3x4t5p hS ?_
    case h3x4t5p => exact (fun w hw => by go_simp; rw [HW2.out])
    try simp only [Act.put, List.setIfInBounds_toArray, List.set_cons_zero, List.set_cons_succ]
    refine H.tk (i := 4) (v := .int .i64 (pos : Int)) ?h4x5t5p hS ?_
    case h4x5t5p => exact (fun w hw => by go_simp; rw [HPW.out])
    try simp only [Act.put, List.setIfInBounds_toArray, List.set_cons_zero, List.set_cons_succ]
    refine H.tk (i := 5) (v := ?v5x6t5p) ?h5x6t5p hS ?_
    case h5x6t5p => (intro w hw; go_simp; first | done | (with_reducible rfl))
    try simp only [Act.put, List.setIfInBounds_toArray, List.set_cons_zero, List.set_cons_succ]
    refine H.tk (i := 6) (v := ?v6x7t5p) ?h6x7t5p hS ?_
    case h6x7t5p => (intro w hw; go_simp; first | done | (with_reducible rfl))
    try simp only [Act.put, List.setIfInBounds_toArray, List.set_cons_zero, List.set_cons_succ]
    refine H.tk (i := 7) (v := ?v7x8t5p) ?h7x8t5p hS ?_
    case h7x8t5p => (intro w hw; go_simp; first | done | (with_reducible rfl))
    try simp only [Act.put, List.setIfInBounds_toArray, List.set_cons_zero, List.set_cons_succ]
    refine H.tk (i := 8) (v := .int .i64 (14 + (n : Int))) ?h8x9t5p hS ?_
    case h8x9t5p => exact (fun w hw => by go_simp; rw [HW2.out])
    try simp only [Act.put, List.setIfInBounds_toArray, List.set_cons_zero, List.set_cons_succ]
    refine H.tk (i := 9) (v := .int .i64 (pos : Int)) ?h9x10t5p hS ?_
    case h9x10t5p => exact (fun w hw => by go_simp; rw [HPW.out])
    try simp only [Act.put, List.setIfInBounds_toArray, List.set_cons_zero, List.set_cons_succ]
    refine H.tk (i := 10) (v := .pointer (some ⟨g, pos, none⟩)) ?h10x11t5p hS ?_
    case h10x11t5p => exact (fun w hw => by have := indexB g d.size cap pos (by omega) w; go_simp)
    try simp only [Act.put, List.setIfInBounds_toArray, List.set_cons_zero, List.set_cons_succ]
    refine H.tk (i := 12) (v := .pointer (some ⟨w.heap.size + 1, 1, none⟩)) ?h12x12t5p hS ?_
    case h12x12t5p => exact (fun w hw => by go_simp)
    try simp only [Act.put, List.setIfInBounds_toArray, List.set_cons_zero, List.set_cons_succ]
    refine H.tk (i := 13) (v := .int .u8 (k1 : Int)) ?h13x13t5p hS ?_
    case h13x13t5p => exact (fun w hw => by have c := (FNo.out _ hw).cell 1 (.int .u8 (k1 : Int)) rfl; go_simp)
    try simp only [Act.put, List.setIfInBounds_toArray, List.set_cons_zero, List.set_cons_succ]
    refine H.tk (i := 14) (v := ?v14x14t5p) ?h14x14t5p hS ?_
    case h14x14t5p => (intro w hw; go_simp; first | done | (with_reducible rfl))
    try simp only [Act.put, List.setIfInBounds_toArray, List.set_cons_zero, List.set_cons_succ]
    refine H.tk (i := 15) (v := .int .i64 y1) ?h15x15t5p hS ?_
    case h15x15t5p => exact (fun w hw => by have c := (FX.out _ hw).cs.c7; rw [K7.out] at c; go_simp)
    try simp only [Act.put, List.setIfInBounds_toArray, List.set_cons_zero, List.set_cons_succ]
    refine H.tk (i := 16) (v := .int .i64 (r : Int)) ?h16x16t5p hS ?_
    case h16x16t5p => exact (fun w hw => by go_simp; try rw [HRT.out])
    try simp only [Act.put, List.setIfInBounds_toArray, List.set_cons_zero, List.set_cons_succ]
    refine H.tk (i := 17) (v := ?v17x17t5p) ?h17x17t5p hS ?_
    case h17x17t5p => (intro w hw; go_simp; first | done | (with_reducible rfl))
    try simp only [Act.put, List.setIfInBounds_toArray, List.set_cons_zero, List.set_cons_succ]
    refine H.tk (i := 18) (v := .int .u8 (hv : Int)) ?h18x18t5p hS ?_
    case h18x18t5p => exact (fun w hw => by go_simp; rw [HS.out])
    try simp only [Act.put, List.setIfInBounds_toArray, List.set_cons_zero, List.set_cons_succ]
    refine H.tk (i := 19) (v := .int .u8 (ya : Int)) ?h19x19t5p hS ?_
    case h19x19t5p => exact (fun w hw => by go_simp; rw [HA.out])
    try simp only [Act.put, List.setIfInBounds_toArray, List.set_cons_zero, List.set_cons_succ]
    refine H.one (i := 11) (by simp only [List.getElem?_toArray, List.getElem?_cons_succ, List.getElem?_cons_zero]; rfl) (by kernel_rfl) (by kernel_rfl) (fun K hK => ?_)
    refine wp_valW (d := 88) rfl (ex_load (T := 5) rfl (agg_u8 _) rfl (HN.out.at pos cP HP.out)) ?_
    refine hK.out _ _ hS ?_
    clear hK K
    try simp only [Act.put, List.setIfInBounds_toArray, List.set_cons_zero, List.set_cons_succ]
    refine H.tk (i := 20) (v := .int .u8 (xP.toNat : Int)) ?h20x20t5p hS ?_
    case h20x20t5p => exact (fun w hw => by go_simp; rw [HXP.out])
    try simp only [Act.put, List.setIfInBounds_toArray, List.set_cons_zero, List.set_cons_succ]
    refine H.tk (i := 21) (v := .pointer (some ⟨g, pos, none⟩)) ?h21x21t5p hS ?_
    case h21x21t5p => exact (fun w hw => by have := indexB g d.size cap pos (by omega) w; go_simp)
    try simp only [Act.put, List.setIfInBounds_toArray, List.set_cons_zero, List.set_cons_succ]
    refine H.one (i := 22) (by simp only [List.getElem?_toArray, List.getElem?_cons_succ, List.getElem?_cons_zero]; rfl) (by kernel_rfl) (by kernel_rfl) (fun K hK => ?_)
    have cx := HN.out.at pos cP HP.out
    have fx := HN.out.froz pos (List.getElem?_eq_some_iff.1 HP.out).1
    go_simp
    have HN := Lib.hid (HN.out.set pos xP (List.getElem?_eq_some_iff.1 HP.out).1)
    have BL := Lib.hid (BL.out.setCell (p := ⟨g, pos, none⟩) (Nat.le_refl _) (.int .u8 (xP.toNat : Int)))
    refine hK.out _ _ BL.out ?_
    clear hK K hS cx fx
    have hS := BL.out
    generalize World.setCell _ ⟨g, pos, none⟩ _ = W4 at *
    try simp only [Act.put, List.setIfInBounds_toArray, List.set_cons_zero, List.set_cons_succ]
    refine wpAnyH_done (by kernel_rfl) ?_ _
    clear hS
    have T0 := Lib.hid (FT.out _ BL.out)
    have X1 := Lib.hid (FX.out _ BL.out)
    have I1 := Lib.hid (FI.out _ BL.out)
    have HT := Lib.hid (FTb.out _ BL.out)
    have HB := Lib.hid (FB.out _ BL.out)
    have q0 := T0.out.cell 0 (.int .i64 10) rfl
    have q1 := T0.out.cell 1 (.int .i64 a) rfl
    have cv := run_convert_bytes_back W4 52 9 5 ⟨g, 0, none⟩ cap ((d.data.toList.set 5 x5).set pos xP) Tryd.underlying52 Tryd.underlying5 Tryd.underlying9 (fun j hj => by rw [Sx.add_at, Nat.zero_add]; exact HN.out.cell j hj)
    rw [HLn.out] at cv
    generalize (⟨((d.data.toList.set 5 x5).set pos xP).toArray⟩ : ByteArray) = d2 at *
    clear HN BL FT FNo FX FI FTb FB
    go_wp2_with fail
    refine (P2.out _ HT.out).mono ?_
    intro r w12 hr
    obtain ⟨n2, rfl, hi, hp, hb⟩ := hr.at HL.out.1 HL.out.2
    have X1 := Lib.hid (X1.out.below hb)
    have I1 := Lib.hid (I1.out.below hb)
    have HT := Lib.hid (HT.out.below hb)
    have HB := Lib.hid (bcall HB.out hb)
    clear hr
    go_upto_region 17 with (refine wpList_storeM (b := w12.heap.size) (m := M.zero) (m' := n2) rfl _ _ rfl rfl rfl (Bx.new w12 M.zero) ?_)
    change Code.wp _ _ _ _ ((w12.alloc (.cells M.zero.cells 25)).setRow w12.heap.size n2.cells)
    rw [World.setRow_alloc_new]
    have bel := balloc (Below.refl w12.heap.size w12) (.cells n2.cells 25)
    have X1 := Lib.hid (X1.out.below bel)
    have I1 := Lib.hid (I1.out.below bel)
    clear q0 q1 cv T0
    have I2 := Lib.hid (hi.below bel)
    have HT := Lib.hid (HT.out.below bel)
    have HB := Lib.hid (bcall HB.out bel)
    have X2 := Lib.hid (Bx.new w12 n2)
    have H2 := Lib.hid hp
    clear hi hp hb bel
    generalize w12.alloc (.cells n2.cells 25) = V2 at *
    generalize w12.heap.size = g2 at *
    have PS := Lib.hid (fun W h h' => RSame.rsame_any n1 n2 W h h')
    rw [H1.out.same H2.out, same_self] at PS
    go_wp2_with fail
    refine (awake_any _ HT.out).mono ?_
    rintro r w13 ⟨rfl, hb⟩
    have X1 := Lib.hid (X1.out.below hb)
    have I1 := Lib.hid (I1.out.below hb)
    have X2 := Lib.hid (X2.out.below hb)
    have I2 := Lib.hid (I2.out.below hb)
    have HT := Lib.hid (HT.out.below hb)
    have HB := Lib.hid (bcall HB.out hb)
    clear hb
    go_wp2_with (first | (refine st_yes (v := .agg (M.cells n1)) (by rfl) rfl (run_loadM (x := .tmp 5) rfl rfl X1.out) ?_) | (refine st_yes (v := .agg (M.cells n2)) (by rfl) rfl (run_loadM (x := .tmp 11) rfl rfl X2.out) ?_))
    refine (PS.out _ I1.out I2.out).mono ?_
    rintro r' w14 ⟨rfl, hb⟩
    have HB := Lib.hid (bcall HB.out hb)
    clear hb
    go_wp2
    go_ret
    exact ⟨rfl, HB.out⟩
  obtain ⟨pos, hpos⟩ : ∃ p, p = 14 + n - 1 := ⟨_, rfl⟩
  obtain ⟨cP, hcP⟩ : ∃ c, (d.data.toList.set 5 x5)[pos]? = some c := ⟨_, List.getElem?_eq_getElem (by rw [(Nz.five d x5).len]; omega)⟩
  obtain ⟨ha1, ha2⟩ := and_high k1 r hk1 (by omega) (by omega)
  obtain ⟨xP, hxP, hxv⟩ := xor_byte cP (k1 &&& (255 / 2 ^ r)) (Nat.lt_of_lt_of_le ha2 (by exact Nat.pow_le_pow_right (n := 2) (by decide) (show 8 - r ≤ 8 by omega)))
  have hlen : ((d.data.toList.set 5 x5).set pos xP).length = d.size := by rw [List.length_set, (Nz.five d x5).len]
  have P2 := Lib.hid (PG.out _ hlen)
  rw [NA.out (d.data.toList.set 5 x5) xP cP _ pos (Nz.five d x5) (by omega) (by omega) (by rw [szt]; exact hpos) hcP hxv ha2, HQQ.out] at P2
  have HPW := Lib.hid (show IntKind.i64.wrap (14 + (n : Int) - 1) = (pos : Int) by rw [IntWalk.i64_in _ ⟨by omega, by omega⟩]; omega)
  have HA := Lib.hid ha1
  have HXP := Lib.hid hxP
  have HP := Lib.hid hcP
  have HLn := Lib.hid hlen
  have hpd : pos < d.size := by omega
  have HS := Lib.hid (show (255 : Int) / 2 ^ min (IntKind.u64.wrap (r : Int)).toNat 8 = ((255 / 2 ^ r : Nat) : Int) from by
    rw [show IntKind.u64.wrap (r : Int) = (r : Int) from by show (r : Int) % 18446744073709551616 = r; omega, Int.toNat_natCast, Nat.min_eq_left (by omega)]
    exact shr_high r)
  have HW2 := Lib.hid (show IntKind.i64.wrap (14 + (n : Int)) = 14 + (n : Int) from IntWalk.i64_in _ ⟨by omega, by omega⟩)
  have HRT := Lib.hid (show (bt d 1).tmod 8 = (r : Int) by rw [Int.tmod_eq_emod_of_nonneg (bt_nn d 1)]; exact hrem)
  clear ha1 ha2 hxP hxv hcP hlen hpos
  generalize k1 &&& (255 / 2 ^ r) = ya at *
  generalize 255 / 2 ^ r = hv at *
  have y1b := bt_nn d 1
  have y1c := bt_lt d 1
  clear gx hk hkb hr hn hc NA NB PG HQQ hl
  generalize bt d 0 = y0 at *
  generalize bt d 1 = y1 at *
  have hn1 : 0 < (n : Int) := by omega
  have hr1 : ¬ (r : Int) = 0 := by omega
  have er1 : ((r : Int) == 0) = false := by simpa using hr1
  have er2 : ((r : Int) != 0) = true := by rw [bne, er1]; rfl
  have hr8 : (r : Int) ≤ 8 := by omega
  have hsi : 14 + (n : Int) ≤ (d.size : Int) := by omega
  have hln := hb0 h3
  have e3 : (y0 == 3) = false := by simpa using h3
  clear hb3 hb0
  go_enter Tryd.func7, Tryd.ntmps7
  go_upto_region 1 with fail
  change Code.wp _ _ _ _ ((w.alloc (.cells (cellsT (a, (d, 10))) 35)).alloc (.cells #[.int .u8 (k0 : Int), .int .u8 (k1 : Int)] 51))
  have bel := balloc (balloc (Below.refl _ w) (.cells (cellsT (a, (d, 10))) 35)) (.cells #[.int .u8 (k0 : Int), .int .u8 (k1 : Int)] 51)
  have N0 := Bk.Bk.new 51 (w.alloc (.cells (cellsT (a, (d, 10))) 35)) #[.int .u8 (k0 : Int), .int .u8 (k1 : Int)]
  rw [Bk.alloc_size] at N0
  have N0 := Lib.hid N0
  have T0 := Lib.hid ((Bk.Bk.new 35 w (cellsT (a, (d, 10)))).old (.cells #[.int .u8 (k0 : Int), .int .u8 (k1 : Int)] 51))
  have HT := Lib.hid (HT0.out.below bel)
  have HB := Lib.hid bel
  clear bel
  generalize (w.alloc (.cells (cellsT (a, (d, 10))) 35)).alloc (.cells #[.int .u8 (k0 : Int), .int .u8 (k1 : Int)] 51) = V at *
  have q0 := T0.out.cell 0 (.int .i64 10) rfl
  have q2 := T0.out.cell 2 (.string d) rfl
  go_wp2_with (first | (refine Bk.wpList_loadK (b := w.heap.size) Tl.shT rfl _ rfl rfl T0.out rfl ?_))
  refine (P1.out _ HT.out).mono ?_
  intro r w1 hr
  obtain ⟨n1, rfl, hi, hp, hb⟩ := hr.at HL.out.1 HL.out.2
  have T0 := Lib.hid (T0.out.below hb)
  have N0 := Lib.hid (N0.out.below hb)
  have HT := Lib.hid (HT.out.below hb)
  have HB := Lib.hid (bcall HB.out hb)
  clear hr
  go_upto_region 4 with (refine wpList_storeM (b := w1.heap.size) (m := M.zero) (m' := n1) rfl _ _ rfl rfl rfl (Bx.new w1 M.zero) ?_)
  change Code.wp _ _ _ _ ((w1.alloc (.cells M.zero.cells 25)).setRow w1.heap.size n1.cells)
  rw [World.setRow_alloc_new]
  have bel := balloc (Below.refl w1.heap.size w1) (.cells n1.cells 25)
  have T0 := Lib.hid (T0.out.below bel)
  have N0 := Lib.hid (N0.out.below bel)
  clear q0 q2
  have I1 := Lib.hid (hi.below bel)
  have HT := Lib.hid (HT.out.below bel)
  have HB := Lib.hid (bcall HB.out bel)
  have X1 := Lib.hid (Bx.new w1 n1)
  have H1 := Lib.hid hp
  clear hi hp hb bel
  generalize w1.alloc (.cells n1.cells 25) = V1 at *
  generalize w1.heap.size = g1 at *
  obtain ⟨k5, k7⟩ := HKq.out n1 H1.out
  have K5 := Lib.hid k5
  have K7 := Lib.hid k7
  clear k5 k7 HKq
  have CV := run_bytes_of_string (P := Tryd.prog) V1 9 52 5 d Tryd.underlying9 Tryd.underlying52 Tryd.underlying5
  have HNV := Lib.hid (rw_new V1 d d.data.toList rfl (grownCap V1 d.size 0 5) (bytesRow d (grownCap V1 d.size 0 5)).size (by unfold bytesRow; simp))
  have q2 := T0.out.cell 2 (.string d) rfl
  go_upto_region 7 with (first | (refine st_made (by rfl) rfl (ex_bytes (x := .tmp 39) rfl rfl CV) ?_))
  change Code.wp _ _ _ _ (V1.drew.alloc (.cells (bytesRow d (grownCap V1 d.size 0 5)) 5 ((bytesRow d (grownCap V1 d.size 0 5)).size, (bytesRow d (grownCap V1 d.size 0 5)).size + 1)))
  generalize hcap : grownCap V1 d.size 0 5 = cap at *
  clear CV hcap q2
  have BL := Lib.hid ((Below.refl V1.heap.size V1).drew.alloc (Nat.le_refl _) (.cells (bytesRow d cap) 5 ((bytesRow d cap).size, (bytesRow d cap).size + 1)))
  have FT := Lib.hid (fun W' (h : Below V1.heap.size V1 W') => T0.out.below h)
  have FNo := Lib.hid (fun W' (h : Below V1.heap.size V1 W') => N0.out.below h)
  have FX := Lib.hid (fun W' (h : Below V1.heap.size V1 W') => X1.out.below h)
  have FI := Lib.hid (fun W' (h : Below V1.heap.size V1 W') => I1.out.below h)
  have FTb := Lib.hid (fun W' (h : Below V1.heap.size V1 W') => HT.out.below h)
  have FB := Lib.hid (fun W' (h : Below V1.heap.size V1 W') => bcall HB.out h)
  clear T0 N0 X1 I1 HT HB
  generalize V1.drew.alloc (.cells (bytesRow d cap) 5 ((bytesRow d cap).size, (bytesRow d cap).size + 1)) = W2 at *
  generalize V1.heap.size = g at *
  have HN := HNV
  clear HNV
  have q0 := (FT.out _ BL.out).cell 0 (.int .i64 10) rfl
  go_upto_region 10 with fail
  clear q0
  refine wp_region_held_drew (S := fun W => Below g V1 W) (by kernel_rfl) BL.out.drew (fun hS => ?_)
  have BL := Lib.hid BL.out.drew
  have HN := Lib.hid HN.out.drew
  generalize W2.drew = X0 at *
  refine H.tk (i := 0) (v := ?v0x1t6f) ?h0x1t6f hS ?_
  case h0x1t6f => (intro w hw; go_simp; first | done | (with_reducible rfl))
  try simp only [Act.put, List.setIfInBounds_toArray, List.set_cons_zero, List.set_cons_succ]
  refine H.tk (i := 1) (v := ?v1x2t6f) ?h1x2t6f hS ?_
  case h1x2t6f => (intro w hw; go_simp; first | done | (with_reducible rfl))
  try simp only [Act.put, List.setIfInBounds_toArray, List.set_cons_zero, List.set_cons_succ]
  refine H.tk (i := 2) (v := .pointer (some ⟨g, 5, none⟩)) ?h2x3t6f hS ?_
  case h2x3t6f => exact (fun w hw => by go_simp; intro e; omega)
  try simp only [Act.put, List.setIfInBounds_toArray, List.set_cons_zero, List.set_cons_succ]
  refine H.tk (i := 4) (v := .pointer (some ⟨w.heap.size + 1, 0, none⟩)) ?h4x4t6f hS ?_
  case h4x4t6f => exact (fun w hw => by go_simp)
  try simp only [Act.put, List.setIfInBounds_toArray, List.set_cons_zero, List.set_cons_succ]
  refine H.tk (i := 5) (v := .int .u8 (k0 : Int)) ?h5x5t6f hS ?_
  case h5x5t6f => exact (fun w hw => by have c := (FNo.out _ hw).cell 0 (.int .u8 (k0 : Int)) rfl; go_simp)
  try simp only [Act.put, List.setIfInBounds_toArray, List.set_cons_zero, List.set_cons_succ]
  refine H.one (i := 3) (by simp only [List.getElem?_toArray, List.getElem?_cons_succ, List.getElem?_cons_zero]; rfl) (by kernel_rfl) (by kernel_rfl) (fun K hK => ?_)
  refine wp_valW (d := 47) rfl (ex_load (T := 5) rfl (agg_u8 _) rfl (HN.out.at 5 c5 H5.out)) ?_
  refine hK.out _ _ hS ?_
  clear hK K
  try simp only [Act.put, List.setIfInBounds_toArray, List.set_cons_zero, List.set_cons_succ]
  refine H.tk (i := 6) (v := .int .u8 (x5.toNat : Int)) ?h6x6t6f hS ?_
  case h6x6t6f => exact (fun w hw => by go_simp; rw [HX5.out])
  try simp only [Act.put, List.setIfInBounds_toArray, List.set_cons_zero, List.set_cons_succ]
  refine H.tk (i := 7) (v := .pointer (some ⟨g, 5, none⟩)) ?h7x7t6f hS ?_
  case h7x7t6f => exact (fun w hw => by go_simp; intro e; omega)
  try simp only [Act.put, List.setIfInBounds_toArray, List.set_cons_zero, List.set_cons_succ]
  refine H.one (i := 8) (by simp only [List.getElem?_toArray, List.getElem?_cons_succ, List.getElem?_cons_zero]; rfl) (by kernel_rfl) (by kernel_rfl) (fun K hK => ?_)
  have cx := HN.out.at 5 c5 H5.out
  have fx := HN.out.froz 5 (List.getElem?_eq_some_iff.1 H5.out).1
  go_simp
  have HN := Lib.hid (HN.out.set 5 x5 (List.getElem?_eq_some_iff.1 H5.out).1)
  have BL := Lib.hid (BL.out.setCell (p := ⟨g, 5, none⟩) (Nat.le_refl _) (.int .u8 (x5.toNat : Int)))
  refine hK.out _ _ BL.out ?_
  clear hK K hS cx fx
  have hS := BL.out
  generalize World.setCell _ ⟨g, 5, none⟩ _ = W3 at *
  try simp only [Act.put, List.setIfInBounds_toArray, List.set_cons_zero, List.set_cons_succ]
  refine wpAnyH_done (by kernel_rfl) ?_ _
  clear hS
  have c7 := (FX.out _ BL.out).cs.c7
  have c5m := (FX.out _ BL.out).cs.c5
  rw [K7.out] at c7
  rw [K5.out] at c5m
  go_upto_region 15 with fail
  clear c7 c5m
  refine wp_region_held_drew (S := fun W => Below g V1 W) (by kernel_rfl) BL.out.drew (fun hS => ?_)
  have BL := Lib.hid BL.out.drew
  have HN := Lib.hid HN.out.drew
  generalize W3.drew = X0 at *
  refine H.tk (i := 0) (v := ?v0x1t6p) ?h0x1t6p hS ?_
  case h0x1t6p => (intro w hw; go_simp; first | done | (with_reducible rfl))
  try simp only [Act.put, List.setIfInBounds_toArray, List.set_cons_zero, List.set_cons_succ]
  refine H.tk (i := 1) (v := ?v1x2t6p) ?h1x2t6p hS ?_
  case h1x2t6p => (intro w hw; go_simp; first | done | (with_reducible rfl))
  try simp only [Act.put, List.setIfInBounds_toArray, List.set_cons_zero, List.set_cons_succ]
  refine H.tk (i := 2) (v := ?v2x3t6p) ?h2x3t6p hS ?_
  case h2x3t6p => (intro w hw; go_simp; first | done | (with_reducible rfl))
  try simp only [Act.put, List.setIfInBounds_toArray, List.set_cons_zero, List.set_cons_succ]
  refine H.tk (i := 3) (v := .int .i64 (14 + (n : Int))) ?h3x4t6p hS ?_
  case h3x4t6p => exact (fun w hw => by go_simp; rw [HW2.out])
  try simp only [Act.put, List.setIfInBounds_toArray, List.set_cons_zero, List.set_cons_succ]
  refine H.tk (i := 4) (v := .int .i64 (pos : Int)) ?h4x5t6p hS ?_
  case h4x5t6p => exact (fun w hw => by go_simp; rw [HPW.out])
  try simp only [Act.put, List.setIfInBounds_toArray, List.set_cons_zero, List.set_cons_succ]
  refine H.tk (i := 5) (v := ?v5x6t6p) ?h5x6t6p hS ?_
  case h5x6t6p => (intro w hw; go_simp; first | done | (with_reducible rfl))
  try simp only [Act.put, List.setIfInBounds_toArray, List.set_cons_zero, List.set_cons_succ]
  refine H.tk (i := 6) (v := ?v6x7t6p) ?h6x7t6p hS ?_
  case h6x7t6p => (intro w hw; go_simp; first | done | (with_reducible rfl))
  try simp only [Act.put, List.setIfInBounds_toArray, List.set_cons_zero, List.set_cons_succ]
  refine H.tk (i := 7) (v := ?v7x8t6p) ?h7x8t6p hS ?_
  case h7x8t6p => (intro w hw; go_simp; first | done | (with_reducible rfl))
  try simp only [Act.put, List.setIfInBounds_toArray, List.set_cons_zero, List.set_cons_succ]
  refine H.tk (i := 8) (v := .int .i64 (14 + (n : Int))) ?h8x9t6p hS ?_
  case h8x9t6p => exact (fun w hw => by go_simp; rw [HW2.out])
  try simp only [Act.put, List.setIfInBounds_toArray, List.set_cons_zero, List.set_cons_succ]
  refine H.tk (i := 9) (v := .int .i64 (pos : Int)) ?h9x10t6p hS ?_
  case h9x10t6p => exact (fun w hw => by go_simp; rw [HPW.out])
  try simp only [Act.put, List.setIfInBounds_toArray, List.set_cons_zero, List.set_cons_succ]
  refine H.tk (i := 10) (v := .pointer (some ⟨g, pos, none⟩)) ?h10x11t6p hS ?_
  case h10x11t6p => exact (fun w hw => by have := indexB g d.size cap pos (by omega) w; go_simp)
  try simp only [Act.put, List.setIfInBounds_toArray, List.set_cons_zero, List.set_cons_succ]
  refine H.tk (i := 12) (v := .pointer (some ⟨w.heap.size + 1, 1, none⟩)) ?h12x12t6p hS ?_
  case h12x12t6p => exact (fun w hw => by go_simp)
  try simp only [Act.put, List.setIfInBounds_toArray, List.set_cons_zero, List.set_cons_succ]
  refine H.tk (i := 13) (v := .int .u8 (k1 : Int)) ?h13x13t6p hS ?_
  case h13x13t6p => exact (fun w hw => by have c := (FNo.out _ hw).cell 1 (.int .u8 (k1 : Int)) rfl; go_simp)
  try simp only [Act.put, List.setIfInBounds_toArray, List.set_cons_zero, List.set_cons_succ]
  refine H.tk (i := 14) (v := ?v14x14t6p) ?h14x14t6p hS ?_
  case h14x14t6p => (intro w hw; go_simp; first | done | (with_reducible rfl))
  try simp only [Act.put, List.setIfInBounds_toArray, List.set_cons_zero, List.set_cons_succ]
  refine H.tk (i := 15) (v := .int .i64 y1) ?h15x15t6p hS ?_
  case h15x15t6p => exact (fun w hw => by have c := (FX.out _ hw).cs.c7; rw [K7.out] at c; go_simp)
  try simp only [Act.put, List.setIfInBounds_toArray, List.set_cons_zero, List.set_cons_succ]
  refine H.tk (i := 16) (v := .int .i64 (r : Int)) ?h16x16t6p hS ?_
  case h16x16t6p => exact (fun w hw => by go_simp; try rw [HRT.out])
  try simp only [Act.put, List.setIfInBounds_toArray, List.set_cons_zero, List.set_cons_succ]
  refine H.tk (i := 17) (v := ?v17x17t6p) ?h17x17t6p hS ?_
  case h17x17t6p => (intro w hw; go_simp; first | done | (with_reducible rfl))
  try simp only [Act.put, List.setIfInBounds_toArray, List.set_cons_zero, List.set_cons_succ]
  refine H.tk (i := 18) (v := .int .u8 (hv : Int)) ?h18x18t6p hS ?_
  case h18x18t6p => exact (fun w hw => by go_simp; rw [HS.out])
  try simp only [Act.put, List.setIfInBounds_toArray, List.set_cons_zero, List.set_cons_succ]
  refine H.tk (i := 19) (v := .int .u8 (ya : Int)) ?h19x19t6p hS ?_
  case h19x19t6p => exact (fun w hw => by go_simp; rw [HA.out])
  try simp only [Act.put, List.setIfInBounds_toArray, List.set_cons_zero, List.set_cons_succ]
  refine H.one (i := 11) (by simp only [List.getElem?_toArray, List.getElem?_cons_succ, List.getElem?_cons_zero]; rfl) (by kernel_rfl) (by kernel_rfl) (fun K hK => ?_)
  refine wp_valW (d := 88) rfl (ex_load (T := 5) rfl (agg_u8 _) rfl (HN.out.at pos cP HP.out)) ?_
  refine hK.out _ _ hS ?_
  clear hK K
  try simp only [Act.put, List.setIfInBounds_toArray, List.set_cons_zero, List.set_cons_succ]
  refine H.tk (i := 20) (v := .int .u8 (xP.toNat : Int)) ?h20x20t6p hS ?_
  case h20x20t6p => exact (fun w hw => by go_simp; rw [HXP.out])
  try simp only [Act.put, List.setIfInBounds_toArray, List.set_cons_zero, List.set_cons_succ]
  refine H.tk (i := 21) (v := .pointer (some ⟨g, pos, none⟩)) ?h21x21t6p hS ?_
  case h21x21t6p => exact (fun w hw => by have := indexB g d.size cap pos (by omega) w; go_simp)
  try simp only [Act.put, List.setIfInBounds_toArray, List.set_cons_zero, List.set_cons_succ]
  refine H.one (i := 22) (by simp only [List.getElem?_toArray, List.getElem?_cons_succ, List.getElem?_cons_zero]; rfl) (by kernel_rfl) (by kernel_rfl) (fun K hK => ?_)
  have cx := HN.out.at pos cP HP.out
  have fx := HN.out.froz pos (List.getElem?_eq_some_iff.1 HP.out).1
  go_simp
  have HN := Lib.hid (HN.out.set pos xP (List.getElem?_eq_some_iff.1 HP.out).1)
  have BL := Lib.hid (BL.out.setCell (p := ⟨g, pos, none⟩) (Nat.le_refl _) (.int .u8 (xP.toNat : Int)))
  refine hK.out _ _ BL.out ?_
  clear hK K hS cx fx
  have hS := BL.out
  generalize World.setCell _ ⟨g, pos, none⟩ _ = W4 at *
  try simp only [Act.put, List.setIfInBounds_toArray, List.set_cons_zero, List.set_cons_succ]
  refine wpAnyH_done (by kernel_rfl) ?_ _
  clear hS
  have T0 := Lib.hid (FT.out _ BL.out)
  have X1 := Lib.hid (FX.out _ BL.out)
  have I1 := Lib.hid (FI.out _ BL.out)
  have HT := Lib.hid (FTb.out _ BL.out)
  have HB := Lib.hid (FB.out _ BL.out)
  have q0 := T0.out.cell 0 (.int .i64 10) rfl
  have q1 := T0.out.cell 1 (.int .i64 a) rfl
  have cv := run_convert_bytes_back W4 52 9 5 ⟨g, 0, none⟩ cap ((d.data.toList.set 5 x5).set pos xP) Tryd.underlying52 Tryd.underlying5 Tryd.underlying9 (fun j hj => by rw [Sx.add_at, Nat.zero_add]; exact HN.out.cell j hj)
  rw [HLn.out] at cv
  generalize (⟨((d.data.toList.set 5 x5).set pos xP).toArray⟩ : ByteArray) = d2 at *
  clear HN BL FT FNo FX FI FTb FB
  go_wp2_with fail
  refine (P2.out _ HT.out).mono ?_
  intro r w12 hr
  obtain ⟨n2, rfl, hi, hp, hb⟩ := hr.at HL.out.1 HL.out.2
  have X1 := Lib.hid (X1.out.below hb)
  have I1 := Lib.hid (I1.out.below hb)
  have HT := Lib.hid (HT.out.below hb)
  have HB := Lib.hid (bcall HB.out hb)
  clear hr
  go_upto_region 17 with (refine wpList_storeM (b := w12.heap.size) (m := M.zero) (m' := n2) rfl _ _ rfl rfl rfl (Bx.new w12 M.zero) ?_)
  change Code.wp _ _ _ _ ((w12.alloc (.cells M.zero.cells 25)).setRow w12.heap.size n2.cells)
  rw [World.setRow_alloc_new]
  have bel := balloc (Below.refl w12.heap.size w12) (.cells n2.cells 25)
  have X1 := Lib.hid (X1.out.below bel)
  have I1 := Lib.hid (I1.out.below bel)
  clear q0 q1 cv T0
  have I2 := Lib.hid (hi.below bel)
  have HT := Lib.hid (HT.out.below bel)
  have HB := Lib.hid (bcall HB.out bel)
  have X2 := Lib.hid (Bx.new w12 n2)
  have H2 := Lib.hid hp
  clear hi hp hb bel
  generalize w12.alloc (.cells n2.cells 25) = V2 at *
  generalize w12.heap.size = g2 at *
  have PS := Lib.hid (fun W h h' => RSame.rsame_any n1 n2 W h h')
  rw [H1.out.same H2.out, same_self] at PS
  go_wp2_with fail
  refine (awake_any _ HT.out).mono ?_
  rintro r w13 ⟨rfl, hb⟩
  have X1 := Lib.hid (X1.out.below hb)
  have I1 := Lib.hid (I1.out.below hb)
  have X2 := Lib.hid (X2.out.below hb)
  have I2 := Lib.hid (I2.out.below hb)
  have HT := Lib.hid (HT.out.below hb)
  have HB := Lib.hid (bcall HB.out hb)
  clear hb
  go_wp2_with (first | (refine st_yes (v := .agg (M.cells n1)) (by rfl) rfl (run_loadM (x := .tmp 5) rfl rfl X1.out) ?_) | (refine st_yes (v := .agg (M.cells n2)) (by rfl) rfl (run_loadM (x := .tmp 11) rfl rfl X2.out) ?_))
  refine (PS.out _ I1.out I2.out).mono ?_
  rintro r' w14 ⟨rfl, hb⟩
  have HB := Lib.hid (bcall HB.out hb)
  clear hb
  go_wp2
  go_ret
  exact ⟨rfl, HB.out⟩

set_option maxHeartbeats 25600000 in
set_option maxRecDepth 100000 in
theorem walk (a t : Int) (d : ByteArray) (n0 n1 : Int) (w : World) (hm : d.size ≤ maxLen) (z0 : 0 ≤ n0) (z1 : n0 ≤ 255) (z2 : 0 ≤ n1) (z3 : n1 ≤ 255) (ht : Tab w) :
    Calls Tryd.prog 7 #[.agg (cellsT (a, (d, t))), .agg #[.int .u8 n0, .int .u8 n1]] w fun r w' => r = .returned (.bool true) ∧ Below w.heap.size w w' := by
  unfold maxLen at hm
  have HT0 := Lib.hid ht
  clear ht
  by_cases h910 : t = 9 ∨ t = 10
  rotate_left
  · have e9 : (t == 9) = false := by simpa using (show ¬ t = 9 from fun e => h910 (.inl e))
    have e10 : (t == 10) = false := by simpa using (show ¬ t = 10 from fun e => h910 (.inr e))
    have h9 : ¬ t = 9 := fun e => h910 (.inl e)
    have h10 : ¬ t = 10 := fun e => h910 (.inr e)
    have f9 : (t != 9) = true := by rw [bne, e9]; rfl
    have f10 : (t != 10) = true := by rw [bne, e10]; rfl
    go_enter Tryd.func7, Tryd.ntmps7
    go_upto_region 1 with fail
    change Code.wp _ _ _ _ ((w.alloc (.cells (cellsT (a, (d, t))) 35)).alloc (.cells #[.int .u8 n0, .int .u8 n1] 51))
    have bel := balloc (balloc (Below.refl _ w) (.cells (cellsT (a, (d, t))) 35)) (.cells #[.int .u8 n0, .int .u8 n1] 51)
    have N0 := Bk.Bk.new 51 (w.alloc (.cells (cellsT (a, (d, t))) 35)) #[.int .u8 n0, .int .u8 n1]
    rw [Bk.alloc_size] at N0
    have N0 := Lib.hid N0
    have T0 := Lib.hid ((Bk.Bk.new 35 w (cellsT (a, (d, t)))).old (.cells #[.int .u8 n0, .int .u8 n1] 51))
    have HT := Lib.hid (HT0.out.below bel)
    have HB := Lib.hid bel
    clear bel
    generalize (w.alloc (.cells (cellsT (a, (d, t))) 35)).alloc (.cells #[.int .u8 n0, .int .u8 n1] 51) = V at *
    have c0 := T0.out.cell 0 (.int .i64 t) rfl
    have c2 := T0.out.cell 2 (.string d) rfl
    go_wp2_with fail
    refine (awake_any _ HT.out).mono ?_
    rintro r w2 ⟨rfl, hb⟩
    have HB := Lib.hid (bcall HB.out hb)
    clear hb
    go_wp2
    go_ret
    exact ⟨rfl, HB.out⟩
  by_cases hz : d.size ≤ 255
  rotate_left
  · have hz2 : 255 < (d.size : Int) := by omega
    rcases h910 with rfl | rfl
    · go_enter Tryd.func7, Tryd.ntmps7
      go_upto_region 1 with fail
      change Code.wp _ _ _ _ ((w.alloc (.cells (cellsT (a, (d, 9))) 35)).alloc (.cells #[.int .u8 n0, .int .u8 n1] 51))
      have bel := balloc (balloc (Below.refl _ w) (.cells (cellsT (a, (d, 9))) 35)) (.cells #[.int .u8 n0, .int .u8 n1] 51)
      have N0 := Bk.Bk.new 51 (w.alloc (.cells (cellsT (a, (d, 9))) 35)) #[.int .u8 n0, .int .u8 n1]
      rw [Bk.alloc_size] at N0
      have N0 := Lib.hid N0
      have T0 := Lib.hid ((Bk.Bk.new 35 w (cellsT (a, (d, 9)))).old (.cells #[.int .u8 n0, .int .u8 n1] 51))
      have HT := Lib.hid (HT0.out.below bel)
      have HB := Lib.hid bel
      clear bel
      generalize (w.alloc (.cells (cellsT (a, (d, 9))) 35)).alloc (.cells #[.int .u8 n0, .int .u8 n1] 51) = V at *
      have c0 := T0.out.cell 0 (.int .i64 9) rfl
      have c2 := T0.out.cell 2 (.string d) rfl
      go_wp2_with fail
      refine (awake_any _ HT.out).mono ?_
      rintro r w2 ⟨rfl, hb⟩
      have HB := Lib.hid (bcall HB.out hb)
      clear hb
      go_wp2
      go_ret
      exact ⟨rfl, HB.out⟩
    · go_enter Tryd.func7, Tryd.ntmps7
      go_upto_region 1 with fail
      change Code.wp _ _ _ _ ((w.alloc (.cells (cellsT (a, (d, 10))) 35)).alloc (.cells #[.int .u8 n0, .int .u8 n1] 51))
      have bel := balloc (balloc (Below.refl _ w) (.cells (cellsT (a, (d, 10))) 35)) (.cells #[.int .u8 n0, .int .u8 n1] 51)
      have N0 := Bk.Bk.new 51 (w.alloc (.cells (cellsT (a, (d, 10))) 35)) #[.int .u8 n0, .int .u8 n1]
      rw [Bk.alloc_size] at N0
      have N0 := Lib.hid N0
      have T0 := Lib.hid ((Bk.Bk.new 35 w (cellsT (a, (d, 10)))).old (.cells #[.int .u8 n0, .int .u8 n1] 51))
      have HT := Lib.hid (HT0.out.below bel)
      have HB := Lib.hid bel
      clear bel
      generalize (w.alloc (.cells (cellsT (a, (d, 10))) 35)).alloc (.cells #[.int .u8 n0, .int .u8 n1] 51) = V at *
      have c0 := T0.out.cell 0 (.int .i64 10) rfl
      have c2 := T0.out.cell 2 (.string d) rfl
      go_wp2_with fail
      refine (awake_any _ HT.out).mono ?_
      rintro r w2 ⟨rfl, hb⟩
      have HB := Lib.hid (bcall HB.out hb)
      clear hb
      go_wp2
      go_ret
      exact ⟨rfl, HB.out⟩
  obtain ⟨k0, rfl⟩ := Int.eq_ofNat_of_zero_le z0
  obtain ⟨k1, rfl⟩ := Int.eq_ofNat_of_zero_le z2
  have hk0 : k0 < 256 := by omega
  have hk1 : k1 < 256 := by omega
  clear z0 z1 z2 z3 hm
  rcases h910 with rfl | rfl
  · exact Ns9.walkT a d k0 k1 w hz hk0 hk1 HT0
  · exact walkT a d k0 k1 w hz hk0 hk1 HT0

theorem own : ownKnob Tryd.prog.godebug = none := by kernel_rfl

set_option maxRecDepth 100000 in
theorem lifted (os : Os) (started : os.Started) (H : Type) (enc : TypeId × Value → H) :
    ReturnsInHanded {} Tryd.checked os 7 .any (fun w args => (Rows.routeNoiseSpec.pre enc Tryd.prog Tryd.f7 Rows.routeNoiseRow.domain false w args ∧ laidMetH Tryd.prog Rows.routeNoiseRow.laid w) ∧ sizedMet enc Tryd.prog Tryd.f7 (OpenSpec.ofChange Rows.routeNoiseSpec) false w args)
      (Rows.routeNoiseSpec.post enc Tryd.prog Tryd.f7 false true false false) := by
  refine returnsInHanded_of_change_and (C := Tryd.checked) (X := fun w _ => laidMetH Tryd.prog Rows.routeNoiseRow.laid w) (fun _ _ _ hh h => h.of_heap hh) own started (by kernel_rfl) Tryd.func7
    (ChangeSpec.witness_shaped (enc := enc) (C := Tryd.checked) (os := os) (X := fun w _ => laidMetH Tryd.prog Rows.routeNoiseRow.laid w) false (World.laidAll Tryd.prog os Rows.routeNoiseRow.laid) #[.agg #[.int .i64 0, .int .i64 0, .string ByteArray.empty], .agg #[.int .u8 0, .int .u8 0]] 8 (World.laidAll_os _ _ _)
      (World.shaped_of_ZipB (by kernel_rfl) (by kernel_rfl)) (by kernel_rfl) (by kernel_rfl) (by kernel_rfl)
      (by rw [MakeChecks.laidMetH_plain _ _ _ (by kernel_rfl)]; exact laidMet_laidAll _ (by kernel_rfl) (by kernel_rfl))) ?_
  intro W base args ds gs before hval0 hW _ _ hL0 _
  have hMet := of_laid hL0
  have hval : ∀ (j : Nat) t v, Tryd.f7.params[j]? = some t → args[j]? = some v → Value.okWide Tryd.prog W .any base t v := hval0
  have hW' := hW
  have hlt := fun x hx => hW'.lt x hx
  obtain ⟨p, q, hA0, hV, rfl, hfz, hnd⟩ := hW
  have hA : DataW.TrodAll enc Tryd.prog W 0 (fun _ => true) true Tryd.f7.params.toList args.toList ds p := hA0
  rw [Tryd.params7] at hA hval
  obtain ⟨v0, vs0, d0, ds0, p0, q0, hargs, rfl, rfl, h0, r0⟩ := trodAll_cons hA
  obtain ⟨v1, vs1, d1, ds1, p1, q1, rfl, rfl, rfl, h1, r1⟩ := trodAll_cons r0
  obtain ⟨rfl, rfl, rfl⟩ := trodAll_nil r1
  obtain rfl : args = #[v0, v1] := by cases args; simp_all
  obtain ⟨rfl, rfl⟩ := trodVars_none hV
  obtain ⟨a, d, t, rfl, hz⟩ := by_tlv (hval 0 35 v0 rfl rfl) h0
  obtain ⟨n0, n1, rfl, z0, z1, z2, z3⟩ := by_two (hval 1 51 v1 rfl rfl) h1
  clear hA0 hval0
  simp only [List.append_nil] at hW' hlt
  refine (walk a t d n0 n1 W hz z0 z1 z2 z3 hMet).mono fun e W' ⟨he, hg⟩ => ?_
  subst he
  exact ⟨_, rfl, _, _, _, [], _, [], hW', trodAll_mk1 (shut_bool Tryd.underlying4 _), (trodAll_cons_mk (again (by kernel_rfl) (of_decide_eq_true (by kernel_rfl)) h0 hg fun x hx => hlt x (by first | exact absurd hx (by simp) | simp [hx])) (trodAll_cons_mk (again (by kernel_rfl) (of_decide_eq_true (by kernel_rfl)) h1 hg fun x hx => hlt x (by first | exact absurd hx (by simp) | simp [hx])) trodAll_mk0)), rfl, hg.frame _, fun h => by cases h⟩

theorem over : Rows.RouteNoiseSaid :=
  OpenClaim.holds_of_wide 7 Tryd.f7 rfl rfl rfl rfl rfl rfl rfl ⟨rfl, rfl, rfl, rfl, rfl⟩ rfl rfl rfl rfl rfl (by kernel_rfl) Tryd.func7 (by kernel_rfl)
    (of_decide_eq_true (by kernel_rfl)) (by unfold Func.isWrapper; first | (rw [if_pos (by decide +kernel)]; kernel_rfl) | (rw [if_neg (by decide +kernel)]; exact ⟨rfl, rfl⟩))
    (fun os started H enc _ => lifted os started H enc)

theorem proved : Rows.RouteNoiseCardSaid :=
  Claim7.holds_tied_plain_at .later [] _ true _ _
    over (fun _ h => by cases h) (by kernel_rfl) (fun _ h => by cases h) routeNoise_row_tie rfl ⟨rfl, rfl⟩ (by kernel_rfl) rfl
    (fun f fn hf hfn => by
      obtain rfl : f = 7 := Option.some.inj ((show Tryd.prog.funcNamed "roadbook/roadbooklaw21.RouteNoise" = some 7 by kernel_rfl).symm.trans hf) |>.symm
      obtain rfl : fn = Tryd.f7 := (Option.some.inj (Tryd.func7.symm.trans hfn)).symm
      exact ⟨by kernel_rfl, fun j t ht => by
        rw [Tryd.params7] at ht
        have hm : t ∈ [35, 51] := by simpa using Array.mem_of_getElem? ht
        have hall : ([35, 51].all fun u => !Tryd.prog.wantsStandIn u) = true := by kernel_rfl
        exact (show Tryd.prog.wantsStandIn t = false by simpa using List.all_eq_true.1 hall t hm)⟩)
    (by kernel_rfl)
#print axioms proved
end Go.Proofs.YtkhdllhlhpkekaaDoor.routeNoise
