/-
  The document's step: an Update, a TLV of the types 6 to 8. Conditions: what is known may be; at most 100000 bytes.
-/
import Derived.Test.YtjhfpobjbijcpaaGreatDoorB34
import Derived.Test.YtjhfpobjbijcpaaGreatDoorB36
import Derived.Test.YtjhfpobjbijcpaaGreatDoorB38
namespace Go.Proofs.YtjhfpobjbijcpaaGreatDoor.K8
open Go.ChangeShapes Go.WideShapes Go.ChangeAt Go.RowKit
open Go.Proofs.YtjhfpobjbijcpaaGreatDoor.Ms
open Go.Proofs.YtjhfpobjbijcpaaGreatDoor.Box
open Go.Proofs.YtjhfpobjbijcpaaGreatDoor.S1
open Go.Proofs.YtjhfpobjbijcpaaGreatDoor.Nu (text_eq ext_list)
open Go.Proofs.YtjhfpobjbijcpaaGreatDoor.J1
open Go.Proofs.YtjhfpobjbijcpaaGreatDoor.J2 (nil_eq nil_em size_eq base_any rwhole_any)
open Go.Proofs.YtjhfpobjbijcpaaGreatDoor.J4 (shU wpList_loadU wpList_storeU)
open Go.Proofs.YtjhfpobjbijcpaaGreatDoor.J6 (AnsU lst_cell)
open Go.Proofs.YtjhfpobjbijcpaaGreatDoor.An
open Go.Proofs.YtjhfpobjbijcpaaGreatDoor.Tc
open Go.Proofs.YtjhfpobjbijcpaaGreatDoor.K1
open Go.Proofs.YtjhfpobjbijcpaaGreatDoor.Kb
open Go.Proofs.YtjhfpobjbijcpaaGreatDoor.K2
open Go.Proofs.YtjhfpobjbijcpaaGreatDoor.K4
open Go.Proofs.YtjhfpobjbijcpaaGreatDoor.K5 (cnt_with)
open Go.Proofs.YtjhfpobjbijcpaaGreatDoor.K6 (infoX)
open Go.Proofs.YtjhfpobjbijcpaaGreatDoor.K7
open Go.Proofs.YtjhfpobjbijcpaaGreatDoor.Lk (lgA lgO)
open Go.Proofs.YtjhfpobjbijcpaaGreatDoor.F1 (bt bt_nn bt_lt)
open Go.Proofs.YtjhfpobjbijcpaaGreatDoor.F2 (idx sl_m sl_l)
open Go.Proofs.YtjhfpobjbijcpaaGreatDoor.Tl (cellsT)
open Go.Proofs.YtjhfpobjbijcpaaGreatDoor.Bk (Bk Sh alloc_size wpList_loadK wpList_storeK run_loadK results_pair loadVarK wpList_builtK)
open Go.Proofs.YtjhfpobjbijcpaaGreatDoor.Hs
open Go.Proofs.YtjhfpobjbijcpaaGreatDoor.Hy (H.one H.two wp_valW)
open Go.Proofs.YtjhfpobjbijcpaaGreatDoor.Or (st_yes)
set_option linter.unusedVariables false
set_option maxRecDepth 100000
set_option maxRecDepth 100000
theorem sl_h (s : ByteArray) (j : Int) (hi : Nat) (hj : j = hi) (h : hi ≤ s.size) (W : World) : (Instr.slice 9 (.string s) none (some (.int .i64 j)) none).run Tryz.prog W = .ok (.string (s.extract 0 hi)) W := by
  subst hj
  have := run_slice_string_h (P := Tryz.prog) (t := 9) (s := s) W Tryz.underlying9 .i64 (hi : Int) (by omega) (by omega)
  simpa using this
/-- What an Update's first flag says, its second. -/
def fl1 (c : Kx) (u : Up) (a : ByteArray) : Kx := if u.ae = 0 then c else if 128 ≤ u.flags then c.setP u.ae a else c
def fl2 (c : Kx) (u : Up) (a : ByteArray) : Kx := if u.ae = 0 then c else if u.flags / 64 % 2 = 1 then { c with id := idA a } else c
theorem flagC_is (c : Kx) (u : Up) (a : ByteArray) : flagC c u a = fl2 (fl1 c u a) u a := by
  unfold flagC fl2 fl1
  by_cases h : u.ae = 0
  · rw [if_pos h, if_pos h, if_pos h]
  · rw [if_neg h, if_neg h, if_neg h]
theorem J_in {ae : Int} {a : ByteArray} {p : Int} (h : inB ae a p = true) : adrB ae a = true := in_adr h
/-- The router-id in an address of IPv4, in a longer one. -/
theorem idA_4 {a : ByteArray} (h : a.size = 4) : (⟨#[0, 0, 0, 0]⟩ : ByteArray) ++ a = idA a := text_eq (by
  show _ = (List.replicate 8 0 ++ a.data.toList).drop a.size
  rw [h, ByteArray.data_append, Array.toList_append]
  rfl)
theorem idA_16 {a : ByteArray} (h : a.size = 16) : a.extract 8 16 = idA a := text_eq (by
  show _ = (List.replicate 8 0 ++ a.data.toList).drop a.size
  rw [h, ext_list, show (16 : Nat) = 8 + 8 from rfl, ← List.drop_drop, show List.drop 8 (List.replicate 8 (0 : UInt8) ++ a.data.toList) = a.data.toList from List.drop_left' rfl]
  exact List.take_of_length_le (by rw [List.length_drop, size_list, h]; decide))
set_option maxHeartbeats 51200000 in
theorem rupdate_any (c : Kx) (a : Int) (d : ByteArray) (w : World) (hc : okC c = true) (hs : d.size ≤ 100000) :
    Calls Tryz.prog 89 #[.agg c.cells, .agg (cellsT (a, (d, 8)))] w (AnsC (out8 c d) w) := by
  have ho := (okc_iff c).1 hc
  rcases outK_two d with ⟨er, hq⟩ | ⟨u, g, hq⟩
  · have HY := Lib.hid (out8_no (c := c) hq)
    obtain ⟨q, hqq⟩ : ∃ q : Up, q = Up.zero := ⟨_, rfl⟩
    have P1 := Lib.hid (fun V => show Calls Tryz.prog 114 #[.agg (cellsT (a, (d, 8)))] V (fun e w' => ∃ sa sc, e = .returned (.tuple #[.agg (Up.cells { q with sa := sa, sc := sc }), .bool false, .int .i64 er]) ∧ Below V.heap.size V w') from
      (Jt.rtake_own a d V hs).mono (fun e w' h => by
        rw [hq] at h
        obtain ⟨sa, sc, h1, _, h3⟩ := h
        rw [hqq]
        exact ⟨sa, sc, h1, h3⟩))
    clear hq hqq ho hc hs
    by_cases he : er = 0
    · subst he
      go_enter Tryz.func89, Tryz.ntmps89
      go_upto_region 1 with fail
      change Code.wp _ _ _ _ (((w.alloc (.cells c.cells 44)).alloc (.cells (cellsT (a, (d, 8))) 79)).alloc (.cells Kx.zero.cells 44))
      have S0 := Lib.hid (((Bk.Bk.new 44 w c.cells).old (.cells (cellsT (a, (d, 8))) 79)).old (.cells Kx.zero.cells 44))
      have T0 := Bk.Bk.new 79 (w.alloc (.cells c.cells 44)) (cellsT (a, (d, 8)))
      rw [alloc_size] at T0
      have T0 := Lib.hid (T0.old (.cells Kx.zero.cells 44))
      have R0 := Bk.Bk.new 44 ((w.alloc (.cells c.cells 44)).alloc (.cells (cellsT (a, (d, 8))) 79)) Kx.zero.cells
      rw [alloc_size, alloc_size] at R0
      have R0 := Lib.hid R0
      have HB := Lib.hid (balloc (balloc (balloc (Below.refl _ w) (.cells c.cells 44)) (.cells (cellsT (a, (d, 8))) 79)) (.cells Kx.zero.cells 44))
      have hlt := R0.out.lt
      generalize ((w.alloc (.cells c.cells 44)).alloc (.cells (cellsT (a, (d, 8))) 79)).alloc (.cells Kx.zero.cells 44) = W at *
      go_wp2_with (first | (refine Bk.wpList_loadK (b := w.heap.size + 1) Tl.shT rfl _ rfl rfl T0.out rfl ?_))
      refine (P1.out _).mono ?_
      rintro e w1 ⟨sa, sc, rfl, hb⟩
      have S0 := Lib.hid (S0.out.below hb)
      have R0 := Lib.hid (R0.out.below hb)
      have HB := Lib.hid (bcall HB.out hb)
      go_upto_region 2 with (refine wpList_storeU (b := w1.heap.size) (m := Up.zero) (m' := { q with sa := sa, sc := sc }) rfl _ _ rfl rfl rfl (Bk.Bk.new 120 w1 Up.zero.cells) ?_)
      change Code.wp _ _ _ _ ((w1.alloc (.cells Up.zero.cells 120)).setRow w1.heap.size (Up.cells { q with sa := sa, sc := sc }))
      rw [World.setRow_alloc_new]
      have bel := balloc (Below.refl w1.heap.size w1) (.cells (Up.cells { q with sa := sa, sc := sc }) 120)
      have hlt1 := R0.out.lt
      have S0 := Lib.hid (S0.out.below bel)
      have R0 := Lib.hid (R0.out.below bel)
      have HB := Lib.hid (bcall HB.out bel)
      clear hb bel T0 P1
      generalize w1.alloc (.cells (Up.cells { q with sa := sa, sc := sc }) 120) = V1 at *
      generalize w1.heap.size = g1 at *
      go_wp2_with (first | (refine wpList_loadX (b := w.heap.size) (m := c) rfl _ rfl rfl S0.out ?_) | (refine wpList_storeX (b := w.heap.size + 1 + 1) (m := Kx.zero) (m' := c) rfl _ _ rfl rfl rfl R0.out ?_))
      exact bodyPost_ret (v := .tuple #[.agg (Kx.cells c), .slice none 0 0, .int .i64 0]) (results_three rfl _ _ (w.heap.size + 1 + 1) _ rfl (loadVarK shX (R0.out.put (Kx.cells c)) rfl) (.slice none 0 0) rfl (.int .i64 0) rfl) rfl (AnsC.no HY.out (Box.below_setRow HB.out (by omega) _))
    have e1 : (er == 0) = false := by simpa using he
    have e2 : (er != 0) = true := by rw [bne, e1]; rfl
    clear he
    go_enter Tryz.func89, Tryz.ntmps89
    go_upto_region 1 with fail
    change Code.wp _ _ _ _ (((w.alloc (.cells c.cells 44)).alloc (.cells (cellsT (a, (d, 8))) 79)).alloc (.cells Kx.zero.cells 44))
    have S0 := Lib.hid (((Bk.Bk.new 44 w c.cells).old (.cells (cellsT (a, (d, 8))) 79)).old (.cells Kx.zero.cells 44))
    have T0 := Bk.Bk.new 79 (w.alloc (.cells c.cells 44)) (cellsT (a, (d, 8)))
    rw [alloc_size] at T0
    have T0 := Lib.hid (T0.old (.cells Kx.zero.cells 44))
    have R0 := Bk.Bk.new 44 ((w.alloc (.cells c.cells 44)).alloc (.cells (cellsT (a, (d, 8))) 79)) Kx.zero.cells
    rw [alloc_size, alloc_size] at R0
    have R0 := Lib.hid R0
    have HB := Lib.hid (balloc (balloc (balloc (Below.refl _ w) (.cells c.cells 44)) (.cells (cellsT (a, (d, 8))) 79)) (.cells Kx.zero.cells 44))
    have hlt := R0.out.lt
    generalize ((w.alloc (.cells c.cells 44)).alloc (.cells (cellsT (a, (d, 8))) 79)).alloc (.cells Kx.zero.cells 44) = W at *
    go_wp2_with (first | (refine Bk.wpList_loadK (b := w.heap.size + 1) Tl.shT rfl _ rfl rfl T0.out rfl ?_))
    refine (P1.out _).mono ?_
    rintro e w1 ⟨sa, sc, rfl, hb⟩
    have S0 := Lib.hid (S0.out.below hb)
    have R0 := Lib.hid (R0.out.below hb)
    have HB := Lib.hid (bcall HB.out hb)
    go_upto_region 2 with (refine wpList_storeU (b := w1.heap.size) (m := Up.zero) (m' := { q with sa := sa, sc := sc }) rfl _ _ rfl rfl rfl (Bk.Bk.new 120 w1 Up.zero.cells) ?_)
    change Code.wp _ _ _ _ ((w1.alloc (.cells Up.zero.cells 120)).setRow w1.heap.size (Up.cells { q with sa := sa, sc := sc }))
    rw [World.setRow_alloc_new]
    have bel := balloc (Below.refl w1.heap.size w1) (.cells (Up.cells { q with sa := sa, sc := sc }) 120)
    have hlt1 := R0.out.lt
    have S0 := Lib.hid (S0.out.below bel)
    have R0 := Lib.hid (R0.out.below bel)
    have HB := Lib.hid (bcall HB.out bel)
    clear hb bel T0 P1
    generalize w1.alloc (.cells (Up.cells { q with sa := sa, sc := sc }) 120) = V1 at *
    generalize w1.heap.size = g1 at *
    go_wp2_with (first | (refine wpList_loadX (b := w.heap.size) (m := c) rfl _ rfl rfl S0.out ?_) | (refine wpList_storeX (b := w.heap.size + 1 + 1) (m := Kx.zero) (m' := c) rfl _ _ rfl rfl rfl R0.out ?_))
    exact bodyPost_ret (v := .tuple #[.agg (Kx.cells c), .slice none 0 0, .int .i64 er]) (results_three rfl _ _ (w.heap.size + 1 + 1) _ rfl (loadVarK shX (R0.out.put (Kx.cells c)) rfl) (.slice none 0 0) rfl (.int .i64 er) rfl) rfl (AnsC.no HY.out (Box.below_setRow HB.out (by omega) _))
  have P1 := Lib.hid (fun V => show Calls Tryz.prog 114 #[.agg (cellsT (a, (d, 8)))] V (fun e w' => ∃ v : Up, Cnt d v ∧ out8 c d = stU c v ∧ e = .returned (.tuple #[.agg v.cells, .bool true, .int .i64 0]) ∧ Sx.Lst V.heap.size w' (.slice v.sa v.sl.length v.sc) v.sl ∧ Below V.heap.size V w') from
    (Jt.rtake_own a d V hs).mono (fun e w' h => by
      rw [hq] at h
      obtain ⟨sa, sc, h1, h2, h3⟩ := h
      exact ⟨{ u with sa := sa, sc := sc }, cnt_with g sa sc, (out8_yes hq).trans rfl, h1, h2, h3⟩))
  clear hq g u
  go_enter Tryz.func89, Tryz.ntmps89
  go_upto_region 1 with fail
  change Code.wp _ _ _ _ (((w.alloc (.cells c.cells 44)).alloc (.cells (cellsT (a, (d, 8))) 79)).alloc (.cells Kx.zero.cells 44))
  have S0 := Lib.hid (((Bk.Bk.new 44 w c.cells).old (.cells (cellsT (a, (d, 8))) 79)).old (.cells Kx.zero.cells 44))
  have T0 := Bk.Bk.new 79 (w.alloc (.cells c.cells 44)) (cellsT (a, (d, 8)))
  rw [alloc_size] at T0
  have T0 := Lib.hid (T0.old (.cells Kx.zero.cells 44))
  have R0 := Bk.Bk.new 44 ((w.alloc (.cells c.cells 44)).alloc (.cells (cellsT (a, (d, 8))) 79)) Kx.zero.cells
  rw [alloc_size, alloc_size] at R0
  have R0 := Lib.hid R0
  have HB := Lib.hid (balloc (balloc (balloc (Below.refl _ w) (.cells c.cells 44)) (.cells (cellsT (a, (d, 8))) 79)) (.cells Kx.zero.cells 44))
  have hlt := R0.out.lt
  generalize ((w.alloc (.cells c.cells 44)).alloc (.cells (cellsT (a, (d, 8))) 79)).alloc (.cells Kx.zero.cells 44) = W at *
  go_wp2_with (first | (refine Bk.wpList_loadK (b := w.heap.size + 1) Tl.shT rfl _ rfl rfl T0.out rfl ?_))
  refine (P1.out _).mono ?_
  rintro e w1 ⟨v, g, hy, rfl, hl, hb⟩
  have S0 := Lib.hid (S0.out.below hb)
  have R0 := Lib.hid (R0.out.below hb)
  have HB := Lib.hid (bcall HB.out hb)
  go_upto_region 2 with (refine wpList_storeU (b := w1.heap.size) (m := Up.zero) (m' := v) rfl _ _ rfl rfl rfl (Bk.Bk.new 120 w1 Up.zero.cells) ?_)
  change Code.wp _ _ _ _ ((w1.alloc (.cells Up.zero.cells 120)).setRow w1.heap.size (Up.cells v))
  rw [World.setRow_alloc_new]
  have bel := balloc (Below.refl w1.heap.size w1) (.cells (Up.cells v) 120)
  have hlt1 := R0.out.lt
  have S0 := Lib.hid (S0.out.below bel)
  have R0 := Lib.hid (R0.out.below bel)
  have HB := Lib.hid (bcall HB.out bel)
  have HL := Lib.hid (hl.below bel)
  have U0 := Lib.hid (Bk.Bk.new 120 w1 v.cells)
  obtain ⟨B1, hB1⟩ : ∃ B, W.heap.size = B := ⟨_, rfl⟩
  rw [hB1] at HL hlt
  have hg1 : B1 ≤ w1.heap.size := by rw [← hB1]; exact hb.size
  have hwB : w.heap.size ≤ B1 := by omega
  clear hb hl bel T0 P1 hB1
  generalize w1.alloc (.cells v.cells 120) = V1 at *
  generalize w1.heap.size = g1 at *
  obtain ⟨k, hk⟩ : ∃ k : Nat, v.ae = k := ⟨v.ae.toNat, by have := g.ae0; omega⟩
  have hk4 : k < 4 := by have := g.ae3; omega
  have c3 := U0.out.cell 3 (.int .i64 v.om) rfl
  go_upto_if 31 with fail
  clear c3
  go_cut [10] (fun m10 wx => (∃ ah : ByteArray, m10 = .string ah ∧ ah.data.toList = omL c v) ∧ ¬ (0 < v.om ∧ (c.pf v.ae).size = 0) ∧ Below V1.heap.size V1 wx)
  case first =>
    by_cases h0 : 0 < v.om
    rotate_left
    · have e0 : v.om = 0 := by have := g.om0; omega
      have hx : ¬ (0 < v.om ∧ (c.pf v.ae).size = 0) := fun h => h0 h.1
      have hah : (⟨#[]⟩ : ByteArray).data.toList = omL c v := by unfold omL; rw [e0]; rfl
      have HX := Lib.hid hx
      have HA := Lib.hid hah
      have c3 := U0.out.cell 3 (.int .i64 v.om) rfl
      clear e0 hx hah
      go_wp2_with fail
      go_meet
      exact ⟨⟨_, rfl, HA.out⟩, HX.out, Below.refl _ _⟩
    have c3 := U0.out.cell 3 (.int .i64 v.om) rfl
    have n1 := nil_eq (c.pf k)
    have n2 := nil_em (c.pf k)
    have c0 := U0.out.cell 0 (.int .i64 v.ae) rfl
    rw [hk] at c0
    have p0 := pf_cellX S0.out hk4
    by_cases hz : (c.pf k).size = 0
    · have HY := Lib.hid (hy.trans (stU_err ⟨h0, by rw [hk]; exact hz⟩))
      rw [decide_eq_true hz] at n1 n2
      clear hz hy hk ho hc g
      go_wp2_with (first | (refine st_yes (v := .pointer (some ⟨w.heap.size, k, none⟩)) (by rfl) rfl (ex_indexAt rfl rfl rfl (indexAt4 w.heap.size k hk4 _)) ?_) | (refine wpList_loadX (b := w.heap.size) (m := c) rfl _ rfl rfl S0.out ?_) | (refine wpList_storeX (b := w.heap.size + 1 + 1) (m := Kx.zero) (m' := c) rfl _ _ rfl rfl rfl R0.out ?_))
      exact bodyPost_ret (v := .tuple #[.agg (Kx.cells c), .slice none 0 0, .int .i64 9]) (results_three rfl _ _ (w.heap.size + 1 + 1) _ rfl (loadVarK shX (R0.out.put (Kx.cells c)) rfl) (.slice none 0 0) rfl (.int .i64 9) rfl) rfl (AnsC.no HY.out (Box.below_setRow HB.out (by omega) _))
    have hx : ¬ (0 < v.om ∧ (c.pf v.ae).size = 0) := fun h => hz (by rw [← hk]; exact h.2)
    rw [decide_eq_false hz] at n1 n2
    obtain ⟨n, hn⟩ : ∃ n : Nat, v.om = n := ⟨v.om.toNat, by omega⟩
    have hal := ahead_len ho g hx
    have hlen : baseN k + n ≤ (c.pf k).size := by
      unfold omL at hal
      rw [List.length_take, List.length_drop, size_list, hn, Int.toNat_natCast, hk] at hal
      have : n ≠ 0 := by omega
      omega
    obtain ⟨pp, hpp⟩ : ∃ p, c.pf k = p := ⟨_, rfl⟩
    obtain ⟨bn, hbn⟩ : ∃ b, baseN k = b := ⟨_, rfl⟩
    rw [hpp, hbn] at hlen
    have PB := Lib.hid (fun V => base_any k V)
    rw [hbn] at PB
    have s1 := sl_l pp (bn : Int) bn pp.size rfl (by omega) rfl
    have s2 := sl_h (pp.extract bn pp.size) (n : Int) n rfl (by simp; omega)
    obtain ⟨ah, hahd⟩ : ∃ x, (pp.extract bn pp.size).extract 0 n = x := ⟨_, rfl⟩
    have hah : ah.data.toList = omL c v := by
      rw [← hahd, ext_list, ext_to]
      unfold omL
      rw [hk, hpp, hbn, hn, List.drop_zero]
      rfl
    have HX := Lib.hid hx
    have HA := Lib.hid hah
    rw [hahd] at s2
    rw [hpp] at n1 n2 p0
    clear hahd hlen hal hbn hx hah
    generalize pp.extract bn pp.size = p2 at *
    have hnn : 0 < (n : Int) := by omega
    rw [hn] at c3
    go_upto_region 9 with (first | (refine st_yes (v := .pointer (some ⟨w.heap.size, k, none⟩)) (by rfl) rfl (ex_indexAt rfl rfl rfl (indexAt4 w.heap.size k hk4 _)) ?_))
    refine wp_region_held_drew (S := fun X => Bk 120 X g1 v.cells) (by kernel_rfl) U0.out (fun hS => ?_)
    have hc0 : ∀ X, Bk 120 X g1 v.cells → X.cell? ⟨g1, 0, none⟩ = some (.int .i64 (k : Int)) := fun X h => by rw [← hk]; exact h.cell 0 _ rfl
    have hc3 : ∀ X, Bk 120 X g1 v.cells → X.cell? ⟨g1, 3, none⟩ = some (.int .i64 (n : Int)) := fun X h => by rw [← hn]; exact h.cell 3 _ rfl
    have HD := Lib.hid (Below.refl V1.heap.size V1).drew
    clear c0 c3 p0 n1 n2 U0
    generalize V1.drew = V2 at *
    refine H.tk (i := 0) (v := .string pp) ?h0z1 hS ?_
    case h0z1 => exact (fun w hw => by go_simp)
    try simp only [Act.put, List.setIfInBounds_toArray, List.set_cons_zero, List.set_cons_succ]
    refine H.tk (i := 1) (v := ?v1z1) ?h1z1 hS ?_
    case h1z1 => (intro w hw; go_simp; first | done | (with_reducible rfl))
    try simp only [Act.put, List.setIfInBounds_toArray, List.set_cons_zero, List.set_cons_succ]
    refine H.tk (i := 2) (v := .int .i64 (k : Int)) ?h2z1 hS ?_
    case h2z1 => exact (fun w hw => by have cq := hc0 w hw; go_simp)
    try simp only [Act.put, List.setIfInBounds_toArray, List.set_cons_zero, List.set_cons_succ]
    refine H.tk (i := 5) (v := ?v5z1) ?h5z1 hS ?_
    case h5z1 => (intro w hw; go_simp; first | done | (with_reducible rfl))
    try simp only [Act.put, List.setIfInBounds_toArray, List.set_cons_zero, List.set_cons_succ]
    refine H.tk (i := 6) (v := .int .i64 (n : Int)) ?h6z1 hS ?_
    case h6z1 => exact (fun w hw => by have cq := hc3 w hw; go_simp)
    try simp only [Act.put, List.setIfInBounds_toArray, List.set_cons_zero, List.set_cons_succ]
    refine wpAnyH_ready (rs := [3]) (by kernel_rfl) (by simp) ?_
    refine AllReadyH.cons rfl (fun K hK => ?_) AllReadyH.nil
    go_simp
    refine (PB.out _).mono ?_
    rintro e X3 ⟨rfl, rfl⟩
    refine hK.out _ _ hS (fun _ => ?_)
    clear hK K
    try simp only [Act.put, List.setIfInBounds_toArray, List.set_cons_zero, List.set_cons_succ]
    refine H.tk (i := 4) (v := .string p2) ?h4z1 hS ?_
    case h4z1 => exact (fun w hw => by go_simp)
    try simp only [Act.put, List.setIfInBounds_toArray, List.set_cons_zero, List.set_cons_succ]
    refine H.tk (i := 7) (v := .string ah) ?h7z1 hS ?_
    case h7z1 => exact (fun w hw => by go_simp)
    try simp only [Act.put, List.setIfInBounds_toArray, List.set_cons_zero, List.set_cons_succ]
    refine H.tk (i := 8) (v := (.string ah)) (fun w _ => rfl) hS ?_
    try simp only [Act.put, List.setIfInBounds_toArray, List.set_cons_zero, List.set_cons_succ]
    refine wpAnyH_done (by kernel_rfl) ?_ _
    go_wp2_with fail
    go_meet
    exact ⟨⟨_, rfl, HA.out⟩, HX.out, HD.out⟩
  case rest =>
    obtain ⟨⟨ah, rfl, hah⟩, hx, hbc⟩ := hcut
    have S0 := Lib.hid (S0.out.below hbc)
    have U0 := Lib.hid (U0.out.below hbc)
    have R0 := Lib.hid (R0.out.below hbc)
    have HL := Lib.hid (HL.out.below hbc)
    have HB := Lib.hid (bcall HB.out hbc)
    clear hbc
    have HY := Lib.hid (hy.trans (stU_yes hx))
    have hi := adr_in ho g hx
    have hzs : (ah ++ v.bytes).size = countN v.ae v.plen := by rw [← whole_size ho g hx, ← size_list, ByteArray.data_append, Array.toList_append, hah, mk_size]
    have hcn := (count_le g.len).1
    have hcat : ∀ W : World, (Op.stringOp .add ah v.bytes).run Tryz.prog W = .ok (.string (ah ++ v.bytes)) W := fun W => run_string_add_sum W _ _ (by have := hzs; rw [ByteArray.size_append] at this; omega)
    have hzz : (⟨(omL c v ++ v.bytes.data.toList).toArray⟩ : ByteArray) = ah ++ v.bytes := text_eq (by rw [ByteArray.data_append, Array.toList_append, hah])
    have PW := Lib.hid (fun V => rwhole_any v.ae (ah ++ v.bytes) v.plen V g.len hzs)
    have HW := Lib.hid (show adrC c v = wholeP v.ae (ah ++ v.bytes) v.plen by unfold adrC; rw [hzz])
    rw [← HW.out, hk] at PW
    have hA0 := g.fl0
    have hA1 := g.fl1
    have hq1 : v.flags.tdiv 64 = v.flags / 64 := Int.tdiv_eq_ediv_of_nonneg hA0
    have hq2 : (v.flags / 64).tmod 2 = v.flags / 64 % 2 := Int.tmod_eq_emod_of_nonneg (by omega)
    generalize ah ++ v.bytes = z at *
    clear hx hzs hcn hzz HW hy hah
    generalize adrC c v = ad at *
    have c0 := U0.out.cell 0 (.int .i64 v.ae) rfl
    rw [hk] at c0
    have c2 := U0.out.cell 2 (.int .i64 v.plen) rfl
    have c8 := U0.out.cell 8 (.string v.bytes) rfl
    go_wp2_with fail
    refine (PW.out _).mono ?_
    rintro e w3 ⟨rfl, hb⟩
    have S0 := Lib.hid (S0.out.below hb)
    have U0 := Lib.hid (U0.out.below hb)
    have R0 := Lib.hid (R0.out.below hb)
    have HL := Lib.hid (HL.out.below hb)
    have HB := Lib.hid (bcall HB.out hb)
    clear hb PW c0 c2 c8 hcat
    have k0 : ((k : Int) == 0) = decide (k = 0) := by rw [Bool.eq_iff_iff]; simp
    have k9 : ((k : Int) != 0) = !decide (k = 0) := by rw [bne, k0]
    go_upto_region 11 with fail
    go_cut [64] (fun m wx => m = .bool (!decide (k = 0) && decide (128 ≤ v.flags)) ∧ Below w3.heap.size w3 wx)
    case first =>
      by_cases hk0 : k = 0
      · have HD := Lib.hid (show (!decide (k = 0) && decide (128 ≤ v.flags)) = false by rw [decide_eq_true hk0]; rfl)
        rw [decide_eq_true hk0] at k0 k9
        have c0 := U0.out.cell 0 (.int .i64 v.ae) rfl
        rw [hk] at c0
        clear hk hk0
        go_wp2_with fail
        go_meet
        exact ⟨by rw [HD.out], Below.refl _ _⟩
      by_cases fa : 128 ≤ v.flags
      · have HD := Lib.hid (show (!decide (k = 0) && decide (128 ≤ v.flags)) = true by rw [decide_eq_false hk0, decide_eq_true fa]; rfl)
        rw [decide_eq_false hk0] at k0 k9
        have c0 := U0.out.cell 0 (.int .i64 v.ae) rfl
        rw [hk] at c0
        have c1 := U0.out.cell 1 (.int .i64 v.flags) rfl
        clear hk hk0
        go_wp2_with fail
        go_meet
        exact ⟨by rw [HD.out], Below.refl _ _⟩
      have HD := Lib.hid (show (!decide (k = 0) && decide (128 ≤ v.flags)) = false by rw [decide_eq_false hk0, decide_eq_false fa]; rfl)
      rw [decide_eq_false hk0] at k0 k9
      have c0 := U0.out.cell 0 (.int .i64 v.ae) rfl
      rw [hk] at c0
      have c1 := U0.out.cell 1 (.int .i64 v.flags) rfl
      clear hk hk0
      go_wp2_with fail
      go_meet
      exact ⟨by rw [HD.out], Below.refl _ _⟩
    case rest =>
      obtain ⟨rfl, hbc⟩ := hcut
      have S0 := Lib.hid (S0.out.below hbc)
      have U0 := Lib.hid (U0.out.below hbc)
      have R0 := Lib.hid (R0.out.below hbc)
      have HL := Lib.hid (HL.out.below hbc)
      have HB := Lib.hid (bcall HB.out hbc)
      clear hbc k0 k9
      go_upto_if 64 with fail
      go_cut [] (fun wx => Bk 44 wx w.heap.size (fl1 c v ad).cells ∧ Bk 120 wx g1 v.cells ∧ Bk 44 wx (w.heap.size + 1 + 1) Kx.zero.cells ∧ Below w.heap.size w wx ∧ Sx.Lst B1 wx (.slice v.sa v.sl.length v.sc) v.sl)
      case first =>
        by_cases hk0 : k = 0
        · have HF := Lib.hid (show fl1 c v ad = c by unfold fl1; rw [if_pos (show v.ae = 0 by omega)])
          rw [show (!decide (k = 0) && decide (128 ≤ v.flags)) = false by rw [decide_eq_true hk0]; rfl]
          rw [← HF.out] at S0
          clear hk hk0
          go_wp2_with fail
          go_meet
          exact ⟨S0.out, U0.out, R0.out, HB.out, HL.out⟩
        by_cases fa : 128 ≤ v.flags
        · have HF := Lib.hid (show fl1 c v ad = c.setP k ad by unfold fl1; rw [if_neg (show ¬ v.ae = 0 by omega), if_pos fa, hk])
          rw [show (!decide (k = 0) && decide (128 ≤ v.flags)) = true by rw [decide_eq_false hk0, decide_eq_true fa]; rfl]
          have c0 := U0.out.cell 0 (.int .i64 v.ae) rfl
          rw [hk] at c0
          have d0 := pf_cellX S0.out hk4
          have fd := S0.out.frozen k
          clear hk hk0
          go_wp2_with (first | (refine st_yes (v := .pointer (some ⟨w.heap.size, k, none⟩)) (by rfl) rfl (ex_indexAt rfl rfl rfl (indexAt4 w.heap.size k hk4 _)) ?_))
          have XS := S0.out.set (i := k) (v := .string ad) (cs' := Kx.cells (c.setP k ad)) (setP_cellsX c ad hk4)
          have XU := U0.out.off (p := ⟨w.heap.size, k, none⟩) (by show g1 ≠ w.heap.size; omega) (.string ad)
          have XR := R0.out.off (p := ⟨w.heap.size, k, none⟩) (by show w.heap.size + 1 + 1 ≠ w.heap.size; omega) (.string ad)
          have XB := HB.out.setCell (p := ⟨w.heap.size, k, none⟩) (by show w.heap.size ≤ w.heap.size; omega) (.string ad)
          have XL := lst_cell (u := .string ad) (p := ⟨w.heap.size, k, none⟩) HL.out (by show w.heap.size < B1; omega)
          have S0 := Lib.hid XS
          have U0 := Lib.hid XU
          have R0 := Lib.hid XR
          have HB := Lib.hid XB
          have HL := Lib.hid XL
          clear XS XU XR XB XL d0 fd
          generalize World.setCell _ ⟨w.heap.size, k, none⟩ (.string ad) = Y1 at *
          rw [← HF.out] at S0
          go_meet
          exact ⟨S0.out, U0.out, R0.out, HB.out, HL.out⟩
        have HF := Lib.hid (show fl1 c v ad = c by unfold fl1; rw [if_neg (show ¬ v.ae = 0 by omega), if_neg fa])
        rw [show (!decide (k = 0) && decide (128 ≤ v.flags)) = false by rw [decide_eq_false fa, Bool.and_false]]
        rw [← HF.out] at S0
        clear hk hk0
        go_wp2_with fail
        go_meet
        exact ⟨S0.out, U0.out, R0.out, HB.out, HL.out⟩
      case rest =>
        obtain ⟨hS, hU, hR, hb, hL⟩ := hcut
        have S0 := Lib.hid hS
        have U0 := Lib.hid hU
        have R0 := Lib.hid hR
        have HB := Lib.hid hb
        have HL := Lib.hid hL
        clear hS hU hR hb hL
        generalize hc1 : fl1 c v ad = c1 at *
        obtain ⟨Wq, hWq⟩ : ∃ W : World, W = wc := ⟨_, rfl⟩
        rw [← hWq]
        rw [← hWq] at S0 U0 R0 HB HL
        clear hWq
        have k0 : ((k : Int) == 0) = decide (k = 0) := by rw [Bool.eq_iff_iff]; simp
        have k9 : ((k : Int) != 0) = !decide (k = 0) := by rw [bne, k0]
        go_upto_region 13 with fail
        go_cut [79] (fun m wx => m = .bool (!decide (k = 0) && decide (v.flags / 64 % 2 = 1)) ∧ Below Wq.heap.size Wq wx)
        case first =>
          by_cases hk0 : k = 0
          · have HD := Lib.hid (show (!decide (k = 0) && decide (v.flags / 64 % 2 = 1)) = false by rw [decide_eq_true hk0]; rfl)
            rw [decide_eq_true hk0] at k0 k9
            have c0 := U0.out.cell 0 (.int .i64 v.ae) rfl
            rw [hk] at c0
            clear hk hk0
            go_wp2_with fail
            go_meet
            exact ⟨by rw [HD.out], Below.refl _ _⟩
          by_cases fb : v.flags / 64 % 2 = 1
          · have HD := Lib.hid (show (!decide (k = 0) && decide (v.flags / 64 % 2 = 1)) = true by rw [decide_eq_false hk0, decide_eq_true fb]; rfl)
            rw [decide_eq_false hk0] at k0 k9
            have c0 := U0.out.cell 0 (.int .i64 v.ae) rfl
            rw [hk] at c0
            have c1 := U0.out.cell 1 (.int .i64 v.flags) rfl
            clear hk hk0
            go_wp2_with fail
            go_meet
            exact ⟨by rw [HD.out], Below.refl _ _⟩
          have HD := Lib.hid (show (!decide (k = 0) && decide (v.flags / 64 % 2 = 1)) = false by rw [decide_eq_false hk0, decide_eq_false fb]; rfl)
          rw [decide_eq_false hk0] at k0 k9
          have c0 := U0.out.cell 0 (.int .i64 v.ae) rfl
          rw [hk] at c0
          have c1 := U0.out.cell 1 (.int .i64 v.flags) rfl
          have fb2 : (v.flags / 64 % 2 == 1) = false := by simpa using fb
          clear hk hk0
          go_wp2_with fail
          go_meet
          exact ⟨by rw [HD.out], Below.refl _ _⟩
        case rest =>
          obtain ⟨rfl, hbc⟩ := hcut
          have S0 := Lib.hid (S0.out.below hbc)
          have U0 := Lib.hid (U0.out.below hbc)
          have R0 := Lib.hid (R0.out.below hbc)
          have HL := Lib.hid (HL.out.below hbc)
          have HB := Lib.hid (bcall HB.out hbc)
          clear hbc k0 k9
          go_upto_if 79 with fail
          go_cut [] (fun wx => Bk 44 wx w.heap.size (fl2 c1 v ad).cells ∧ Bk 120 wx g1 v.cells ∧ Bk 44 wx (w.heap.size + 1 + 1) Kx.zero.cells ∧ Below w.heap.size w wx ∧ Sx.Lst B1 wx (.slice v.sa v.sl.length v.sc) v.sl)
          case first =>
            clear hc1
            by_cases hk0 : k = 0
            · have HF := Lib.hid (show fl2 c1 v ad = c1 by unfold fl2; rw [if_pos (show v.ae = 0 by omega)])
              rw [show (!decide (k = 0) && decide (v.flags / 64 % 2 = 1)) = false by rw [decide_eq_true hk0]; rfl]
              rw [← HF.out] at S0
              clear hk hk0
              go_wp2_with fail
              go_meet
              exact ⟨S0.out, U0.out, R0.out, HB.out, HL.out⟩
            by_cases fb : v.flags / 64 % 2 = 1
            rotate_left
            · have HF := Lib.hid (show fl2 c1 v ad = c1 by unfold fl2; rw [if_neg (show ¬ v.ae = 0 by omega), if_neg fb])
              rw [show (!decide (k = 0) && decide (v.flags / 64 % 2 = 1)) = false by rw [decide_eq_false fb, Bool.and_false]]
              rw [← HF.out] at S0
              clear hk hk0
              go_wp2_with fail
              go_meet
              exact ⟨S0.out, U0.out, R0.out, HB.out, HL.out⟩
            have HF := Lib.hid (show fl2 c1 v ad = { c1 with id := idA ad } by unfold fl2; rw [if_neg (show ¬ v.ae = 0 by omega), if_pos fb])
            rw [show (!decide (k = 0) && decide (v.flags / 64 % 2 = 1)) = true by rw [decide_eq_false hk0, decide_eq_true fb]; rfl]
            have h16 := K1.adr_len (J_in hi) (by omega) g.ae3
            have d0 := S0.out.cell 6 _ rfl
            have fd := S0.out.frozen 6
            go_upto_region 15 with fail
            have XS := S0.out.set (i := 6) (v := .string ad) (cs' := Kx.cells { c1 with id := ad }) rfl
            have XU := U0.out.off (p := ⟨w.heap.size, 6, none⟩) (by show g1 ≠ w.heap.size; omega) (.string ad)
            have XR := R0.out.off (p := ⟨w.heap.size, 6, none⟩) (by show w.heap.size + 1 + 1 ≠ w.heap.size; omega) (.string ad)
            have XB := HB.out.setCell (p := ⟨w.heap.size, 6, none⟩) (by show w.heap.size ≤ w.heap.size; omega) (.string ad)
            have XL := lst_cell (u := .string ad) (p := ⟨w.heap.size, 6, none⟩) HL.out (by show w.heap.size < B1; omega)
            have S0 := Lib.hid XS
            have U0 := Lib.hid XU
            have R0 := Lib.hid XR
            have HB := Lib.hid XB
            have HL := Lib.hid XL
            clear XS XU XR XB XL d0 fd
            generalize World.setCell _ ⟨w.heap.size, 6, none⟩ (.string ad) = Y2 at *
            by_cases hk1 : k = 1
            · have hz4 : ad.size = 4 := by rw [h16, hk, hk1]; rfl
              have c0 := U0.out.cell 0 (.int .i64 v.ae) rfl
              rw [hk] at c0
              rw [hk1] at c0
              have hI := idA_4 hz4
              have hcat2 : ∀ W : World, (Op.stringOp .add ⟨#[0, 0, 0, 0]⟩ ad).run Tryz.prog W = .ok (.string (idA ad)) W := fun W => by rw [← hI]; exact run_string_add_sum W _ _ (by show 4 + ad.size ≤ _; omega)
              have hIs := idA_size ad
              have hIl := sl_l (idA ad) 0 0 8 rfl (by omega) hIs
              have hIx : (idA ad).extract 0 8 = idA ad := text_eq (by rw [ext_list, List.drop_zero]; exact List.take_of_length_le (by rw [size_list, hIs]; exact Nat.le_refl _))
              rw [hIx] at hIl
              have hIw : wrap64 (((idA ad).size : Int) - 8) = 0 := by rw [hIs, IntWalk.wrap64_in _ ⟨by omega, by omega⟩]; omega
              have d0 := S0.out.cell 6 _ rfl
              have fd := S0.out.frozen 6
              clear hk hk0 h16 hI hIx hIs
              generalize idA ad = ia at *
              go_upto_region 17 with fail
              have XS := S0.out.set (i := 6) (v := .string ia) (cs' := Kx.cells { c1 with id := ia }) rfl
              have XU := U0.out.off (p := ⟨w.heap.size, 6, none⟩) (by show g1 ≠ w.heap.size; omega) (.string ia)
              have XR := R0.out.off (p := ⟨w.heap.size, 6, none⟩) (by show w.heap.size + 1 + 1 ≠ w.heap.size; omega) (.string ia)
              have XB := HB.out.setCell (p := ⟨w.heap.size, 6, none⟩) (by show w.heap.size ≤ w.heap.size; omega) (.string ia)
              have XL := lst_cell (u := .string ia) (p := ⟨w.heap.size, 6, none⟩) HL.out (by show w.heap.size < B1; omega)
              have S0 := Lib.hid XS
              have U0 := Lib.hid XU
              have R0 := Lib.hid XR
              have HB := Lib.hid XB
              have HL := Lib.hid XL
              clear XS XU XR XB XL d0 fd
              generalize World.setCell _ ⟨w.heap.size, 6, none⟩ (.string ia) = Y3 at *
              clear c0
              have c6 := S0.out.cell 6 (.string ia) rfl
              have d0 := S0.out.cell 6 _ rfl
              have fd := S0.out.frozen 6
              go_wp2_with fail
              have XS := S0.out.set (i := 6) (v := .string ia) (cs' := Kx.cells { c1 with id := ia }) rfl
              have XU := U0.out.off (p := ⟨w.heap.size, 6, none⟩) (by show g1 ≠ w.heap.size; omega) (.string ia)
              have XR := R0.out.off (p := ⟨w.heap.size, 6, none⟩) (by show w.heap.size + 1 + 1 ≠ w.heap.size; omega) (.string ia)
              have XB := HB.out.setCell (p := ⟨w.heap.size, 6, none⟩) (by show w.heap.size ≤ w.heap.size; omega) (.string ia)
              have XL := lst_cell (u := .string ia) (p := ⟨w.heap.size, 6, none⟩) HL.out (by show w.heap.size < B1; omega)
              have S0 := Lib.hid XS
              have U0 := Lib.hid XU
              have R0 := Lib.hid XR
              have HB := Lib.hid XB
              have HL := Lib.hid XL
              clear XS XU XR XB XL d0 fd
              generalize World.setCell _ ⟨w.heap.size, 6, none⟩ (.string ia) = Y4 at *
              rw [← HF.out] at S0
              go_meet
              exact ⟨S0.out, U0.out, R0.out, HB.out, HL.out⟩
            have c0 := U0.out.cell 0 (.int .i64 v.ae) rfl
            rw [hk] at c0
            have k3 : ((k : Int) == 1) = false := by simpa using (show ¬ (k : Int) = 1 by omega)
            have hz16 : ad.size = 16 := by rw [h16, if_neg (by omega)]
            have hIl := sl_l ad 8 8 16 rfl (by omega) hz16
            rw [idA_16 hz16] at hIl
            have hIw : wrap64 ((ad.size : Int) - 8) = 8 := by rw [hz16, IntWalk.wrap64_in _ ⟨by omega, by omega⟩]; omega
            have c6 := S0.out.cell 6 (.string ad) rfl
            have d0 := S0.out.cell 6 _ rfl
            have fd := S0.out.frozen 6
            clear hk hk0 h16 hz16
            generalize idA ad = ia at *
            go_wp2_with fail
            have XS := S0.out.set (i := 6) (v := .string ia) (cs' := Kx.cells { c1 with id := ia }) rfl
            have XU := U0.out.off (p := ⟨w.heap.size, 6, none⟩) (by show g1 ≠ w.heap.size; omega) (.string ia)
            have XR := R0.out.off (p := ⟨w.heap.size, 6, none⟩) (by show w.heap.size + 1 + 1 ≠ w.heap.size; omega) (.string ia)
            have XB := HB.out.setCell (p := ⟨w.heap.size, 6, none⟩) (by show w.heap.size ≤ w.heap.size; omega) (.string ia)
            have XL := lst_cell (u := .string ia) (p := ⟨w.heap.size, 6, none⟩) HL.out (by show w.heap.size < B1; omega)
            have S0 := Lib.hid XS
            have U0 := Lib.hid XU
            have R0 := Lib.hid XR
            have HB := Lib.hid XB
            have HL := Lib.hid XL
            clear XS XU XR XB XL d0 fd
            generalize World.setCell _ ⟨w.heap.size, 6, none⟩ (.string ia) = Y3 at *
            rw [← HF.out] at S0
            go_meet
            exact ⟨S0.out, U0.out, R0.out, HB.out, HL.out⟩
          case rest =>
            obtain ⟨hS, hU, hR, hb, hL⟩ := hcut
            have S0 := Lib.hid hS
            have U0 := Lib.hid hU
            have R0 := Lib.hid hR
            have HB := Lib.hid hb
            have HL := Lib.hid hL
            clear hS hU hR hb hL
            rw [← hc1, ← flagC_is] at S0
            clear hc1 hk hA0 hA1 hq1 hq2
            have P4 := Lib.hid (fun V => told_any (flagC c v ad) d v ad V g)
            generalize flagC c v ad = cf at *
            go_wp2_with (first | (refine wpList_loadX (b := w.heap.size) (m := cf) rfl _ rfl rfl S0.out ?_) | (refine wpList_loadU (b := g1) (m := v) rfl _ rfl rfl U0.out ?_))
            refine (P4.out _).mono ?_
            rintro e w5 ⟨rfl, hb⟩
            have S0 := Lib.hid (S0.out.below hb)
            have U0 := Lib.hid (U0.out.below hb)
            have R0 := Lib.hid (R0.out.below hb)
            have HL := Lib.hid (HL.out.below hb)
            have HB := Lib.hid (bcall HB.out hb)
            clear hb P4
            have hgg := U0.out.lt
            go_upto_region 19 with (refine wpList_storeM (b := w5.heap.size) (m := M.zero) (m' := toldM cf v ad) rfl _ _ rfl rfl rfl (Bx.new w5 M.zero) ?_)
            change Code.wp _ _ _ _ ((w5.alloc (.cells M.zero.cells 38)).setRow w5.heap.size (toldM cf v ad).cells)
            rw [World.setRow_alloc_new]
            have bel := balloc (Below.refl w5.heap.size w5) (.cells (toldM cf v ad).cells 38)
            have hlt5 := R0.out.lt
            have S0 := Lib.hid (S0.out.below bel)
            have R0 := Lib.hid (R0.out.below bel)
            have HL := Lib.hid (HL.out.below bel)
            have HB := Lib.hid (bcall HB.out bel)
            have X0 := Lib.hid (Bx.new w5 (toldM cf v ad))
            have HTM := Lib.hid (show tellB cf v = true → toldM cf v ad = { updM cf v ad with sa := v.sa, sc := v.sc } from fun h => by unfold toldM; rw [if_pos h])
            clear bel U0
            generalize w5.alloc (.cells (toldM cf v ad).cells 38) = V6 at *
            generalize w5.heap.size = g6 at *
            generalize toldM cf v ad = nm at *
            cases htb : tellB cf v with
            | false =>
              rw [htb] at HY
              have HY := Lib.hid (show out8 c d = (cf, [], 0) from HY.out)
              clear htb HTM X0 HL
              go_wp2_with (first | (refine wpList_loadX (b := w.heap.size) (m := cf) rfl _ rfl rfl S0.out ?_) | (refine wpList_storeX (b := w.heap.size + 1 + 1) (m := Kx.zero) (m' := cf) rfl _ _ rfl rfl rfl R0.out ?_))
              exact bodyPost_ret (v := .tuple #[.agg (Kx.cells cf), .slice none 0 0, .int .i64 0]) (results_three rfl _ _ (w.heap.size + 1 + 1) _ rfl (loadVarK shX (R0.out.put (Kx.cells cf)) rfl) (.slice none 0 0) rfl (.int .i64 0) rfl) rfl (AnsC.no HY.out (Box.below_setRow HB.out (by omega) _))
            | true =>
              have HY := Lib.hid (show out8 c d = (cf, [updM cf v ad], 0) by rw [HY.out, htb]; rfl)
              have hnm := HTM.out htb
              have hll : nm.ll = [] := by rw [hnm]; rfl
              have HP := Lib.hid (show Pl nm (updM cf v ad) by rw [hnm]; rfl)
              have HL := Lib.hid (show Sx.Lst B1 V6 (.slice nm.sa nm.sl.length nm.sc) nm.sl by rw [hnm]; exact HL.out)
              clear htb HTM hnm
              go_upto_region 21 with fail
              refine wp_region_held_drew (S := fun X => Bk 44 X w.heap.size cf.cells ∧ Bx X g6 nm) (by kernel_rfl) ⟨S0.out, X0.out⟩ (fun hS => ?_)
              have R0 := Lib.hid (show Bk 44 V6.drew (w.heap.size + 1 + 1) Kx.zero.cells from R0.out)
              have HB := Lib.hid HB.out.drew
              have HL := Lib.hid (HL.out.below (Below.refl _ V6).drew)
              have hB6 : B1 ≤ V6.drew.heap.size := by have := X0.out.lt; show B1 ≤ V6.heap.size; omega
              have hR6 : w.heap.size + 1 + 1 < g6 := hlt5
              clear S0 X0
              generalize V6.drew = Z0 at *
              refine H.tk (i := 0) (v := .agg cf.cells) ?h0x1z2 hS ?_
              case h0x1z2 => exact (fun w hw => run_loadK shX (x := .tmp 2) rfl rfl hw.1 rfl)
              try simp only [Act.put, List.setIfInBounds_toArray, List.set_cons_zero, List.set_cons_succ]
              refine H.tk (i := 1) (v := .agg nm.cells) ?h1x2z2 hS ?_
              case h1x2z2 => exact (fun w hw => run_loadM (x := .tmp 13) rfl rfl hw.2)
              try simp only [Act.put, List.setIfInBounds_toArray, List.set_cons_zero, List.set_cons_succ]
              refine H.two (i := 2) (j := 3) (by simp only [List.getElem?_toArray, List.getElem?_cons_succ, List.getElem?_cons_zero]; rfl) (by kernel_rfl) (by simp only [List.getElem?_toArray, List.getElem?_cons_succ, List.getElem?_cons_zero]; rfl) (by kernel_rfl) (by kernel_rfl) (fun K hK => ?wa3z2) (fun K hK => ?wb3z2)
              case wa3z2 =>
                refine wp_valW rfl (Ap.ex_bs (m := nm) rfl rfl) ?_
                refine hK.out _ _ ⟨hS.1.old _, hS.2.old _⟩ ?_
                clear hK K
                have hS := (show Bk 44 (Z0.alloc (.cells nm.cells 38)) w.heap.size cf.cells ∧ Bx (Z0.alloc (.cells nm.cells 38)) g6 nm from ⟨hS.1.old _, hS.2.old _⟩)
                try simp only [Act.put, List.setIfInBounds_toArray, List.set_cons_zero, List.set_cons_succ]
                refine H.one (i := 3) (by simp only [List.getElem?_toArray, List.getElem?_cons_succ, List.getElem?_cons_zero]; rfl) (by kernel_rfl) (by kernel_rfl) (fun K hK => ?_)
                refine wp_store_row 44 _ _ rfl (w.heap.size + 1 + 1) cf.cells rfl rfl 44 Kx.zero.cells (R0.out.old _) infoX rfl (oneX cf) ?_
                refine hK.out _ _ ⟨hS.1.row (by omega) _, Bx.row hS.2 (by omega) _⟩ ?_
                clear hK K
                have hS := (show Bk 44 ((Z0.alloc (.cells nm.cells 38)).setRow (w.heap.size + 1 + 1) cf.cells) w.heap.size cf.cells ∧ Bx ((Z0.alloc (.cells nm.cells 38)).setRow (w.heap.size + 1 + 1) cf.cells) g6 nm from ⟨hS.1.row (by omega) _, Bx.row hS.2 (by omega) _⟩)
                refine H.tk (i := 4) (v := ?v4x4z2) ?h4x4z2 hS ?_
                case h4x4z2 => (intro w hw; go_simp; first | done | (with_reducible rfl))
                try simp only [Act.put, List.setIfInBounds_toArray, List.set_cons_zero, List.set_cons_succ]
                refine H.tk (i := 5) (v := (Value.int IntKind.i64 0)) (fun w _ => rfl) hS ?_
                try simp only [Act.put, List.setIfInBounds_toArray, List.set_cons_zero, List.set_cons_succ]
                refine wpAnyH_done (by kernel_rfl) ?_ _
                go_wp2_with fail
                exact bodyPost_ret (v := .tuple #[.agg cf.cells, .slice (some ⟨Z0.heap.size, 0, none⟩) 1 1, .int .i64 0]) (results_three rfl _ _ (w.heap.size + 1 + 1) _ rfl (loadVarK shX ((R0.out.old (.cells nm.cells 38)).put cf.cells) rfl) (.slice (some ⟨Z0.heap.size, 0, none⟩) 1 1) rfl (.int .i64 0) rfl) rfl (AnsC.one HY.out HP.out (((one_new (n := nm) hll HL.out hB6).under (by omega) _).mono hwB) (Box.below_setRow (HB.out.alloc HB.out.size _) (by omega) _))
              case wb3z2 =>
                refine wp_store_row 44 _ _ rfl (w.heap.size + 1 + 1) cf.cells rfl rfl 44 Kx.zero.cells R0.out infoX rfl (oneX cf) ?_
                refine hK.out _ _ ⟨hS.1.row (by omega) _, Bx.row hS.2 (by omega) _⟩ ?_
                clear hK K
                have hS := (show Bk 44 (Z0.setRow (w.heap.size + 1 + 1) cf.cells) w.heap.size cf.cells ∧ Bx (Z0.setRow (w.heap.size + 1 + 1) cf.cells) g6 nm from ⟨hS.1.row (by omega) _, Bx.row hS.2 (by omega) _⟩)
                refine H.one (i := 2) (by simp only [List.getElem?_toArray, List.getElem?_cons_succ, List.getElem?_cons_zero]; rfl) (by kernel_rfl) (by kernel_rfl) (fun K hK => ?_)
                refine wp_valW rfl (Ap.ex_bs (m := nm) rfl rfl) ?_
                refine hK.out _ _ ⟨hS.1.old _, hS.2.old _⟩ ?_
                clear hK K
                have hS := (show Bk 44 ((Z0.setRow (w.heap.size + 1 + 1) cf.cells).alloc (.cells nm.cells 38)) w.heap.size cf.cells ∧ Bx ((Z0.setRow (w.heap.size + 1 + 1) cf.cells).alloc (.cells nm.cells 38)) g6 nm from ⟨hS.1.old _, hS.2.old _⟩)
                try simp only [Act.put, List.setIfInBounds_toArray, List.set_cons_zero, List.set_cons_succ]
                refine H.tk (i := 4) (v := ?v4x6z2) ?h4x6z2 hS ?_
                case h4x6z2 => (intro w hw; go_simp; first | done | (with_reducible rfl))
                try simp only [Act.put, List.setIfInBounds_toArray, List.set_cons_zero, List.set_cons_succ]
                refine H.tk (i := 5) (v := (Value.int IntKind.i64 0)) (fun w _ => rfl) hS ?_
                try simp only [Act.put, List.setIfInBounds_toArray, List.set_cons_zero, List.set_cons_succ]
                refine wpAnyH_done (by kernel_rfl) ?_ _
                go_wp2_with fail
                exact bodyPost_ret (v := .tuple #[.agg cf.cells, .slice (some ⟨Z0.heap.size, 0, none⟩) 1 1, .int .i64 0]) (results_three rfl _ _ (w.heap.size + 1 + 1) _ rfl (loadVarK shX ((R0.out.put cf.cells).old (.cells nm.cells 38)) rfl) (.slice (some ⟨Z0.heap.size, 0, none⟩) 1 1) rfl (.int .i64 0) rfl) rfl (AnsC.one HY.out HP.out ((by have hq := one_new (n := nm) hll (lst_under HL.out (g := w.heap.size + 1 + 1) (by omega) cf.cells) (by simpa using hB6); rw [show (Z0.setRow (w.heap.size + 1 + 1) cf.cells).heap.size = Z0.heap.size by simp] at hq; exact hq.mono hwB)) ((Box.below_setRow HB.out (by omega) _).alloc (by simpa using HB.out.size) _))
set_option maxHeartbeats 12800000 in
theorem rstep_any (c : Kx) (a t : Int) (d : ByteArray) (w : World) (h : t = 6 ∨ t = 7 ∨ t = 8) (hc : okC c = true) (hs : d.size ≤ 100000) :
    Calls Tryz.prog 69 #[.agg c.cells, .agg (cellsT (a, (d, t)))] w (AnsC (outC c t d) w) := by
  rcases h with rfl | rfl | rfl
  · have PX := Lib.hid (fun V => fixed_any d 10 10 rfl V hs (by decide))
    have HY0 := Lib.hid (show outC c 6 d = if (fixO d 10).2 = 0 ∧ (fixO d 10).1 = true then ({ c with id := d.extract 2 10 }, [], 0) else (c, [], (fixO d 10).2) from rfl)
    have hfs := fix_short (d := d) (z := 10)
    obtain ⟨⟨kn, er⟩, ho⟩ : ∃ q, fixO d 10 = q := ⟨_, rfl⟩
    rw [ho] at PX HY0 hfs
    by_cases he : er = 0
    rotate_left
    · have HY := Lib.hid (HY0.out.trans (if_neg (fun h => he h.1)))
      have e1 : (er == 0) = false := by simpa using he
      clear he HY0 ho hfs hs hc
      go_enter Tryz.func69, Tryz.ntmps69
      go_upto_region 1 with fail
      change Code.wp _ _ _ _ (((w.alloc (.cells c.cells 44)).alloc (.cells (cellsT (a, (d, 6))) 79)).alloc (.cells Kx.zero.cells 44))
      have S0 := Lib.hid (((Bk.Bk.new 44 w c.cells).old (.cells (cellsT (a, (d, 6))) 79)).old (.cells Kx.zero.cells 44))
      have T0 := Bk.Bk.new 79 (w.alloc (.cells c.cells 44)) (cellsT (a, (d, 6)))
      rw [alloc_size] at T0
      have T0 := Lib.hid (T0.old (.cells Kx.zero.cells 44))
      have R0 := Bk.Bk.new 44 ((w.alloc (.cells c.cells 44)).alloc (.cells (cellsT (a, (d, 6))) 79)) Kx.zero.cells
      rw [alloc_size, alloc_size] at R0
      have R0 := Lib.hid R0
      have HB := Lib.hid (balloc (balloc (balloc (Below.refl _ w) (.cells c.cells 44)) (.cells (cellsT (a, (d, 6))) 79)) (.cells Kx.zero.cells 44))
      have hlt := R0.out.lt
      generalize ((w.alloc (.cells c.cells 44)).alloc (.cells (cellsT (a, (d, 6))) 79)).alloc (.cells Kx.zero.cells 44) = W at *
      have c0 := T0.out.cell 0 (.int .i64 6) rfl
      have c2 := T0.out.cell 2 (.string d) rfl
      go_wp2_with fail
      refine (PX.out _).mono ?_
      rintro r w2 ⟨rfl, hb⟩
      have S0 := Lib.hid (S0.out.below hb)
      have R0 := Lib.hid (R0.out.below hb)
      have T0 := Lib.hid (T0.out.below hb)
      have HB := Lib.hid (bcall HB.out hb)
      clear hb c0 c2 PX
      go_wp2_with (first | (refine wpList_loadX (b := w.heap.size) (m := c) rfl _ rfl rfl S0.out ?_) | (refine wpList_storeX (b := w.heap.size + 1 + 1) (m := Kx.zero) (m' := c) rfl _ _ rfl rfl rfl R0.out ?_))
      exact bodyPost_ret (v := .tuple #[.agg (Kx.cells c), .slice none 0 0, .int .i64 er]) (results_three rfl _ _ (w.heap.size + 1 + 1) _ rfl (loadVarK shX (R0.out.put (Kx.cells c)) rfl) (.slice none 0 0) rfl (.int .i64 er) rfl) rfl (AnsC.no HY.out (Box.below_setRow HB.out (by omega) _))
    subst he
    cases kn with
    | false =>
      have HY := Lib.hid (HY0.out.trans (if_neg (fun h => by cases h.2)))
      clear HY0 ho hfs hs hc
      go_enter Tryz.func69, Tryz.ntmps69
      go_upto_region 1 with fail
      change Code.wp _ _ _ _ (((w.alloc (.cells c.cells 44)).alloc (.cells (cellsT (a, (d, 6))) 79)).alloc (.cells Kx.zero.cells 44))
      have S0 := Lib.hid (((Bk.Bk.new 44 w c.cells).old (.cells (cellsT (a, (d, 6))) 79)).old (.cells Kx.zero.cells 44))
      have T0 := Bk.Bk.new 79 (w.alloc (.cells c.cells 44)) (cellsT (a, (d, 6)))
      rw [alloc_size] at T0
      have T0 := Lib.hid (T0.old (.cells Kx.zero.cells 44))
      have R0 := Bk.Bk.new 44 ((w.alloc (.cells c.cells 44)).alloc (.cells (cellsT (a, (d, 6))) 79)) Kx.zero.cells
      rw [alloc_size, alloc_size] at R0
      have R0 := Lib.hid R0
      have HB := Lib.hid (balloc (balloc (balloc (Below.refl _ w) (.cells c.cells 44)) (.cells (cellsT (a, (d, 6))) 79)) (.cells Kx.zero.cells 44))
      have hlt := R0.out.lt
      generalize ((w.alloc (.cells c.cells 44)).alloc (.cells (cellsT (a, (d, 6))) 79)).alloc (.cells Kx.zero.cells 44) = W at *
      have c0 := T0.out.cell 0 (.int .i64 6) rfl
      have c2 := T0.out.cell 2 (.string d) rfl
      go_wp2_with fail
      refine (PX.out _).mono ?_
      rintro r w2 ⟨rfl, hb⟩
      have S0 := Lib.hid (S0.out.below hb)
      have R0 := Lib.hid (R0.out.below hb)
      have T0 := Lib.hid (T0.out.below hb)
      have HB := Lib.hid (bcall HB.out hb)
      clear hb c0 c2 PX
      go_wp2_with (first | (refine wpList_loadX (b := w.heap.size) (m := c) rfl _ rfl rfl S0.out ?_) | (refine wpList_storeX (b := w.heap.size + 1 + 1) (m := Kx.zero) (m' := c) rfl _ _ rfl rfl rfl R0.out ?_))
      exact bodyPost_ret (v := .tuple #[.agg (Kx.cells c), .slice none 0 0, .int .i64 0]) (results_three rfl _ _ (w.heap.size + 1 + 1) _ rfl (loadVarK shX (R0.out.put (Kx.cells c)) rfl) (.slice none 0 0) rfl (.int .i64 0) rfl) rfl (AnsC.no HY.out (Box.below_setRow HB.out (by omega) _))
    | true =>
      have HY := Lib.hid (HY0.out.trans (if_pos ⟨rfl, rfl⟩))
      have hzz : 10 ≤ d.size := by
        by_cases h : d.size < 10
        · have := hfs h
          cases this
        · omega
      have sla := sl_m d 2 10 2 10 rfl rfl (by omega) (by omega)
      clear HY0 ho hfs hs hc hzz
      generalize d.extract 2 10 = eb at *
      go_enter Tryz.func69, Tryz.ntmps69
      go_upto_region 1 with fail
      change Code.wp _ _ _ _ (((w.alloc (.cells c.cells 44)).alloc (.cells (cellsT (a, (d, 6))) 79)).alloc (.cells Kx.zero.cells 44))
      have S0 := Lib.hid (((Bk.Bk.new 44 w c.cells).old (.cells (cellsT (a, (d, 6))) 79)).old (.cells Kx.zero.cells 44))
      have T0 := Bk.Bk.new 79 (w.alloc (.cells c.cells 44)) (cellsT (a, (d, 6)))
      rw [alloc_size] at T0
      have T0 := Lib.hid (T0.old (.cells Kx.zero.cells 44))
      have R0 := Bk.Bk.new 44 ((w.alloc (.cells c.cells 44)).alloc (.cells (cellsT (a, (d, 6))) 79)) Kx.zero.cells
      rw [alloc_size, alloc_size] at R0
      have R0 := Lib.hid R0
      have HB := Lib.hid (balloc (balloc (balloc (Below.refl _ w) (.cells c.cells 44)) (.cells (cellsT (a, (d, 6))) 79)) (.cells Kx.zero.cells 44))
      have hlt := R0.out.lt
      generalize ((w.alloc (.cells c.cells 44)).alloc (.cells (cellsT (a, (d, 6))) 79)).alloc (.cells Kx.zero.cells 44) = W at *
      have c0 := T0.out.cell 0 (.int .i64 6) rfl
      have c2 := T0.out.cell 2 (.string d) rfl
      go_wp2_with fail
      refine (PX.out _).mono ?_
      rintro r w2 ⟨rfl, hb⟩
      have S0 := Lib.hid (S0.out.below hb)
      have R0 := Lib.hid (R0.out.below hb)
      have T0 := Lib.hid (T0.out.below hb)
      have HB := Lib.hid (bcall HB.out hb)
      clear hb c0 c2 PX
      have c2 := T0.out.cell 2 (.string d) rfl
      have d0 := S0.out.cell 6 _ rfl
      have fd := S0.out.frozen 6
      go_upto_region 6 with fail
      have XS := S0.out.set (i := 6) (v := .string eb) (cs' := Kx.cells { c with id := eb }) rfl
      have XR := R0.out.off (p := ⟨w.heap.size, 6, none⟩) (by show w.heap.size + 1 + 1 ≠ w.heap.size; omega) (.string eb)
      have XB := HB.out.setCell (p := ⟨w.heap.size, 6, none⟩) (by show w.heap.size ≤ w.heap.size; omega) (.string eb)
      have S0 := Lib.hid XS
      have R0 := Lib.hid XR
      have HB := Lib.hid XB
      clear XS XR XB d0 fd c2 T0
      generalize World.setCell _ ⟨w.heap.size, 6, none⟩ (.string eb) = W2 at *
      go_wp2_with (first | (refine wpList_loadX (b := w.heap.size) (m := ({ c with id := eb } : Kx)) rfl _ rfl rfl S0.out ?_) | (refine wpList_storeX (b := w.heap.size + 1 + 1) (m := Kx.zero) (m' := ({ c with id := eb } : Kx)) rfl _ _ rfl rfl rfl R0.out ?_))
      exact bodyPost_ret (v := .tuple #[.agg (Kx.cells ({ c with id := eb } : Kx)), .slice none 0 0, .int .i64 0]) (results_three rfl _ _ (w.heap.size + 1 + 1) _ rfl (loadVarK shX (R0.out.put (Kx.cells ({ c with id := eb } : Kx))) rfl) (.slice none 0 0) rfl (.int .i64 0) rfl) rfl (AnsC.no HY.out (Box.below_setRow HB.out (by omega) _))
  · have PX := Lib.hid (fun V => hop_any c d V hs)
    have HY := Lib.hid (show outC c 7 d = ((out7 c d).1, [], (out7 c d).2.2) from by
      show out7 c d = _
      unfold out7
      split
      · rfl
      split
      · rfl
      split
      · rfl
      · rfl)
    clear hs hc
    generalize (out7 c d).1 = cx at *
    generalize (out7 c d).2.2 = er at *
    go_enter Tryz.func69, Tryz.ntmps69
    go_upto_region 1 with fail
    change Code.wp _ _ _ _ (((w.alloc (.cells c.cells 44)).alloc (.cells (cellsT (a, (d, 7))) 79)).alloc (.cells Kx.zero.cells 44))
    have S0 := Lib.hid (((Bk.Bk.new 44 w c.cells).old (.cells (cellsT (a, (d, 7))) 79)).old (.cells Kx.zero.cells 44))
    have T0 := Bk.Bk.new 79 (w.alloc (.cells c.cells 44)) (cellsT (a, (d, 7)))
    rw [alloc_size] at T0
    have T0 := Lib.hid (T0.old (.cells Kx.zero.cells 44))
    have R0 := Bk.Bk.new 44 ((w.alloc (.cells c.cells 44)).alloc (.cells (cellsT (a, (d, 7))) 79)) Kx.zero.cells
    rw [alloc_size, alloc_size] at R0
    have R0 := Lib.hid R0
    have HB := Lib.hid (balloc (balloc (balloc (Below.refl _ w) (.cells c.cells 44)) (.cells (cellsT (a, (d, 7))) 79)) (.cells Kx.zero.cells 44))
    have hlt := R0.out.lt
    generalize ((w.alloc (.cells c.cells 44)).alloc (.cells (cellsT (a, (d, 7))) 79)).alloc (.cells Kx.zero.cells 44) = W at *
    have c0 := T0.out.cell 0 (.int .i64 7) rfl
    have c2 := T0.out.cell 2 (.string d) rfl
    go_wp2_with (first | (refine wpList_loadX (b := w.heap.size) (m := c) rfl _ rfl rfl S0.out ?_))
    refine (PX.out _).mono ?_
    rintro r w2 ⟨rfl, hb⟩
    have R0 := Lib.hid (R0.out.below hb)
    have HB := Lib.hid (bcall HB.out hb)
    clear hb c0 c2 PX T0 S0
    go_upto_region 9 with (refine wpList_storeX (b := w2.heap.size) (m := Kx.zero) (m' := cx) rfl _ _ rfl rfl rfl (Bk.Bk.new 44 w2 Kx.zero.cells) ?_)
    change Code.wp _ _ _ _ ((w2.alloc (.cells Kx.zero.cells 44)).setRow w2.heap.size cx.cells)
    rw [World.setRow_alloc_new]
    have bel := balloc (Below.refl w2.heap.size w2) (.cells cx.cells 44)
    have R0 := Lib.hid (R0.out.below bel)
    have HB := Lib.hid (bcall HB.out bel)
    have S0 := Lib.hid (Bk.Bk.new 44 w2 cx.cells)
    clear bel
    generalize w2.alloc (.cells cx.cells 44) = V2 at *
    generalize w2.heap.size = gx at *
    go_wp2_with (first | (refine wpList_loadX (b := gx) (m := cx) rfl _ rfl rfl S0.out ?_) | (refine wpList_storeX (b := w.heap.size + 1 + 1) (m := Kx.zero) (m' := cx) rfl _ _ rfl rfl rfl R0.out ?_))
    exact bodyPost_ret (v := .tuple #[.agg (Kx.cells cx), .slice none 0 0, .int .i64 er]) (results_three rfl _ _ (w.heap.size + 1 + 1) _ rfl (loadVarK shX (R0.out.put (Kx.cells cx)) rfl) (.slice none 0 0) rfl (.int .i64 er) rfl) rfl (AnsC.no HY.out (Box.below_setRow HB.out (by omega) _))
  · have PX := Lib.hid (fun V => rupdate_any c a d V hc hs)
    have HO : outC c 8 d = out8 c d := rfl
    rw [HO]
    clear HO hs hc
    generalize out8 c d = p at *
    go_enter Tryz.func69, Tryz.ntmps69
    go_upto_region 1 with fail
    change Code.wp _ _ _ _ (((w.alloc (.cells c.cells 44)).alloc (.cells (cellsT (a, (d, 8))) 79)).alloc (.cells Kx.zero.cells 44))
    have S0 := Lib.hid (((Bk.Bk.new 44 w c.cells).old (.cells (cellsT (a, (d, 8))) 79)).old (.cells Kx.zero.cells 44))
    have T0 := Bk.Bk.new 79 (w.alloc (.cells c.cells 44)) (cellsT (a, (d, 8)))
    rw [alloc_size] at T0
    have T0 := Lib.hid (T0.old (.cells Kx.zero.cells 44))
    have R0 := Bk.Bk.new 44 ((w.alloc (.cells c.cells 44)).alloc (.cells (cellsT (a, (d, 8))) 79)) Kx.zero.cells
    rw [alloc_size, alloc_size] at R0
    have R0 := Lib.hid R0
    have HB := Lib.hid (balloc (balloc (balloc (Below.refl _ w) (.cells c.cells 44)) (.cells (cellsT (a, (d, 8))) 79)) (.cells Kx.zero.cells 44))
    have hlt := R0.out.lt
    generalize ((w.alloc (.cells c.cells 44)).alloc (.cells (cellsT (a, (d, 8))) 79)).alloc (.cells Kx.zero.cells 44) = W at *
    have c0 := T0.out.cell 0 (.int .i64 8) rfl
    go_wp2_with (first | (refine wpList_loadX (b := w.heap.size) (m := c) rfl _ rfl rfl S0.out ?_) | (refine Bk.wpList_loadK (b := w.heap.size + 1) Tl.shT rfl _ rfl rfl T0.out rfl ?_))
    refine (PX.out _).mono ?_
    rintro r w2 ⟨qa, qk, l, rfl, hp, hm, hb⟩
    have R0 := Lib.hid (R0.out.below hb)
    have HB := Lib.hid (bcall HB.out hb)
    clear hb c0 PX T0 S0
    go_wp2_with (first | (refine wpList_storeX (b := w.heap.size + 1 + 1) (m := Kx.zero) (m' := p.1) rfl _ _ rfl rfl rfl R0.out ?_))
    exact bodyPost_ret (v := .tuple #[.agg p.1.cells, .slice qa l.length qk, .int .i64 p.2.2]) (results_three rfl _ _ (w.heap.size + 1 + 1) _ rfl (loadVarK shX (R0.out.put p.1.cells) rfl) (.slice qa l.length qk) rfl (.int .i64 p.2.2) rfl) rfl ⟨qa, qk, l, rfl, hp, (hm.under hlt _).mono (by omega), Box.below_setRow HB.out (by omega) _⟩
end Go.Proofs.YtjhfpobjbijcpaaGreatDoor.K8
