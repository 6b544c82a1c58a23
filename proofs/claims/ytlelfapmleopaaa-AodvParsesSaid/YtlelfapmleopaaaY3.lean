/-
  What stands ahead of the extensions of a route error, by the program: a destination, the destinations, the first fault, where they end. Condition: at most 2^20 bytes.
-/
import Derived.Test.YtlelfapmleopaaaY1
import Derived.Test.YtlelfapmleopaaaXc
import Derived.Test.YtlelfapmleopaaaAm
import Derived.Test.YtlelfapmleopaaaDs
namespace Go.Proofs.Ytlelfapmleopaaa.Y3
open Go.ChangeShapes Go.WideShapes Go.ChangeAt Go.RowKit
open Go.Proofs.Ytlelfapmleopaaa.Ms
open Go.Proofs.Ytlelfapmleopaaa.Box
open Go.Proofs.Ytlelfapmleopaaa.Xv
open Go.Proofs.Ytlelfapmleopaaa.Xc (idx sl_m sl_l)
open Go.Proofs.Ytlelfapmleopaaa.Y1
open Go.Proofs.Ytlelfapmleopaaa.Ds (cellsD oneD shD Lst bs_one app_one make_room cells_new)
open Go.Proofs.Ytlelfapmleopaaa.Hx (conv8)
open Go.Proofs.Ytlelfapmleopaaa.Nu
open Go.Proofs.Ytlelfapmleopaaa.Cur (numL num_yes text_yes new_any)
open Go.Proofs.Ytlelfapmleopaaa.Bk (Bk Sh results_one loadVarK wpList_builtK wpList_loadK wpList_storeK run_loadK alloc_size)
set_option linter.unusedVariables false
set_option maxRecDepth 100000
set_option maxRecDepth 100000
/-- A cursor's cells. -/
def cur (s : ByteArray) (a : Int) : Array Value := #[.string s, .int .i64 a, .int .i64 8, .bool false]
theorem cur_one (s : ByteArray) (a : Int) : ((cur s a).all fun x => x.oneCell') = true := by simp [cur, Value.oneCell']
theorem shC : Sh Try.prog 77 4 := ⟨_, Try.underlying77, by kernel_rfl⟩
theorem cnew (s : ByteArray) (h : s.size = 8) (w : World) : Calls Try.prog 76 #[.string s] w fun e w' => e = .returned (.agg (cur s 0)) ∧ Below w.heap.size w w' := by
  have := new_any s w (by rw [h]; decide)
  rw [h] at this
  exact this
theorem ctext (s : ByteArray) (h : s.size = 8) (w : World) : Calls Try.prog 78 #[.agg (cur s 0), .int .i64 4] w fun e w' => e = .returned (.tuple #[.string (s.extract 0 4), .agg (cur s 4)]) ∧ Below w.heap.size w w' :=
  text_yes s 0 8 4 w (by rw [h]; decide) (by omega) (by omega) (by omega)
theorem cnum (s : ByteArray) (h : s.size = 8) (w : World) : Calls Try.prog 77 #[.agg (cur s 4), .int .i64 4] w fun e w' => e = .returned (.tuple #[.int .i64 (numL ((s.data.toList.drop 4).take 4)), .agg (cur s 8)]) ∧ Below w.heap.size w w' :=
  num_yes s 4 8 4 w (by rw [h]; decide) (by omega) (by omega) (by omega) (by omega) (by omega)
theorem one_ext (s : ByteArray) : one s.data.toList = (s.extract 0 4, ((numL ((s.data.toList.drop 4).take 4) : Nat) : Int)) := by
  unfold one
  rw [text_eq (a := s.extract 0 4) (b := ⟨(s.data.toList.take 4).toArray⟩) (by rw [ext_list]; simp)]
/-- What stands in the middle of getDest. -/
structure G (w0 w : World) : Prop where
  res : Bk 50 w w0.heap.size (cellsD (⟨#[]⟩, 0))
  bel : Below w0.heap.size w0 w
theorem G.call {w0 w w' : World} (g : G w0 w) (hb : Below w.heap.size w w') : G w0 w' := ⟨g.res.below hb, g.bel.trans (hb.mono g.bel.size)⟩
set_option maxHeartbeats 3200000 in
theorem dest_any (s : ByteArray) (w : World) (h : s.size = 8) : Calls Try.prog 81 #[.string s] w fun e w' => e = .returned (.agg (cellsD (one s.data.toList))) ∧ Below w.heap.size w w' := by
  have HN := Lib.hid (fun V => cnew s h V)
  have HT := Lib.hid (fun V => ctext s h V)
  have HU := Lib.hid (fun V => cnum s h V)
  have HH := Lib.hid (one_ext s)
  clear h
  generalize one s.data.toList = r at *
  generalize s.extract 0 4 = y0 at *
  generalize ((numL ((s.data.toList.drop 4).take 4) : Nat) : Int) = y1 at *
  go_enter Try.func81, Try.ntmps81
  go_upto_region 1 with fail
  change Code.wp _ _ _ _ (w.alloc (.cells (cellsD (⟨#[]⟩, 0)) 50))
  have HG := Lib.hid (show G w (w.alloc (.cells (cellsD (⟨#[]⟩, 0)) 50)) from ⟨Bk.Bk.new _ _ _, balloc (Below.refl _ w) _⟩)
  generalize w.alloc (.cells (cellsD (⟨#[]⟩, 0)) 50) = W0 at *
  go_wp2_with fail
  refine (HN.out _).mono ?_
  rintro e W1 ⟨rfl, hb⟩
  have HG := Lib.hid (HG.out.call hb)
  clear hb HN
  go_wp2_with fail
  refine (HT.out _).mono ?_
  rintro e w1 ⟨rfl, hb⟩
  have HG := Lib.hid (HG.out.call hb)
  clear hb HT
  have C := Bk.Bk.new 77 w1 #[.string ⟨#[]⟩, .int .i64 0, .int .i64 0, .bool false]
  go_upto_region 2 with (refine wpList_storeK (b := w1.heap.size) shC rfl _ _ rfl rfl rfl C rfl rfl (cur_one s 4) ?_)
  clear C
  change Code.wp _ _ _ _ ((w1.alloc (.cells #[.string ⟨#[]⟩, .int .i64 0, .int .i64 0, .bool false] 77)).setRow w1.heap.size (cur s 4))
  rw [World.setRow_alloc_new]
  have HC := Lib.hid (Bk.Bk.new 77 w1 (cur s 4))
  have HG := Lib.hid (HG.out.call (balloc (Below.refl _ w1) (.cells (cur s 4) 77)))
  generalize w1.alloc (.cells (cur s 4) 77) = W2 at *
  generalize w1.heap.size = cb at *
  go_wp2_with (first | (refine wpList_loadK (b := cb) shC rfl _ rfl rfl HC.out rfl ?_))
  refine (HU.out _).mono ?_
  rintro e w2 ⟨rfl, hb⟩
  have HG := Lib.hid (HG.out.call hb)
  clear hb HU HC
  have C := Bk.Bk.new 77 w2 #[.string ⟨#[]⟩, .int .i64 0, .int .i64 0, .bool false]
  go_upto_region 3 with (refine wpList_storeK (b := w2.heap.size) shC rfl _ _ rfl rfl rfl C rfl rfl (cur_one s 8) ?_)
  clear C
  change Code.wp _ _ _ _ ((w2.alloc (.cells #[.string ⟨#[]⟩, .int .i64 0, .int .i64 0, .bool false] 77)).setRow w2.heap.size (cur s 8))
  rw [World.setRow_alloc_new]
  have HG := Lib.hid (HG.out.call (balloc (Below.refl _ w2) (.cells (cur s 8) 77)))
  generalize w2.alloc (.cells (cur s 8) 77) = W3 at *
  go_wp2_with (first | (refine wpList_builtK rfl 50 _ rfl (cellsD (y0, y1)) (by kernel_rfl) ?_) | (refine wpList_storeK (b := w.heap.size) shD rfl _ _ rfl rfl rfl HG.out.res rfl rfl (oneD (y0, y1)) ?_))
  have HH := HH.out
  subst HH
  exact bodyPost_ret (v := .agg (cellsD (y0, y1))) (results_one (ty := 50) (tb := 50) (n := 2) rfl _ _ w.heap.size (cellsD (y0, y1)) rfl shD (HG.out.res.put _) rfl) rfl ⟨rfl, below_setRow HG.out.bel (Nat.le_refl _) _⟩
theorem one_take (l : List UInt8) : one (l.take 8) = one l := by
  unfold one
  rw [List.take_take, List.drop_take, List.take_take]
  rfl
theorem ext8 (s : ByteArray) (a b : Nat) (h : b = a + 8) : one (s.extract a b).data.toList = one (s.data.toList.drop a) := by
  subst h
  rw [ext_list, Nat.add_sub_cancel_left, one_take]
set_option maxHeartbeats 3200000 in
theorem list_any (s : ByteArray) (n : Nat) (w : World) (h : s.size = 8 * n) (hn : n ≤ 255) :
    Calls Try.prog 60 #[.string s] w fun e w' => ∃ a c, e = .returned (.slice a n c) ∧ Lst w.heap.size w' (.slice a n c) (dests n s.data.toList) ∧ Below w.heap.size w w' := by
  have hz : (s.size : Int) = 8 * (n : Int) := by omega
  have hz2 : (n : Int) ≤ 255 := by omega
  have HS := Lib.hid h
  have HN := Lib.hid hn
  clear h hn
  go_enter Try.func60, Try.ntmps60
  go_upto_region 2 with (refine make_room rfl _ _ rfl w.heap.size n _ _ _ rfl rfl ?hC (by have := HN.out; omega) (Nat.le_refl _) ?_)
  case hC => first | omega | simp only [hz]
  intro w1 hl hb _
  have HL0 := Lib.hid hl
  have HB0 := Lib.hid hb
  clear hl hb
  go_wp2
  go_loopw [3, 4] (fun v pv wr => ∃ k p : Nat, k ≤ n ∧ p = 8 * k ∧ pv = .int .i64 (p : Int) ∧ Hid (Lst w.heap.size wr v (dests k s.data.toList)) ∧ Hid (Below w.heap.size w wr)) (fun _ pv _ => s.size - (intOf pv).toNat)
  case atStart => exact ⟨0, 0, Nat.zero_le _, rfl, rfl, HL0, HB0⟩
  case round =>
    obtain ⟨k, p, hk, hp, rfl, HL, HB⟩ := hrel
    clear HL0 HB0
    by_cases hlt : k < n
    · have HP := Lib.hid hp
      have e1 : (p : Int) < (s.size : Int) := by omega
      have hp0 : (p : Int) ≤ 2040 := by omega
      have sl := sl_m s (p : Int) ((p : Int) + 8) p (p + 8) rfl (by push_cast; rfl) (by omega) (by have := HS.out; omega)
      have PD := Lib.hid (fun V => dest_any (s.extract p (p + 8)) V (by simp; have := HS.out; omega))
      rw [ext8 s p (p + 8) rfl] at PD
      have HD := Lib.hid (dests_snoc k s.data.toList)
      rw [← hp] at HD
      have hc := dests_len k s.data.toList
      generalize one (s.data.toList.drop p) = x at *
      generalize s.extract p (p + 8) = t at *
      generalize dests k s.data.toList = l at *
      have HC : Hid (l.length ≤ 100000) := Lib.hid (by have := HN.out; omega)
      clear hp hc
      go_wp2_with fail
      refine (PD.out _).mono ?_
      rintro e w2 ⟨rfl, hb⟩
      have HL := Lib.hid (HL.out.below hb)
      have HB := Lib.hid (bcall HB.out hb)
      clear hb PD sl
      go_upto_region 4 with (first | (refine bs_one rfl _ rfl (m := x) rfl ?_) | (at_builtin; refine app_one rfl _ _ rfl w.heap.size _ l x w2.heap.size 1 rfl (HL.out.below (balloc (Below.refl _ w2) (.cells (cellsD x) 50))) rfl (cells_new x w2) HC.out (balloc HB.out (.cells (cellsD x) 50)).size ?_))
      intro v' w' hl hb _
      have HL : Hid (Lst w.heap.size w' v' (dests (k + 1) s.data.toList)) := Lib.hid (by rw [HD.out]; exact hl)
      have HB := Lib.hid ((balloc HB.out (.cells (cellsD x) 50)).trans hb)
      clear hl hb
      go_wp2
      go_roundw
      case rel => exact ⟨k + 1, p + 8, hlt, by have := HP.out; omega, by push_cast; rfl, HL, HB⟩
      case measure => simp only [intOf]; omega
    · obtain rfl : k = n := by omega
      have e1 : ¬ (p : Int) < (s.size : Int) := by omega
      obtain ⟨a, c, rfl⟩ := HL.out.slice
      have HW := Lib.hid HL.out
      clear HL
      have hc := dests_len k s.data.toList
      go_wp2
      go_ret
      have hw := HW.out
      rw [hc] at hw
      exact ⟨a, c, rfl, hw, HB.out⟩
theorem end_any (s : ByteArray) (w : World) (h : ¬ s.size < 4) : Calls Try.prog 59 #[.string s] w fun e w' => e = .returned (.int .i64 ((4 + 8 * cnt s : Nat) : Int)) ∧ w' = w := by
  have i3 := idx s 3 3 rfl (by omega)
  have n3 := bt_nn s 3
  have l3 := bt_lt s 3
  have v3 := conv8 (bt s 3) n3 l3
  have HC := Lib.hid (show ((4 + 8 * cnt s : Nat) : Int) = 4 + bt s 3 * 8 by rw [cnt_bt]; omega)
  generalize bt s 3 = x at *
  generalize ((4 + 8 * cnt s : Nat) : Int) = y at *
  go_enter Try.func59, Try.ntmps59
  go_wp2
  go_ret
  exact ⟨by rw [HC.out]; rfl, rfl⟩
/-- What check answers. -/
def chk (s : ByteArray) : Int × Int := if (headE s).2.2 ≠ 0 then ((headE s).2.1, (headE s).2.2) else (0, 0)
theorem chk_bad {s : ByteArray} {m : M} {i e : Int} (h : headE s = (m, i, e)) (he : e ≠ 0) : chk s = (i, e) := by unfold chk; rw [h, if_pos he]
theorem chk_yes {s : ByteArray} {m : M} {i : Int} (h : headE s = (m, i, 0)) : chk s = (0, 0) := by unfold chk; rw [h, if_neg (fun h => h rfl)]
theorem two_eq {p : Int × Int} {i e : Int} (h : p = (i, e)) : Ending.returned (.tuple #[.int .i64 i, .int .i64 e]) = .returned (.tuple #[.int .i64 p.1, .int .i64 p.2]) := by rw [h]
set_option maxHeartbeats 3200000 in
theorem check_any (s : ByteArray) (w : World) (hs : s.size ≤ 1048576) : Calls Try.prog 58 #[.string s] w fun e w' => e = .returned (.tuple #[.int .i64 (chk s).1, .int .i64 (chk s).2]) ∧ w' = w := by
  by_cases h : s.size < 4
  · have HY := Lib.hid (chk_bad (head_short h) (by decide))
    go_enter Try.func58, Try.ntmps58
    go_wp2
    go_ret2
    exact ⟨two_eq HY.out, rfl⟩
  have i1 := idx s 1 1 rfl (by omega)
  have i2 := idx s 2 2 rfl (by omega)
  have i3 := idx s 3 3 rfl (by omega)
  have n1 := bt_nn s 1
  have l1 := bt_lt s 1
  have n2 := bt_nn s 2
  have l2 := bt_lt s 2
  have n3 := bt_nn s 3
  have l3 := bt_lt s 3
  by_cases k1 : bt s 1 % 128 = 0
  rotate_left
  · have HY := Lib.hid (chk_bad (head_bits h (.inl k1)) (by decide))
    generalize bt s 1 = x at *
    clear i2 i3 n2 l2 n3 l3
    go_enter Try.func58, Try.ntmps58
    go_wp2
    go_ret2
    exact ⟨two_eq HY.out, rfl⟩
  by_cases k2 : bt s 2 = 0
  rotate_left
  · have HY := Lib.hid (chk_bad (head_bits h (.inr k2)) (by decide))
    generalize bt s 1 = x at *
    generalize bt s 2 = y at *
    clear i3 n3 l3
    go_enter Try.func58, Try.ntmps58
    go_wp2
    go_ret2
    exact ⟨two_eq HY.out, rfl⟩
  have hb : ¬ bad s := by unfold bad; omega
  have hc := cnt_bt s
  have PE := Lib.hid (fun V => end_any s V h)
  by_cases k3 : cnt s = 0
  · have HY := Lib.hid (chk_bad (head_none h hb k3) (by decide))
    have k4 : bt s 3 = 0 := by omega
    clear k3 hc hb PE
    rw [k2] at i2
    rw [k4] at i3
    generalize bt s 1 = x at *
    clear k2 k4 n2 l2 n3 l3
    go_enter Try.func58, Try.ntmps58
    go_wp2
    go_ret2
    exact ⟨two_eq HY.out, rfl⟩
  have k4 : ¬ bt s 3 < 1 := by omega
  have hs2 : (s.size : Int) ≤ 1048576 := by omega
  rw [k2] at i2
  clear k2 n2 l2
  by_cases k5 : s.size < 4 + 8 * cnt s
  · have HY := Lib.hid (chk_bad (head_few h hb k3 k5) (by decide))
    have k6 : (s.size : Int) < ((4 + 8 * cnt s : Nat) : Int) := by omega
    clear k3 k5 hc hb
    generalize bt s 1 = x at *
    generalize bt s 3 = z at *
    generalize ((4 + 8 * cnt s : Nat) : Int) = y at *
    go_enter Try.func58, Try.ntmps58
    go_wp2_with fail
    refine (PE.out _).mono ?_
    rintro e w ⟨rfl, rfl⟩
    go_wp2
    go_ret2
    exact ⟨two_eq HY.out, rfl⟩
  have HY := Lib.hid (chk_yes (head_yes h hb k3 k5))
  have k6 : ¬ (s.size : Int) < ((4 + 8 * cnt s : Nat) : Int) := by omega
  clear k3 k5 hc hb
  generalize bt s 1 = x at *
  generalize bt s 3 = z at *
  generalize ((4 + 8 * cnt s : Nat) : Int) = y at *
  go_enter Try.func58, Try.ntmps58
  go_wp2_with fail
  refine (PE.out _).mono ?_
  rintro e w ⟨rfl, rfl⟩
  go_wp2
  go_ret2
  exact ⟨two_eq HY.out, rfl⟩
end Go.Proofs.Ytlelfapmleopaaa.Y3
