/-
  The program's Encode and Plain; the length of a builder of the call's own. Conditions: at most 3000 messages, whose lists and prefixes aren't long; the variables have what they are laid with.
  The document's example of layer 25. Condition: the variables have what they are laid with.
-/
import Derived.Test.YtjhfpobjbijcpaaGreatDoorE11
import Derived.Test.YtjhfpobjbijcpaaGreatDoorE13
import Derived.Test.YtjhfpobjbijcpaaGreatDoorE16
import Derived.Test.YtjhfpobjbijcpaaGreatDoorE24
import Derived.Test.YtjhfpobjbijcpaaGreatDoorE26
import Derived.Test.YtjhfpobjbijcpaaGreatDoorE34
import Derived.Test.YtjhfpobjbijcpaaGreatDoorE43
namespace Go.Proofs.YtjhfpobjbijcpaaGreatDoor.O5
open Go.ChangeShapes Go.WideShapes Go.ChangeAt Go.RowKit
open Go.Proofs.YtjhfpobjbijcpaaGreatDoor.Ms
open Go.Proofs.YtjhfpobjbijcpaaGreatDoor.Box
open Go.Proofs.YtjhfpobjbijcpaaGreatDoor.All
open Go.Proofs.YtjhfpobjbijcpaaGreatDoor.Tc
open Go.Proofs.YtjhfpobjbijcpaaGreatDoor.K1
open Go.Proofs.YtjhfpobjbijcpaaGreatDoor.Kb
open Go.Proofs.YtjhfpobjbijcpaaGreatDoor.L2
open Go.Proofs.YtjhfpobjbijcpaaGreatDoor.O1
open Go.Proofs.YtjhfpobjbijcpaaGreatDoor.O3
open Go.Proofs.YtjhfpobjbijcpaaGreatDoor.F1 (wrap)
open Go.Proofs.YtjhfpobjbijcpaaGreatDoor.Sb (Bld Oth)
open Go.Proofs.YtjhfpobjbijcpaaGreatDoor.Bk (Bk alloc_size)
set_option linter.unusedVariables false
set_option maxRecDepth 100000
theorem int_eq {k : IntKind} {a b : Int} (h : a = b) : Ending.returned (.int k a) = .returned (.int k b) := by rw [h]
theorem bld_row {B b g : Nat} {l : List UInt8} {w : World} (h : Bld B b l w) (hg : g < B) (cs : Array Value) : Bld B b l (w.setRow g cs) := by
  have key : ∀ k, B ≤ k → (w.setRow g cs).heap[k]? = w.heap[k]? := fun k hk => setRow_other w g k cs (by omega)
  have own : ∀ {e size : Nat} {v : Value} {n : Nat} {xs : List Value}, w.ownsRow B e size v n xs → (w.setRow g cs).ownsRow B e size v n xs := by
    intro e size v n xs h
    refine ⟨h.1, ?_⟩
    rcases h.2 with h | ⟨g', cap, cur, a, b, c, d⟩
    · exact .inl h
    · exact .inr ⟨g', cap, cur, a, b, by rw [key g' b]; exact c, d⟩
  rcases h with ⟨h1, v, h2, h3, h4⟩ | ⟨h1, v, h2, h3, h4⟩
  · exact .inl ⟨h1, v, by rw [key b h1]; exact h2, own h3, h4⟩
  · exact .inr ⟨h1, v, by rw [key b h1]; exact h2, own h3, h4⟩
theorem bld_cell {B b : Nat} {l : List UInt8} {w : World} (h : Bld B b l w) : ∃ a c, w.cell? ⟨b, 1, none⟩ = some (.slice a l.length c) := by
  have key : ∀ v, w.ownsRow B 5 1 v (Lib.byteCells l).length (Lib.byteCells l) → ∃ a c, v = .slice a l.length c := by
    intro v h
    have hl := Lib.byteCells_length l
    rcases h.2 with ⟨hv, h0⟩ | ⟨g, cap, cur, hv, _⟩
    · refine ⟨none, 0, ?_⟩
      rw [hv]
      congr 1
      omega
    · exact ⟨some ⟨g, 0, none⟩, cap, by rw [hv, hl]⟩
  rcases h with ⟨h1, v, h2, h3, h4⟩ | ⟨h1, v, h2, h3, h4⟩
  · obtain ⟨a, c, rfl⟩ := key v h3
    exact ⟨a, c, by rw [Lib.cell_of_heap h2]; rfl⟩
  · obtain ⟨a, c, rfl⟩ := key v h3
    exact ⟨a, c, by rw [Lib.cell_of_heap h2]; rfl⟩
set_option maxHeartbeats 1600000 in
theorem len_any (B b : Nat) (s : ByteArray) (w : World) (h : Bld B b s.data.toList w) : Calls Tryz.prog 29 #[.pointer (some ⟨b, 0, none⟩)] w fun e w' => e = .returned (.int .i64 (s.size : Int)) ∧ w' = w := by
  obtain ⟨a, c, c1⟩ := bld_cell h
  rw [show s.data.toList.length = s.size from rfl] at c1
  clear h
  go_enter Tryz.func29, Tryz.ntmps29
  go_wp2
  go_ret
  exact ⟨rfl, rfl⟩
theorem text_any (B b : Nat) (s : ByteArray) (w : World) (h : Bld B b s.data.toList w) (hBw : B ≤ w.heap.size) : Calls Tryz.prog 31 #[.pointer (some ⟨b, 0, none⟩)] w fun e w' => e = .returned (.string s) ∧ Below B w w' := by
  have e : (⟨s.data.toList.toArray⟩ : ByteArray) = s := by rw [Array.toArray_toList]
  have := Sb.text_any B b _ w h hBw
  rw [e] at this
  exact this
theorem str_any (B b : Nat) (s r : ByteArray) (w : World) (h : Bld B b s.data.toList w) (hlen : s.size + r.size ≤ 140737488355328) (hBw : B ≤ w.heap.size) :
    Calls Tryz.prog 30 #[.pointer (some ⟨b, 0, none⟩), .string r] w fun e w' => e = .returned (.tuple #[.int .i64 r.size, .nilIface]) ∧ Bld B b (s ++ r).data.toList w' ∧ Below B w w' ∧ Oth b w w' := by
  have e : (s ++ r).data.toList = s.data.toList ++ r.data.toList := by simp [ByteArray.data_append]
  rw [e]
  exact Sb.str_any B b _ r w h hlen hBw
set_option maxHeartbeats 12800000 in
set_option maxRecDepth 100000 in
theorem wrong_any (a : Option Addr) (c : Nat) (l : List M) (w : World) (hl : MRow w a l) (hs : ∀ m ∈ l, Sp m) (hn : l.length ≤ 3000) (ht : Tab w) : Calls Tryz.prog 27 #[.slice a l.length c] w fun e w' => ∃ (i : Int) (x : Bool), e = .returned (.tuple #[.int .i64 i, .bool x]) ∧ Below w.heap.size w w' ∧ (x = true → outE l = (ByteArray.empty, i, 1)) ∧ (x = false → ∀ j (hj : j < l.length), okL l[j] = true) := by
  have HMr := Lib.hid (fun (W : World) (h : Below w.heap.size w W) => hl.below h)
  have HSh := Lib.hid hs
  have HT := Lib.hid ht
  clear hs hl ht
  go_enter Tryz.func27, Tryz.ntmps27
  go_wp2
  go_loopw [8] (fun i wr => ∃ k : Nat, k ≤ l.length ∧ i = .int .i64 k ∧ Hid (∀ j (hj : j < l.length), j < k → okL l[j] = true) ∧ Hid (Below w.heap.size w wr)) (fun i _ => l.length - (intOf i).toNat)
  case atStart => exact ⟨0, Nat.zero_le _, rfl, Lib.hid (fun j _ hj => absurd hj (Nat.not_lt_zero j)), Lib.hid (Below.refl _ _)⟩
  case round =>
    obtain ⟨k, hk, rfl, HO, HB⟩ := hrel
    by_cases hlt : k < l.length
    rotate_left
    · obtain rfl : k = l.length := by omega
      have HA := Lib.hid (show ∀ j (hj : j < l.length), okL l[j] = true from fun j hj => HO.out j hj hj)
      clear HO hk hlt
      go_wp2
      go_ret2
      exact ⟨0, false, rfl, HB.out, (fun h => by cases h), fun _ => HA.out⟩
    obtain ⟨p, rfl, hpb, hc, -, -⟩ := HMr.out _ HB.out k hlt
    have hsp := HSh.out _ (List.getElem_mem hlt)
    have P1 := Lib.hid (fun W (h : Below w.heap.size w W) => L5.right_any l[k] W (row_in (HMr.out W h) HSh.out hlt) hsp.2.2.1 hsp.2.2.2 (HT.out.below h))
    have HI := Lib.hid (fun (h : okL l[k] = false) => enc_wrong hlt HO.out h)
    have HJ := Lib.hid (fun (h : okL l[k] = true) => show ∀ j (hj : j < l.length), j < k + 1 → okL l[j] = true from fun j hj hjk => by
      by_cases hik : j < k
      · exact HO.out j hj hik
      · obtain rfl : j = k := by omega
        exact h)
    have HCk := Lib.hid hc
    have ixk := indexM p l.length c k hlt
    clear hc HO hsp hpb
    generalize l[k] = u at *
    generalize okL u = x at *
    go_upto_region 4 with (first | (refine wpList_loadA (m := u) rfl _ rfl rfl HCk.out ?_) | (refine wpList_storeM (b := wr.heap.size) (m := M.zero) (m' := u) rfl _ _ rfl rfl rfl (heap_alloc_new wr _) ?_))
    change Code.wp _ _ _ _ ((wr.alloc (.cells M.zero.cells 38)).setRow wr.heap.size u.cells)
    rw [World.setRow_alloc_new]
    have bel := balloc (Below.refl _ wr) (.cells u.cells 38)
    have BU := Lib.hid (Bx.new wr u)
    have HB := Lib.hid (bcall HB.out bel)
    clear bel HCk ixk
    generalize wr.alloc (.cells u.cells 38) = V7 at *
    generalize wr.heap.size = g7 at *
    go_wp2_with (first | (refine wpList_loadM (b := g7) (m := u) rfl _ rfl rfl BU.out ?_))
    refine (P1.out _ HB.out).mono ?_
    rintro e w1 ⟨rfl, hb⟩
    have HB := Lib.hid (bcall HB.out hb)
    clear hb P1 BU
    cases x
    · have HZ := Lib.hid (HI.out rfl)
      clear HI HJ
      go_wp2
      go_ret2
      exact ⟨k, true, rfl, HB.out, fun _ => HZ.out, (fun h => by cases h)⟩
    · have HZ := Lib.hid (HJ.out rfl)
      clear HI HJ
      go_wp2
      go_roundw
      case rel => exact ⟨k + 1, hlt, by go_num, HZ, HB⟩
      case measure => simp [intOf]; omega
/-- What the body is, or why there is none. -/
def AnsY (l : List M) (w : World) (e : Ending) (w' : World) : Prop := ∃ (s : ByteArray) (i er : Int), e = .returned (.tuple #[.string s, .int .i64 i, .int .i64 er]) ∧ Below w.heap.size w w' ∧ ((er = 0 ∧ outE l = (wrap s, 0, 0) ∧ s.size ≤ 65531) ∨ (¬ er = 0 ∧ outE l = (ByteArray.empty, i, er)))
theorem AnsY.no {l : List M} {w w' : World} {i er : Int} (h : outE l = (ByteArray.empty, i, er)) (he : ¬ er = 0) (hb : Below w.heap.size w w') : AnsY l w (.returned (.tuple #[.string ⟨#[]⟩, .int .i64 i, .int .i64 er])) w' := ⟨_, i, er, rfl, hb, .inr ⟨he, h⟩⟩
theorem AnsY.yes {l : List M} {w w' : World} {s : ByteArray} (h : outE l = (wrap s, 0, 0)) (hs : s.size ≤ 65531) (hb : Below w.heap.size w w') : AnsY l w (.returned (.tuple #[.string s, .int .i64 0, .int .i64 0])) w' := ⟨_, 0, 0, rfl, hb, .inl ⟨rfl, h, hs⟩⟩
theorem add_len (a b : Nat) (h : a ≤ 100000) (k : b ≤ 100000) : IntKind.i64.wrap ((a : Int) + (b : Int)) = (a : Int) + (b : Int) := IntWalk.i64_in _ ⟨by omega, by omega⟩
set_option maxHeartbeats 12800000 in
set_option maxRecDepth 100000 in
theorem body_any (a : Option Addr) (c : Nat) (l : List M) (w : World) (hl : MRow w a l) (hs : ∀ m ∈ l, Sp m) (hn : l.length ≤ 3000) (ht : Tab w) : Calls Tryz.prog 15 #[.slice a l.length c] w (AnsY l w) := by
  have PF := Lib.hid (wrong_any a c l w hl hs hn ht)
  have HMr := Lib.hid (fun (W : World) (h : Below w.heap.size w W) => hl.below h)
  have HSh := Lib.hid hs
  have HT := Lib.hid ht
  clear hs hl ht
  go_enter Tryz.func15, Tryz.ntmps15
  go_wp2_with fail
  refine PF.out.mono ?_
  rintro e w1 ⟨i0, x, rfl, hb, hx1, hx2⟩
  have HB := Lib.hid hb
  clear hb PF
  cases x
  rotate_left
  · have HZ := Lib.hid (hx1 rfl)
    clear hx1 hx2
    go_wp2
    go_ret3
    exact AnsY.no HZ.out (by decide) HB.out
  have HA := Lib.hid (hx2 rfl)
  have S0 := Lib.hid (St.start HA.out)
  clear hx1 hx2
  go_upto_region 6 with fail
  change Code.wp _ _ _ _ ((w1.alloc (.cells Kx.zero.cells 44)).alloc (.cells #[.pointer none, .slice none 0 0] 65))
  have C0 := Lib.hid ((Bk.Bk.new 44 w1 Kx.zero.cells).old (.cells #[.pointer none, .slice none 0 0] 65))
  have B0 := Lib.hid (show Bld (w1.heap.size + 1) (w1.heap.size + 1) ByteArray.empty.data.toList ((w1.alloc (.cells Kx.zero.cells 44)).alloc (.cells #[.pointer none, .slice none 0 0] 65)) by
    have := Sb.bld_new (w1.alloc (.cells Kx.zero.cells 44))
    rw [alloc_size] at this
    exact this)
  have HB2 := Lib.hid (balloc (balloc HB.out (.cells Kx.zero.cells 44)) (.cells #[.pointer none, .slice none 0 0] 65))
  have hzg : w.heap.size ≤ w1.heap.size := HB.out.size
  clear HB
  generalize (w1.alloc (.cells Kx.zero.cells 44)).alloc (.cells #[.pointer none, .slice none 0 0] 65) = V at *
  generalize w1.heap.size = g at *
  go_wp2
  go_loopw [23] (fun i wr => ∃ (k : Nat) (q : Kx) (s : ByteArray), k ≤ l.length ∧ i = .int .i64 k ∧ Hid (St l k q s) ∧ Hid (Bk 44 wr g q.cells) ∧ Hid (Bld (g + 1) (g + 1) s.data.toList wr) ∧ Hid (Below w.heap.size w wr)) (fun i _ => l.length - (intOf i).toNat)
  case atStart => exact ⟨0, Kx.zero, ByteArray.empty, Nat.zero_le _, rfl, S0, C0, B0, HB2⟩
  case round =>
    clear HB2 C0 S0 B0
    obtain ⟨k, q, s, hk, rfl, HS, HC, HD, HB⟩ := hrel
    have hgw : g + 1 < wr.heap.size := S3.Bld.lt HD.out
    by_cases hlt : k < l.length
    rotate_left
    · obtain rfl : k = l.length := by omega
      have HZ := Lib.hid HS.out.done
      have HZ2 := Lib.hid HS.out.size
      clear HS HC hk hlt
      go_wp2_with fail
      refine (text_any _ _ s _ HD.out (by omega)).mono ?_
      rintro e w2 ⟨rfl, hb⟩
      have HB := Lib.hid (HB.out.trans (hb.mono (by omega)))
      clear hb HD
      go_wp2
      go_ret3
      exact AnsY.yes HZ.out HZ2.out HB.out
    obtain ⟨p, rfl, hpb, hc, -, -⟩ := HMr.out _ HB.out k hlt
    have hsp := HSh.out _ (List.getElem_mem hlt)
    have P1 := Lib.hid (fun W (h : Below w.heap.size w W) => Lv.put_any q l[k] W (row_in (HMr.out W h) HSh.out hlt) hsp.2.1 hsp.2.2.1 hsp.2.2.2 HS.out.ok (HT.out.below h))
    have hst := HS.out.step hlt (HA.out k hlt)
    have HPL := Lib.hid (put_len q l[k])
    have HSZ := Lib.hid HS.out.size
    have ixk := indexM p l.length c k hlt
    have HCk := Lib.hid hc
    have HK := Lib.hid hlt
    clear hc hpb hsp HS
    generalize l[k] = u at *
    clear hk hlt
    obtain ⟨r1, q2, er, hr⟩ : ∃ x y z, putL q u = (x, y, z) := ⟨_, _, _, rfl⟩
    rw [hr] at P1 hst HPL
    have HST := Lib.hid hst
    clear hst hr
    go_upto_region 9 with (first | (refine wpList_loadA (m := u) rfl _ rfl rfl HCk.out ?_) | (refine wpList_storeM (b := wr.heap.size) (m := M.zero) (m' := u) rfl _ _ rfl rfl rfl (heap_alloc_new wr _) ?_))
    change Code.wp _ _ _ _ ((wr.alloc (.cells M.zero.cells 38)).setRow wr.heap.size u.cells)
    rw [World.setRow_alloc_new]
    have bel := balloc (Below.refl _ wr) (.cells u.cells 38)
    have BU := Lib.hid (Bx.new wr u)
    have HC := Lib.hid (HC.out.below bel)
    have HD := Lib.hid (S3.Bld.below HD.out bel)
    have HB := Lib.hid (bcall HB.out bel)
    clear hgw
    clear bel HCk ixk
    generalize wr.alloc (.cells u.cells 38) = V7 at *
    generalize wr.heap.size = g7 at *
    go_wp2_with (first | (refine wpList_loadX (b := g) (m := q) rfl _ rfl rfl HC.out ?_) | (refine wpList_loadM (b := g7) (m := u) rfl _ rfl rfl BU.out ?_))
    refine (P1.out _ HB.out).mono ?_
    rintro e w2 ⟨rfl, hb⟩
    have HC := Lib.hid (HC.out.below hb)
    have HD := Lib.hid (S3.Bld.below HD.out hb)
    have HB := Lib.hid (bcall HB.out hb)
    clear hb P1 BU
    go_upto_region 10 with (refine wpList_storeX (b := w2.heap.size) (m := Kx.zero) (m' := q2) rfl _ _ rfl rfl rfl (Bk.Bk.new 44 w2 Kx.zero.cells) ?_)
    change Code.wp _ _ _ _ ((w2.alloc (.cells Kx.zero.cells 44)).setRow w2.heap.size q2.cells)
    rw [World.setRow_alloc_new]
    have bel := balloc (Below.refl w2.heap.size w2) (.cells q2.cells 44)
    have G2 := Lib.hid (Bk.Bk.new 44 w2 q2.cells)
    have HC := Lib.hid (HC.out.below bel)
    have hg2 : g + 1 < w2.heap.size := S3.Bld.lt HD.out
    have HD := Lib.hid (S3.Bld.below HD.out bel)
    have HB := Lib.hid (bcall HB.out bel)
    clear bel
    generalize w2.alloc (.cells q2.cells 44) = W at *
    generalize w2.heap.size = g2 at *
    by_cases he : er = 0
    rotate_left
    · have HY := Lib.hid (HST.out.1 he)
      have HE := Lib.hid he
      have e1 : (er == 0) = false := by simpa using he
      have e2 : (er != 0) = true := by rw [bne, e1]; rfl
      clear he HST G2 HC HD
      go_wp2
      go_ret3
      exact AnsY.no HY.out HE.out HB.out
    subst he
    have HS2 := Lib.hid (HST.out.2.1 rfl)
    have HS3 := Lib.hid (HST.out.2.2 rfl)
    clear HST
    have hW : g + 1 < W.heap.size := S3.Bld.lt HD.out
    have hs1 := HSZ.out
    have hr1 : r1.size ≤ 1000 := HPL.out
    have ad := add_len s.size r1.size (by omega) (by omega)
    have hsz : (s ++ r1).size = s.size + r1.size := ByteArray.size_append
    go_wp2_with fail
    refine (len_any _ _ s _ HD.out).mono ?_
    rintro e w3 ⟨rfl, rfl⟩
    by_cases hbig : 65531 < (s ++ r1).size
    · have HY := Lib.hid (HS2.out hbig)
      have h1 : (65531 : Int) < (s.size : Int) + (r1.size : Int) := by omega
      clear HS2 HS3 hbig hsz
      go_wp2
      go_ret3
      exact AnsY.no HY.out (by decide) HB.out
    have HY := Lib.hid (HS3.out hbig)
    have h1 : ¬ (65531 : Int) < (s.size : Int) + (r1.size : Int) := by omega
    clear HS2 HS3 hbig hsz
    go_wp2_with fail
    refine (str_any _ _ s r1 _ HD.out (by omega) (by omega)).mono ?_
    rintro e w4 ⟨rfl, hd, hb, ho⟩
    have HD := Lib.hid hd
    have HC := Lib.hid (HC.out.under hb (Nat.lt_succ_self g))
    have G2 := Lib.hid (show Bk 44 w4 g2 q2.cells from ho g2 44 q2.cells (by omega) (by decide) G2.out)
    have HB := Lib.hid (HB.out.trans (hb.mono (by omega)))
    clear hd hb ho ad h1 hs1 hr1 hW
    go_upto_region 16 with (first | (refine wpList_loadX (b := g2) (m := q2) rfl _ rfl rfl G2.out ?_) | (refine wpList_storeX (b := g) (m := q) (m' := q2) rfl _ _ rfl rfl rfl HC.out ?_))
    have HC := Lib.hid (HC.out.put q2.cells)
    have HD := Lib.hid (bld_row HD.out (Nat.lt_succ_self g) q2.cells)
    have HB := Lib.hid (Box.below_setRow HB.out hzg q2.cells)
    clear G2
    generalize w4.setRow g q2.cells = W2 at *
    have hlt := HK.out
    go_wp2
    go_roundw
    case rel => exact ⟨k + 1, q2, s ++ r1, hlt, by go_num, HY, HC, HD, HB⟩
    case measure => simp [intOf]; omega
set_option maxHeartbeats 12800000 in
set_option maxRecDepth 100000 in
theorem encode_any (a : Option Addr) (c : Nat) (l : List M) (w : World) (hl : MRow w a l) (hs : ∀ m ∈ l, Sp m) (hn : l.length ≤ 3000) (ht : Tab w) : Calls Tryz.prog 8 #[.slice a l.length c] w (AnsE (outE l) w) := by
  have P1 := Lib.hid (body_any a c l w hl hs hn ht)
  clear hl hs hn ht
  go_enter Tryz.func8, Tryz.ntmps8
  go_wp2_with fail
  refine P1.out.mono ?_
  rintro e w1 ⟨s, i, er, rfl, hb, h⟩
  have HB := Lib.hid hb
  clear hb P1
  rcases h with ⟨rfl, h, hz⟩ | ⟨he, h⟩
  · have HZ := Lib.hid h
    have P2 := Lib.hid (fun V => F6.wrap_any s V (by omega))
    clear h hz
    go_wp2_with fail
    refine (P2.out _).mono ?_
    rintro e w2 ⟨rfl, hb⟩
    have HB := Lib.hid (bcall HB.out hb)
    clear hb P2
    go_wp2
    go_ret3
    exact AnsE.of HZ.out HB.out
  · have HZ := Lib.hid h
    have e1 : (er == 0) = false := by simpa using he
    have e2 : (er != 0) = true := by rw [bne, e1]; rfl
    clear h he
    go_wp2
    go_ret3
    exact AnsE.of HZ.out HB.out
set_option maxHeartbeats 12800000 in
set_option maxRecDepth 100000 in
theorem plain_any (a : Option Addr) (c : Nat) (l : List M) (w : World) (hl : MRow w a l) (hs : ∀ m ∈ l, Sp m) (hn : l.length ≤ 3000) (ht : Tab w) : Calls Tryz.prog 10 #[.slice a l.length c] w fun e w' => e = .returned (.int .i64 (outN l)) ∧ Below w.heap.size w w' := by
  have HMr := Lib.hid (fun (W : World) (h : Below w.heap.size w W) => hl.below h)
  have HSh := Lib.hid hs
  have HT := Lib.hid ht
  clear hs hl ht
  go_enter Tryz.func10, Tryz.ntmps10
  go_wp2
  go_loopw [3, 10] (fun n i wr => ∃ (k : Nat) (z : Int), k ≤ l.length ∧ i = .int .i64 k ∧ n = .int .i64 z ∧ Hid (Sn l k z) ∧ Hid (Below w.heap.size w wr)) (fun _ i _ => l.length - (intOf i).toNat)
  case atStart => exact ⟨0, 4, Nat.zero_le _, rfl, rfl, Lib.hid (Sn.start l), Lib.hid (Below.refl _ _)⟩
  case round =>
    obtain ⟨k, z, hk, rfl, rfl, HS, HB⟩ := hrel
    by_cases hlt : k < l.length
    rotate_left
    · obtain rfl : k = l.length := by omega
      have HZ := Lib.hid HS.out.done
      clear HS hk hlt
      go_wp2
      go_ret
      exact ⟨int_eq HZ.out.symm, HB.out⟩
    obtain ⟨p, rfl, hpb, hc, -, -⟩ := HMr.out _ HB.out k hlt
    have hsp := HSh.out _ (List.getElem_mem hlt)
    have P1 := Lib.hid (fun W (h : Below w.heap.size w W) => Lp.plain_any l[k] W (row_in (HMr.out W h) HSh.out hlt) hsp.2.1 hsp.2.2.1 hsp.2.2.2 (HT.out.below h))
    have hst := HS.out.step hlt
    have hr := HS.out.range hn
    have ixk := indexM p l.length c k hlt
    have HCk := Lib.hid hc
    clear hc hpb hsp HS
    generalize l[k] = u at *
    go_upto_region 5 with (first | (refine wpList_loadA (m := u) rfl _ rfl rfl HCk.out ?_) | (refine wpList_storeM (b := wr.heap.size) (m := M.zero) (m' := u) rfl _ _ rfl rfl rfl (heap_alloc_new wr _) ?_))
    change Code.wp _ _ _ _ ((wr.alloc (.cells M.zero.cells 38)).setRow wr.heap.size u.cells)
    rw [World.setRow_alloc_new]
    have bel := balloc (Below.refl _ wr) (.cells u.cells 38)
    have BU := Lib.hid (Bx.new wr u)
    have HB := Lib.hid (bcall HB.out bel)
    clear bel HCk ixk
    generalize wr.alloc (.cells u.cells 38) = V7 at *
    generalize wr.heap.size = g7 at *
    obtain ⟨r1, x, hp⟩ : ∃ x y, plainL u = (x, y) := ⟨_, _, rfl⟩
    rw [hp] at P1 hst
    go_wp2_with (first | (refine wpList_loadM (b := g7) (m := u) rfl _ rfl rfl BU.out ?_))
    refine (P1.out _ HB.out).mono ?_
    rintro e w1 ⟨rfl, hb⟩
    have HB := Lib.hid (bcall HB.out hb)
    clear hb P1 BU
    cases x
    · have HY := Lib.hid (hst.2 rfl)
      clear hst hr hp
      go_wp2
      go_ret
      exact ⟨int_eq HY.out.symm, HB.out⟩
    have HY := Lib.hid (hst.1 rfl).1
    have h1 : r1.size ≤ 1000 := (hst.1 rfl).2
    clear hst hp
    go_wp2
    go_roundw
    case rel => exact ⟨k + 1, z + r1.size, hlt, by go_num, by go_num, HY, HB⟩
    case measure => simp [intOf]; omega
end Go.Proofs.YtjhfpobjbijcpaaGreatDoor.O5
namespace Go.Proofs.YtjhfpobjbijcpaaGreatDoor.O6
open Go.ChangeShapes Go.WideShapes Go.ChangeAt Go.RowKit
open Go.Proofs.YtjhfpobjbijcpaaGreatDoor.Ms
open Go.Proofs.YtjhfpobjbijcpaaGreatDoor.Box
open Go.Proofs.YtjhfpobjbijcpaaGreatDoor.All
open Go.Proofs.YtjhfpobjbijcpaaGreatDoor.Tc
open Go.Proofs.YtjhfpobjbijcpaaGreatDoor.G1 (bare okF datF typF ok_iff)
open Go.Proofs.YtjhfpobjbijcpaaGreatDoor.K1
open Go.Proofs.YtjhfpobjbijcpaaGreatDoor.L2
open Go.Proofs.YtjhfpobjbijcpaaGreatDoor.O1
open Go.Proofs.YtjhfpobjbijcpaaGreatDoor.O3
open Go.Proofs.YtjhfpobjbijcpaaGreatDoor.F1 (wrap encT)
open Go.Proofs.YtjhfpobjbijcpaaGreatDoor.Bk (Bk alloc_size wpList_builtK)
set_option linter.unusedVariables false
set_option maxRecDepth 100000
def m1 : M := { M.zero with kind := 8, nonce := 7 }
def b0 : ByteArray := ⟨#[42, 2, 0, 0]⟩
def b1 : ByteArray := ⟨#[42, 2, 0, 4, 3, 2, 0, 7]⟩
theorem out_0 : outE [] = (b0, 0, 0) := by
  unfold outE
  rw [if_pos (show ([] : List M).all okL = true from rfl)]
  rfl
theorem bare_1 : bare m1 = true := by
  unfold bare
  rw [(G1.is_8 (m := m1) rfl).1, (G1.is_8 (m := m1) rfl).2]
  unfold M.same M.flatE Own.k8 m1 M.zero
  simp
theorem ok_1 : okF m1 = true := by
  unfold okF
  rw [bare_1]
  decide +kernel
theorem okl_1 : okL m1 = true := by unfold okL; rw [ok_1]; rfl
theorem bad_1 : badC Kx.zero m1 = false := by decide +kernel
theorem els_1 : elsL Kx.zero m1 = [(datF m1, typF m1)] := by
  unfold elsL othE
  rw [if_neg (show ¬ m1.kind = 11 by decide), if_pos ok_1]
theorem enc_1 : encT ([] ++ elsL Kx.zero m1) = [3, 2, 0, 7] := by
  rw [els_1]
  decide +kernel
theorem out_1 : outE [m1] = (b1, 0, 0) := by
  unfold outE
  rw [if_pos (by rw [List.all_cons, okl_1]; rfl)]
  show (if badC Kx.zero m1 = true then _ else if _ then _ else _) = _
  rw [if_neg (by rw [bad_1]; decide), if_neg (by rw [enc_1]; decide)]
  show (wrap ⟨(encT ([] ++ elsL Kx.zero m1)).toArray⟩, 0, 0) = _
  rw [enc_1]
  rfl
theorem sp_1 : ∀ m ∈ [m1], Sp m := fun m hm => by
  obtain rfl : m = m1 := by simpa using hm
  exact ⟨Nat.zero_le _, Nat.zero_le _, fun x hx => absurd hx (by show ¬ x ∈ ([] : List El); simp), Nat.zero_le _⟩
theorem one_row (m : M) (w : World) (h1 : m.ll = []) (h2 : m.sl = []) : MRow (w.alloc (.cells m.cells 38)) (some ⟨w.heap.size, 0, none⟩) [m] := by
  intro i hi
  obtain rfl : i = 0 := by simpa using hi
  refine ⟨⟨w.heap.size, 0, none⟩, rfl, by rw [alloc_size]; exact Nat.lt_succ_self _, fun j v hv => ?_, by show DRow _ m.la m.ll; rw [h1]; exact DRow.nil _ _, by show SRow _ m.sa m.sl; rw [h2]; exact SRow.nil _ _⟩
  rw [Ap.add_at, Nat.zero_mul]
  exact Ap.cells_new m w j v hv
set_option maxHeartbeats 6400000 in
theorem awake_any (w : World) (ht : Tab w) : Calls Tryz.prog 7 #[] w fun e w' => e = .returned (.bool true) ∧ Below w.heap.size w w' := by
  have P0 := fun V (y : Tab V) => O5.encode_any none 0 [] V (MRow.nil V none) (fun m hm => absurd hm (by simp)) (by decide) y
  rw [out_0] at P0
  have P1 := fun (g : Nat) V (h : MRow V (some ⟨g, 0, none⟩) [m1]) (y : Tab V) => O5.encode_any (some ⟨g, 0, none⟩) 1 [m1] V h sp_1 (by decide) y
  rw [out_1] at P1
  have P2 := Lib.hid (show ∀ V, Tab V → Calls Tryz.prog 10 #[.slice none 0 0] V fun e w' => e = .returned (.int .i64 4) ∧ Below V.heap.size V w' from fun V (y : Tab V) => O5.plain_any none 0 [] V (MRow.nil V none) (fun m hm => absurd hm (by simp)) (by decide) y)
  have P0 := Lib.hid (show ∀ V, Tab V → Calls Tryz.prog 8 #[.slice none 0 0] V fun e w' => e = .returned (.tuple #[.string b0, .int .i64 0, .int .i64 0]) ∧ Below V.heap.size V w' from P0)
  have P1 := Lib.hid (show ∀ (g : Nat) V, MRow V (some ⟨g, 0, none⟩) [m1] → Tab V → Calls Tryz.prog 8 #[.slice (some ⟨g, 0, none⟩) 1 1] V fun e w' => e = .returned (.tuple #[.string b1, .int .i64 0, .int .i64 0]) ∧ Below V.heap.size V w' from P1)
  have HT := Lib.hid ht
  have q0 : (b0.toList == [42, 2, 0, 0]) = true := by rw [ByteArray.toList_eq]; rfl
  have q1 : (b1.toList == [42, 2, 0, 4, 3, 2, 0, 7]) = true := by rw [ByteArray.toList_eq]; rfl
  clear ht
  generalize b0 = x0 at *
  generalize b1 = x1 at *
  go_enter Tryz.func7, Tryz.ntmps7
  go_wp2_with fail
  refine (P0.out _ HT.out).mono ?_
  rintro e w1 ⟨rfl, hb⟩
  have HB := Lib.hid hb
  clear hb P0
  go_wp2_with (first | (refine wpList_builtK rfl 38 _ rfl (M.cells m1) (by kernel_rfl) ?_) | (refine Ap.bs_one rfl _ rfl (m := m1) rfl ?_))
  have bel := balloc (Below.refl w1.heap.size w1) (.cells m1.cells 38)
  have HR := Lib.hid (one_row m1 w1 rfl rfl)
  have HB := Lib.hid (bcall HB.out bel)
  clear bel
  generalize w1.alloc (.cells m1.cells 38) = V at *
  generalize w1.heap.size = g at *
  refine (P1.out _ _ HR.out (HT.out.below HB.out)).mono ?_
  rintro e w2 ⟨rfl, hb⟩
  have HB := Lib.hid (bcall HB.out hb)
  clear hb P1 HR
  go_wp2_with fail
  refine (P2.out _ (HT.out.below HB.out)).mono ?_
  rintro e w3 ⟨rfl, hb⟩
  have HB := Lib.hid (bcall HB.out hb)
  clear hb P2
  go_wp2
  go_ret
  exact ⟨rfl, HB.out⟩
end Go.Proofs.YtjhfpobjbijcpaaGreatDoor.O6
