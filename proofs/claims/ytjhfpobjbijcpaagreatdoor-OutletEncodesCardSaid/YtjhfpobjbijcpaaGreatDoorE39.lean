/-
  The document's Put: the bytes of a request. Conditions: the message's lists stand in the world, and aren't long.
-/
import Derived.Test.YtjhfpobjbijcpaaGreatDoorE13
import Derived.Test.YtjhfpobjbijcpaaGreatDoorE24
import Derived.Test.YtjhfpobjbijcpaaGreatDoorE30
import Derived.Test.YtjhfpobjbijcpaaGreatDoorE37
namespace Go.Proofs.YtjhfpobjbijcpaaGreatDoor.J7
open Go.ChangeShapes Go.WideShapes Go.ChangeAt Go.RowKit
open Go.Proofs.YtjhfpobjbijcpaaGreatDoor.Ms
open Go.Proofs.YtjhfpobjbijcpaaGreatDoor.Box
open Go.Proofs.YtjhfpobjbijcpaaGreatDoor.S1
open Go.Proofs.YtjhfpobjbijcpaaGreatDoor.Nu
open Go.Proofs.YtjhfpobjbijcpaaGreatDoor.J1
open Go.Proofs.YtjhfpobjbijcpaaGreatDoor.J2
open Go.Proofs.YtjhfpobjbijcpaaGreatDoor.Jr
open Go.Proofs.YtjhfpobjbijcpaaGreatDoor.An
open Go.Proofs.YtjhfpobjbijcpaaGreatDoor.F6 (cat_is conv_two to8)
open Go.Proofs.YtjhfpobjbijcpaaGreatDoor.Hs
open Go.Proofs.YtjhfpobjbijcpaaGreatDoor.Hy
open Go.Proofs.YtjhfpobjbijcpaaGreatDoor.Or (st_yes)
set_option linter.unusedVariables false
set_option maxRecDepth 100000
set_option maxRecDepth 100000
theorem lay_sz (v : Int) (n : Nat) : (⟨(layN v n).toArray⟩ : ByteArray).size ≤ n := by
  have := layN_len v n
  show (layN v n).toArray.size ≤ n
  simpa using this
theorem lay_b {v : Int} (h0 : 0 ≤ v) (h1 : v < 256) : layN v 1 = [UInt8.ofNat v.toNat] := by
  unfold layN
  rw [if_pos (show Oct.fitsB v ((1 : Nat) : Int) = true from fits1 h0 h1)]
  show [UInt8.ofNat (v.toNat / 256 ^ 0)] = _
  rw [Nat.pow_zero, Nat.div_one]
theorem dat9 (m : M) (k : m.kind = 12) (a0 : 0 ≤ m.ae) (a1 : m.ae < 256) (p0 : 0 ≤ m.plen) (p1 : m.plen < 256) : (⟨#[UInt8.ofNat m.ae.toNat, UInt8.ofNat m.plen.toNat]⟩ : ByteArray) ++ cutP m.ae m.pfx m.plen ++ putS m.sl = datJ m := text_eq (by
  unfold datJ
  rw [(f_12 k).2]
  unfold fld9
  rw [lay_b a0 a1, lay_b p0 p1]
  simp [ByteArray.data_append])
theorem dat10 (m : M) (k : m.kind = 13) (a0 : 0 ≤ m.ae) (a1 : m.ae < 256) (p0 : 0 ≤ m.plen) (p1 : m.plen < 256) (h0 : 0 ≤ m.hops) (h1 : m.hops < 256) : (⟨#[UInt8.ofNat m.ae.toNat, UInt8.ofNat m.plen.toNat]⟩ : ByteArray) ++ ⟨(layN m.seq 2).toArray⟩ ++ ⟨#[UInt8.ofNat m.hops.toNat, 0]⟩ ++ m.id ++ cutP m.ae m.pfx m.plen ++ putS m.sl = datJ m := text_eq (by
  unfold datJ
  rw [(f_13 k).2]
  unfold fld10
  rw [lay_b a0 a1, lay_b p0 p1, lay_b h0 h1]
  simp [ByteArray.data_append])
theorem build_two (c d : Int) (w : World) : (Instr.buildSlice 63 2 #[(0, .int .u8 c), (1, .int .u8 d)]).run Tryz.prog w = .ok (.slice (some ⟨w.heap.size, 0, none⟩) 2 2) (w.alloc (.cells #[.int .u8 c, .int .u8 d] 5)) := by
  kernel_rfl
theorem ex_bsB {o : Oper} {ρ : Operand → Value} {x y : Operand} {c d : Int} {w : World} (ho : o.op = .buildSlice 63 2 #[(0, x), (1, y)]) (hx : ρ x = .int .u8 c) (h1 : ρ y = .int .u8 d) :
    (execOp ρ o).run Tryz.prog w = .ok (.value (.slice (some ⟨w.heap.size, 0, none⟩) 2 2)) (w.alloc (.cells #[.int .u8 c, .int .u8 d] 5)) := by
  have e : ((#[(0, x), (1, y)] : Array (Nat × Operand)).map fun (i, x) => (i, ρ x)) = #[(0, .int .u8 c), (1, .int .u8 d)] := by simp [hx, h1]
  unfold execOp
  simp only [ho, Sem.run_bind, e, build_two, Result.andThen_ok, Sem.run_pure]
theorem ex_conv {o : Oper} {ρ : Operand → Value} {x : Operand} {v u : Value} {w : World} (ho : o.op = .convert 63 9 x) (hx : ρ x = v) (h : (convert 63 9 v).run Tryz.prog w = .ok u w) :
    (execOp ρ o).run Tryz.prog w = .ok (.value u) w := by
  unfold execOp
  simp only [ho, hx, Sem.run_bind, h, Result.andThen_ok, Sem.run_pure]
theorem conv_row2 (c : UInt8) (w : World) (g : Nat) (hB : Bk.Bk 5 w g #[.int .u8 (c.toNat : Int), .int .u8 0]) : (convert 63 9 (.slice (some ⟨g, 0, none⟩) 2 2)).run Tryz.prog w = .ok (.string ⟨#[c, 0]⟩) w := by
  refine run_convert_bytes_back _ 63 9 5 ⟨g, 0, none⟩ 2 [c, 0] Tryz.underlying63 Tryz.underlying5 Tryz.underlying9 fun j hj => ?_
  rw [Sx.add_at, Nat.zero_add]
  match j, hj with
  | 0, _ => exact hB.cell 0 _ rfl
  | 1, _ => exact hB.cell 1 _ rfl
set_option maxHeartbeats 12800000 in
theorem rput_any (m : M) (w : World) (hm : m.In w) (ln : m.sl.length ≤ 2000) (lb : ∀ x ∈ m.sl, x.1.size ≤ 1099511627776) (hp : m.pfx.size ≤ maxLen) : Calls Tryz.prog 63 #[.agg m.cells] w fun e w' => e = .returned (.tuple #[.string (putJ m), .bool (okJ m)]) ∧ Below w.heap.size w w' := by
  have HF := Lib.hid (Fs.new w m hm)
  have P1 := Lib.hid (fun V (h : m.In V) => rright_any m V h lb hp)
  have P2 := Lib.hid (fun V (h : m.In V) => S4.rput_any m.sa m.sc m.sl V h.s ln lb)
  clear lb hm ln hp
  cases hok : okJ m
  · have HK := Lib.hid (putJ_no hok)
    rw [hok] at P1
    clear hok
    go_enter Tryz.func63, Tryz.ntmps63
    go_upto_region 1 with fail
    generalize w.alloc (.cells m.cells 38) = V at *
    go_wp2_with (first | (refine wpList_loadM (b := w.heap.size) (m := m) rfl _ rfl rfl HF.out.m ?_))
    refine (P1.out _ HF.out.i).mono ?_
    rintro r w1 ⟨rfl, hb⟩
    have HF := Lib.hid (HF.out.call hb)
    clear hb P1
    go_wp2
    go_ret2
    exact ⟨pair_eq HK.out.symm rfl, HF.out.bel⟩
  have HK := Lib.hid (putJ_yes hok)
  obtain ⟨_, hi, hsb, hk⟩ := (ok_iff m).1 hok
  obtain ⟨a0, a1, p0, p1⟩ := len_range (in_cases hi).1
  have PC := Lib.hid (fun V (h : m.In V) => rbytes_any m V h hi)
  have zc : (cutP m.ae m.pfx m.plen).size ≤ 16 := by rw [cut_size hi]; exact (count_le (in_cases hi).1).1
  have HY := Lib.hid (putB_yes hok)
  have HZ := Lib.hid (show (datJ m).size ≤ 1048576 by have := dat_le hok; omega)
  have zs := putS_le m.sl
  have v0 := to8 m.ae a0 (by omega)
  have v1 := to8 m.plen p0 (by omega)
  rw [hok] at P1
  rw [hsb] at P2
  have PP := Lib.hid (fun V => F6.rput_any (typJ m) (datJ m) V HZ.out)
  clear hok hi hsb
  rcases kind_cases hk with k1 | ⟨k1, q⟩
  · rw [(f_12 k1).1] at PP HK HY
    have HD := Lib.hid (dat9 m k1 a0 (by omega) p0 (by omega))
    generalize cutP m.ae m.pfx m.plen = cp at *
    generalize putS m.sl = sb at *
    generalize datJ m = da at *
    generalize UInt8.ofNat m.ae.toNat = ca at *
    generalize UInt8.ofNat m.plen.toNat = cb at *
    have cv := conv_two ca cb
    have ha : (⟨#[ca, cb]⟩ : ByteArray).size = 2 := rfl
    generalize (⟨#[ca, cb]⟩ : ByteArray) = ab at *
    have cat1 := cat_is ab cp _ (by omega) (by omega) rfl
    have y1 : (ab ++ cp).size ≤ 18 := by rw [ByteArray.size_append]; omega
    have HD := Lib.hid (show ab ++ cp ++ sb = da from HD.out)
    generalize ab ++ cp = u1 at *
    have cat2 := cat_is u1 sb _ (by omega) (by omega) HD.out
    clear hk ha y1 zc zs a0 a1 p0 p1 HD
    go_enter Tryz.func63, Tryz.ntmps63
    go_upto_region 1 with fail
    generalize w.alloc (.cells m.cells 38) = V at *
    go_wp2_with (first | (refine wpList_loadM (b := w.heap.size) (m := m) rfl _ rfl rfl HF.out.m ?_))
    refine (P1.out _ HF.out.i).mono ?_
    rintro r w1 ⟨rfl, hb⟩
    have HF := Lib.hid (HF.out.call hb)
    clear hb P1
    have c24 := HF.out.m.cs.c24
    go_wp2_with fail
    refine (P2.out _ HF.out.i).mono ?_
    rintro r w2 ⟨rfl, hb⟩
    have HF := Lib.hid (HF.out.call hb)
    clear hb c24 P2
    have c0 := HF.out.m.cs.c0
    have c5 := HF.out.m.cs.c5
    have c7 := HF.out.m.cs.c7
    rw [k1] at c0
    go_upto_region 5 with fail
    have bel := balloc (Below.refl w2.heap.size w2) (.cells #[.int .u8 (ca.toNat : Int), .int .u8 (cb.toNat : Int)] 5)
    have HF := Lib.hid (HF.out.call bel)
    clear c0 c5 c7 bel
    generalize w2.alloc _ = V2 at *
    have c0 := HF.out.m.cs.c0
    rw [k1] at c0
    go_wp2_with (first | (refine wpList_loadM (b := w.heap.size) (m := m) rfl _ rfl rfl HF.out.m ?_))
    refine (PC.out _ HF.out.i).mono ?_
    rintro r w3 ⟨rfl, hb⟩
    have HF := Lib.hid (HF.out.call hb)
    clear hb c0
    go_wp2_with fail
    refine (PP.out _).mono ?_
    rintro r w4 ⟨rfl, hb⟩
    have HF := Lib.hid (HF.out.call hb)
    clear hb
    go_wp2
    go_ret2
    exact ⟨pair_eq HK.out.symm HY.out, HF.out.bel⟩
  · rw [(f_13 k1).1] at PP HK HY
    have h0 := q.low
    have h1 : m.hops < 256 := by have := ((Oct.fitsB_iff _ _).1 q.hops).2.2.2; simpa [Oct.pw] using this
    have HD := Lib.hid (dat10 m k1 a0 (by omega) p0 (by omega) (by omega) h1)
    have v2 := to8 m.hops (by omega) (by omega)
    have O1 := Lib.hid (fun V => of_any m.seq 2 2 rfl (by omega) (by omega) V)
    have z1 := lay_sz m.seq 2
    have zi := q.id
    generalize cutP m.ae m.pfx m.plen = cp at *
    generalize putS m.sl = sb at *
    generalize datJ m = da at *
    generalize UInt8.ofNat m.ae.toNat = ca at *
    generalize UInt8.ofNat m.plen.toNat = cb at *
    generalize UInt8.ofNat m.hops.toNat = ch at *
    generalize (⟨(layN m.seq 2).toArray⟩ : ByteArray) = t1 at *
    have cv := conv_two ca cb
    have ha : (⟨#[ca, cb]⟩ : ByteArray).size = 2 := rfl
    generalize (⟨#[ca, cb]⟩ : ByteArray) = ab at *
    have HD := Lib.hid (show ab ++ t1 ++ (⟨#[ch, 0]⟩ : ByteArray) ++ m.id ++ cp ++ sb = da from HD.out)
    have cvr := Lib.hid (conv_row2 ch)
    have hc : (⟨#[ch, 0]⟩ : ByteArray).size = 2 := rfl
    generalize (⟨#[ch, 0]⟩ : ByteArray) = t2 at *
    have cat1 := cat_is ab t1 _ (by omega) (by omega) rfl
    have y1 : (ab ++ t1).size ≤ 4 := by rw [ByteArray.size_append]; omega
    generalize ab ++ t1 = u1 at *
    have cat2 := cat_is u1 t2 _ (by omega) (by omega) rfl
    have y2 : (u1 ++ t2).size ≤ 6 := by rw [ByteArray.size_append]; omega
    generalize u1 ++ t2 = u2 at *
    have cat3 := cat_is u2 m.id _ (by omega) (by omega) rfl
    have y3 : (u2 ++ m.id).size ≤ 14 := by rw [ByteArray.size_append]; omega
    generalize u2 ++ m.id = u3 at *
    have cat4 := cat_is u3 cp _ (by omega) (by omega) rfl
    have y4 : (u3 ++ cp).size ≤ 30 := by rw [ByteArray.size_append]; omega
    generalize u3 ++ cp = u4 at *
    have cat5 := cat_is u4 sb _ (by omega) (by omega) HD.out
    clear hk ha hc y1 y2 y3 y4 zc zs z1 zi a0 a1 p0 p1 h0 h1 HD q
    go_enter Tryz.func63, Tryz.ntmps63
    go_upto_region 1 with fail
    generalize w.alloc (.cells m.cells 38) = V at *
    go_wp2_with (first | (refine wpList_loadM (b := w.heap.size) (m := m) rfl _ rfl rfl HF.out.m ?_))
    refine (P1.out _ HF.out.i).mono ?_
    rintro r w1 ⟨rfl, hb⟩
    have HF := Lib.hid (HF.out.call hb)
    clear hb P1
    have c24 := HF.out.m.cs.c24
    go_wp2_with fail
    refine (P2.out _ HF.out.i).mono ?_
    rintro r w2 ⟨rfl, hb⟩
    have HF := Lib.hid (HF.out.call hb)
    clear hb c24 P2
    have c0 := HF.out.m.cs.c0
    have c5 := HF.out.m.cs.c5
    have c7 := HF.out.m.cs.c7
    rw [k1] at c0
    go_upto_region 5 with fail
    have bel := balloc (Below.refl w2.heap.size w2) (.cells #[.int .u8 (ca.toNat : Int), .int .u8 (cb.toNat : Int)] 5)
    have HF := Lib.hid (HF.out.call bel)
    clear c0 c5 c7 bel cv v0 v1
    generalize w2.alloc _ = V2 at *
    have c0 := HF.out.m.cs.c0
    rw [k1] at c0
    go_upto_region 7 with fail
    refine wp_region_held_drew (S := fun W => Fs w W w.heap.size m) (by kernel_rfl) HF.out.drew (fun hS => ?_)
    clear HF c0
    generalize V2.drew = X0 at *
    refine H.tk (i := 0) (v := ?v0x1) ?h0x1 hS ?_
    case h0x1 => (intro w hw; go_simp; first | done | (with_reducible rfl))
    try simp only [Act.put, List.setIfInBounds_toArray, List.set_cons_zero, List.set_cons_succ]
    refine H.tk (i := 1) (v := ?v1x2) ?h1x2 hS ?_
    case h1x2 => (intro w hw; go_simp; first | done | (with_reducible rfl))
    try simp only [Act.put, List.setIfInBounds_toArray, List.set_cons_zero, List.set_cons_succ]
    refine H.tk (i := 2) (v := ?v2x3) ?h2x3 hS ?_
    case h2x3 => (intro w hw; have c := (hw.m).cs.c12; go_simp; first | done | (with_reducible rfl))
    try simp only [Act.put, List.setIfInBounds_toArray, List.set_cons_zero, List.set_cons_succ]
    refine H.tk (i := 5) (v := ?v5x4) ?h5x4 hS ?_
    case h5x4 => (intro w hw; go_simp; first | done | (with_reducible rfl))
    try simp only [Act.put, List.setIfInBounds_toArray, List.set_cons_zero, List.set_cons_succ]
    refine H.tk (i := 6) (v := ?v6x5) ?h6x5 hS ?_
    case h6x5 => (intro w hw; have c := (hw.m).cs.c16; go_simp; first | done | (with_reducible rfl))
    try simp only [Act.put, List.setIfInBounds_toArray, List.set_cons_zero, List.set_cons_succ]
    refine H.tk (i := 7) (v := ?v7x6) ?h7x6 hS ?_
    case h7x6 => (intro w hw; go_simp; first | done | (with_reducible rfl))
    try simp only [Act.put, List.setIfInBounds_toArray, List.set_cons_zero, List.set_cons_succ]
    refine H.tk (i := 11) (v := ?v11x7) ?h11x7 hS ?_
    case h11x7 => (intro w hw; go_simp; first | done | (with_reducible rfl))
    try simp only [Act.put, List.setIfInBounds_toArray, List.set_cons_zero, List.set_cons_succ]
    refine H.tk (i := 12) (v := ?v12x8) ?h12x8 hS ?_
    case h12x8 => (intro w hw; have c := (hw.m).cs.c11; go_simp; first | done | (with_reducible rfl))
    try simp only [Act.put, List.setIfInBounds_toArray, List.set_cons_zero, List.set_cons_succ]
    refine H.tk (i := 14) (v := .agg (M.cells m)) ?h14x9 hS ?_
    case h14x9 => exact (fun w hw => run_loadM (x := .tmp 1) rfl rfl hw.m)
    try simp only [Act.put, List.setIfInBounds_toArray, List.set_cons_zero, List.set_cons_succ]
    refine H.tk (i := 17) (v := ?v17x10) ?h17x10 hS ?_
    case h17x10 => (intro w hw; go_simp; first | done | (with_reducible rfl))
    try simp only [Act.put, List.setIfInBounds_toArray, List.set_cons_zero, List.set_cons_succ]
    refine H.two (i := 3) (j := 8) (by simp only [List.getElem?_toArray, List.getElem?_cons_succ, List.getElem?_cons_zero]; rfl) (by kernel_rfl) (by simp only [List.getElem?_toArray, List.getElem?_cons_succ, List.getElem?_cons_zero]; rfl) (by kernel_rfl) (by kernel_rfl) (fun K hK => ?wa11) (fun K hK => ?wb11)
    case wa11 =>
      go_simp
      refine (O1.out _).mono ?_
      rintro e X1 ⟨rfl, hb⟩
      have hS' := hS.call hb
      refine hK.out _ _ hS' ?_
      clear hK K hb hS
      have hS := hS'
      clear hS'
      try simp only [Act.put, List.setIfInBounds_toArray, List.set_cons_zero, List.set_cons_succ]
      refine H.tk (i := 4) (v := ?v4x12) ?h4x12 hS ?_
      case h4x12 => (intro w hw; go_simp; first | done | (with_reducible rfl))
      try simp only [Act.put, List.setIfInBounds_toArray, List.set_cons_zero, List.set_cons_succ]
      refine H.two (i := 8) (j := 15) (by simp only [List.getElem?_toArray, List.getElem?_cons_succ, List.getElem?_cons_zero]; rfl) (by kernel_rfl) (by simp only [List.getElem?_toArray, List.getElem?_cons_succ, List.getElem?_cons_zero]; rfl) (by kernel_rfl) (by kernel_rfl) (fun K hK => ?wa13) (fun K hK => ?wb13)
      case wa13 =>
        refine wp_valW rfl (ex_bsB (c := (ch.toNat : Int)) (d := 0) rfl rfl rfl) ?_
        have hS' := hS.call (balloc (Below.refl _ X1) (.cells #[.int .u8 (ch.toNat : Int), .int .u8 0] 5))
        refine hK.out _ _ hS' ?_
        have HB := Lib.hid (Bk.Bk.new 5 X1 #[.int .u8 (ch.toNat : Int), .int .u8 0])
        clear hK K hS
        have hS := hS'
        clear hS'
        generalize X1.alloc (.cells #[.int .u8 (ch.toNat : Int), .int .u8 0] 5) = X2 at *
        generalize X1.heap.size = g8 at *
        try simp only [Act.put, List.setIfInBounds_toArray, List.set_cons_zero, List.set_cons_succ]
        refine H.two (i := 9) (j := 15) (by simp only [List.getElem?_toArray, List.getElem?_cons_succ, List.getElem?_cons_zero]; rfl) (by kernel_rfl) (by simp only [List.getElem?_toArray, List.getElem?_cons_succ, List.getElem?_cons_zero]; rfl) (by kernel_rfl) (by kernel_rfl) (fun K hK => ?wa14) (fun K hK => ?wb14)
        case wa14 =>
          refine wp_valW rfl (ex_conv (x := .tmp 44) (v := .slice (some ⟨g8, 0, none⟩) 2 2) rfl rfl (cvr.out _ _ HB.out)) ?_
          refine hK.out _ _ hS ?_
          clear hK K
          try simp only [Act.put, List.setIfInBounds_toArray, List.set_cons_zero, List.set_cons_succ]
          refine H.tk (i := 10) (v := ?v10x15) ?h10x15 hS ?_
          case h10x15 => (intro w hw; go_simp; first | done | (with_reducible rfl))
          try simp only [Act.put, List.setIfInBounds_toArray, List.set_cons_zero, List.set_cons_succ]
          refine H.tk (i := 13) (v := ?v13x16) ?h13x16 hS ?_
          case h13x16 => (intro w hw; go_simp; first | done | (with_reducible rfl))
          try simp only [Act.put, List.setIfInBounds_toArray, List.set_cons_zero, List.set_cons_succ]
          refine H.one (i := 15) (by simp only [List.getElem?_toArray, List.getElem?_cons_succ, List.getElem?_cons_zero]; rfl) (by kernel_rfl) (by kernel_rfl) (fun K hK => ?_)
          go_simp
          refine (PC.out _ hS.i).mono ?_
          rintro e X3 ⟨rfl, hb⟩
          have hS' := hS.call hb
          have HB := Lib.hid (HB.out.below hb)
          refine hK.out _ _ hS' ?_
          clear hK K hb hS
          have hS := hS'
          clear hS'
          try simp only [Act.put, List.setIfInBounds_toArray, List.set_cons_zero, List.set_cons_succ]
          refine H.tk (i := 16) (v := ?v16x17) ?h16x17 hS ?_
          case h16x17 => (intro w hw; go_simp; first | done | (with_reducible rfl))
          try simp only [Act.put, List.setIfInBounds_toArray, List.set_cons_zero, List.set_cons_succ]
          refine H.tk (i := 18) (v := ?v18x18) ?h18x18 hS ?_
          case h18x18 => (intro w hw; go_simp; first | done | (with_reducible rfl))
          try simp only [Act.put, List.setIfInBounds_toArray, List.set_cons_zero, List.set_cons_succ]
          refine H.one (i := 19) (by simp only [List.getElem?_toArray, List.getElem?_cons_succ, List.getElem?_cons_zero]; rfl) (by kernel_rfl) (by kernel_rfl) (fun K hK => ?_)
          go_simp
          refine (PP.out _).mono ?_
          rintro e X4 ⟨rfl, hb⟩
          have hS' := hS.call hb
          have HB := Lib.hid (HB.out.below hb)
          refine hK.out _ _ hS' ?_
          clear hK K hb hS
          have hS := hS'
          clear hS'
          try simp only [Act.put, List.setIfInBounds_toArray, List.set_cons_zero, List.set_cons_succ]
          refine H.tk (i := 20) (v := ?v20x19) ?h20x19 hS ?_
          case h20x19 => (intro w hw; go_simp; first | done | (with_reducible rfl))
          try simp only [Act.put, List.setIfInBounds_toArray, List.set_cons_zero, List.set_cons_succ]
          refine H.tk (i := 21) (v := ?v21x20) ?h21x20 hS ?_
          case h21x20 => (intro w hw; go_simp; first | done | (with_reducible rfl))
          try simp only [Act.put, List.setIfInBounds_toArray, List.set_cons_zero, List.set_cons_succ]
          refine H.tk (i := 22) (v := ?v22x21) ?h22x21 hS ?_
          case h22x21 => (intro w hw; go_simp; first | done | (with_reducible rfl))
          try simp only [Act.put, List.setIfInBounds_toArray, List.set_cons_zero, List.set_cons_succ]
          refine H.tk (i := 23) (v := ?v23x22) ?h23x22 hS ?_
          case h23x22 => (intro w hw; go_simp; first | done | (with_reducible rfl))
          try simp only [Act.put, List.setIfInBounds_toArray, List.set_cons_zero, List.set_cons_succ]
          refine wpAnyH_done (by kernel_rfl) ?_ _
          go_wp2
          go_ret2
          exact ⟨pair_eq HK.out.symm HY.out, hS.bel⟩
        case wb14 =>
          go_simp
          refine (PC.out _ hS.i).mono ?_
          rintro e X3 ⟨rfl, hb⟩
          have hS' := hS.call hb
          have HB := Lib.hid (HB.out.below hb)
          refine hK.out _ _ hS' ?_
          clear hK K hb hS
          have hS := hS'
          clear hS'
          try simp only [Act.put, List.setIfInBounds_toArray, List.set_cons_zero, List.set_cons_succ]
          refine H.one (i := 9) (by simp only [List.getElem?_toArray, List.getElem?_cons_succ, List.getElem?_cons_zero]; rfl) (by kernel_rfl) (by kernel_rfl) (fun K hK => ?_)
          refine wp_valW rfl (ex_conv (x := .tmp 44) (v := .slice (some ⟨g8, 0, none⟩) 2 2) rfl rfl (cvr.out _ _ HB.out)) ?_
          refine hK.out _ _ hS ?_
          clear hK K
          try simp only [Act.put, List.setIfInBounds_toArray, List.set_cons_zero, List.set_cons_succ]
          refine H.tk (i := 10) (v := ?v10x23) ?h10x23 hS ?_
          case h10x23 => (intro w hw; go_simp; first | done | (with_reducible rfl))
          try simp only [Act.put, List.setIfInBounds_toArray, List.set_cons_zero, List.set_cons_succ]
          refine H.tk (i := 13) (v := ?v13x24) ?h13x24 hS ?_
          case h13x24 => (intro w hw; go_simp; first | done | (with_reducible rfl))
          try simp only [Act.put, List.setIfInBounds_toArray, List.set_cons_zero, List.set_cons_succ]
          refine H.tk (i := 16) (v := ?v16x25) ?h16x25 hS ?_
          case h16x25 => (intro w hw; go_simp; first | done | (with_reducible rfl))
          try simp only [Act.put, List.setIfInBounds_toArray, List.set_cons_zero, List.set_cons_succ]
          refine H.tk (i := 18) (v := ?v18x26) ?h18x26 hS ?_
          case h18x26 => (intro w hw; go_simp; first | done | (with_reducible rfl))
          try simp only [Act.put, List.setIfInBounds_toArray, List.set_cons_zero, List.set_cons_succ]
          refine H.one (i := 19) (by simp only [List.getElem?_toArray, List.getElem?_cons_succ, List.getElem?_cons_zero]; rfl) (by kernel_rfl) (by kernel_rfl) (fun K hK => ?_)
          go_simp
          refine (PP.out _).mono ?_
          rintro e X4 ⟨rfl, hb⟩
          have hS' := hS.call hb
          have HB := Lib.hid (HB.out.below hb)
          refine hK.out _ _ hS' ?_
          clear hK K hb hS
          have hS := hS'
          clear hS'
          try simp only [Act.put, List.setIfInBounds_toArray, List.set_cons_zero, List.set_cons_succ]
          refine H.tk (i := 20) (v := ?v20x27) ?h20x27 hS ?_
          case h20x27 => (intro w hw; go_simp; first | done | (with_reducible rfl))
          try simp only [Act.put, List.setIfInBounds_toArray, List.set_cons_zero, List.set_cons_succ]
          refine H.tk (i := 21) (v := ?v21x28) ?h21x28 hS ?_
          case h21x28 => (intro w hw; go_simp; first | done | (with_reducible rfl))
          try simp only [Act.put, List.setIfInBounds_toArray, List.set_cons_zero, List.set_cons_succ]
          refine H.tk (i := 22) (v := ?v22x29) ?h22x29 hS ?_
          case h22x29 => (intro w hw; go_simp; first | done | (with_reducible rfl))
          try simp only [Act.put, List.setIfInBounds_toArray, List.set_cons_zero, List.set_cons_succ]
          refine H.tk (i := 23) (v := ?v23x30) ?h23x30 hS ?_
          case h23x30 => (intro w hw; go_simp; first | done | (with_reducible rfl))
          try simp only [Act.put, List.setIfInBounds_toArray, List.set_cons_zero, List.set_cons_succ]
          refine wpAnyH_done (by kernel_rfl) ?_ _
          go_wp2
          go_ret2
          exact ⟨pair_eq HK.out.symm HY.out, hS.bel⟩
      case wb13 =>
        go_simp
        refine (PC.out _ hS.i).mono ?_
        rintro e X2 ⟨rfl, hb⟩
        have hS' := hS.call hb
        refine hK.out _ _ hS' ?_
        clear hK K hb hS
        have hS := hS'
        clear hS'
        try simp only [Act.put, List.setIfInBounds_toArray, List.set_cons_zero, List.set_cons_succ]
        refine H.one (i := 8) (by simp only [List.getElem?_toArray, List.getElem?_cons_succ, List.getElem?_cons_zero]; rfl) (by kernel_rfl) (by kernel_rfl) (fun K hK => ?_)
        refine wp_valW rfl (ex_bsB (c := (ch.toNat : Int)) (d := 0) rfl rfl rfl) ?_
        have hS' := hS.call (balloc (Below.refl _ X2) (.cells #[.int .u8 (ch.toNat : Int), .int .u8 0] 5))
        refine hK.out _ _ hS' ?_
        have HB := Lib.hid (Bk.Bk.new 5 X2 #[.int .u8 (ch.toNat : Int), .int .u8 0])
        clear hK K hS
        have hS := hS'
        clear hS'
        generalize X2.alloc (.cells #[.int .u8 (ch.toNat : Int), .int .u8 0] 5) = X3 at *
        generalize X2.heap.size = g8 at *
        try simp only [Act.put, List.setIfInBounds_toArray, List.set_cons_zero, List.set_cons_succ]
        refine H.one (i := 9) (by simp only [List.getElem?_toArray, List.getElem?_cons_succ, List.getElem?_cons_zero]; rfl) (by kernel_rfl) (by kernel_rfl) (fun K hK => ?_)
        refine wp_valW rfl (ex_conv (x := .tmp 44) (v := .slice (some ⟨g8, 0, none⟩) 2 2) rfl rfl (cvr.out _ _ HB.out)) ?_
        refine hK.out _ _ hS ?_
        clear hK K
        try simp only [Act.put, List.setIfInBounds_toArray, List.set_cons_zero, List.set_cons_succ]
        refine H.tk (i := 10) (v := ?v10x31) ?h10x31 hS ?_
        case h10x31 => (intro w hw; go_simp; first | done | (with_reducible rfl))
        try simp only [Act.put, List.setIfInBounds_toArray, List.set_cons_zero, List.set_cons_succ]
        refine H.tk (i := 13) (v := ?v13x32) ?h13x32 hS ?_
        case h13x32 => (intro w hw; go_simp; first | done | (with_reducible rfl))
        try simp only [Act.put, List.setIfInBounds_toArray, List.set_cons_zero, List.set_cons_succ]
        refine H.tk (i := 16) (v := ?v16x33) ?h16x33 hS ?_
        case h16x33 => (intro w hw; go_simp; first | done | (with_reducible rfl))
        try simp only [Act.put, List.setIfInBounds_toArray, List.set_cons_zero, List.set_cons_succ]
        refine H.tk (i := 18) (v := ?v18x34) ?h18x34 hS ?_
        case h18x34 => (intro w hw; go_simp; first | done | (with_reducible rfl))
        try simp only [Act.put, List.setIfInBounds_toArray, List.set_cons_zero, List.set_cons_succ]
        refine H.one (i := 19) (by simp only [List.getElem?_toArray, List.getElem?_cons_succ, List.getElem?_cons_zero]; rfl) (by kernel_rfl) (by kernel_rfl) (fun K hK => ?_)
        go_simp
        refine (PP.out _).mono ?_
        rintro e X4 ⟨rfl, hb⟩
        have hS' := hS.call hb
        have HB := Lib.hid (HB.out.below hb)
        refine hK.out _ _ hS' ?_
        clear hK K hb hS
        have hS := hS'
        clear hS'
        try simp only [Act.put, List.setIfInBounds_toArray, List.set_cons_zero, List.set_cons_succ]
        refine H.tk (i := 20) (v := ?v20x35) ?h20x35 hS ?_
        case h20x35 => (intro w hw; go_simp; first | done | (with_reducible rfl))
        try simp only [Act.put, List.setIfInBounds_toArray, List.set_cons_zero, List.set_cons_succ]
        refine H.tk (i := 21) (v := ?v21x36) ?h21x36 hS ?_
        case h21x36 => (intro w hw; go_simp; first | done | (with_reducible rfl))
        try simp only [Act.put, List.setIfInBounds_toArray, List.set_cons_zero, List.set_cons_succ]
        refine H.tk (i := 22) (v := ?v22x37) ?h22x37 hS ?_
        case h22x37 => (intro w hw; go_simp; first | done | (with_reducible rfl))
        try simp only [Act.put, List.setIfInBounds_toArray, List.set_cons_zero, List.set_cons_succ]
        refine H.tk (i := 23) (v := ?v23x38) ?h23x38 hS ?_
        case h23x38 => (intro w hw; go_simp; first | done | (with_reducible rfl))
        try simp only [Act.put, List.setIfInBounds_toArray, List.set_cons_zero, List.set_cons_succ]
        refine wpAnyH_done (by kernel_rfl) ?_ _
        go_wp2
        go_ret2
        exact ⟨pair_eq HK.out.symm HY.out, hS.bel⟩
    case wb11 =>
      refine wp_valW rfl (ex_bsB (c := (ch.toNat : Int)) (d := 0) rfl rfl rfl) ?_
      have hS' := hS.call (balloc (Below.refl _ X0) (.cells #[.int .u8 (ch.toNat : Int), .int .u8 0] 5))
      refine hK.out _ _ hS' ?_
      have HB := Lib.hid (Bk.Bk.new 5 X0 #[.int .u8 (ch.toNat : Int), .int .u8 0])
      clear hK K hS
      have hS := hS'
      clear hS'
      generalize X0.alloc (.cells #[.int .u8 (ch.toNat : Int), .int .u8 0] 5) = X1 at *
      generalize X0.heap.size = g8 at *
      try simp only [Act.put, List.setIfInBounds_toArray, List.set_cons_zero, List.set_cons_succ]
      refine H.two (i := 3) (j := 9) (by simp only [List.getElem?_toArray, List.getElem?_cons_succ, List.getElem?_cons_zero]; rfl) (by kernel_rfl) (by simp only [List.getElem?_toArray, List.getElem?_cons_succ, List.getElem?_cons_zero]; rfl) (by kernel_rfl) (by kernel_rfl) (fun K hK => ?wa39) (fun K hK => ?wb39)
      case wa39 =>
        go_simp
        refine (O1.out _).mono ?_
        rintro e X2 ⟨rfl, hb⟩
        have hS' := hS.call hb
        have HB := Lib.hid (HB.out.below hb)
        refine hK.out _ _ hS' ?_
        clear hK K hb hS
        have hS := hS'
        clear hS'
        try simp only [Act.put, List.setIfInBounds_toArray, List.set_cons_zero, List.set_cons_succ]
        refine H.tk (i := 4) (v := ?v4x40) ?h4x40 hS ?_
        case h4x40 => (intro w hw; go_simp; first | done | (with_reducible rfl))
        try simp only [Act.put, List.setIfInBounds_toArray, List.set_cons_zero, List.set_cons_succ]
        refine H.two (i := 9) (j := 15) (by simp only [List.getElem?_toArray, List.getElem?_cons_succ, List.getElem?_cons_zero]; rfl) (by kernel_rfl) (by simp only [List.getElem?_toArray, List.getElem?_cons_succ, List.getElem?_cons_zero]; rfl) (by kernel_rfl) (by kernel_rfl) (fun K hK => ?wa41) (fun K hK => ?wb41)
        case wa41 =>
          refine wp_valW rfl (ex_conv (x := .tmp 44) (v := .slice (some ⟨g8, 0, none⟩) 2 2) rfl rfl (cvr.out _ _ HB.out)) ?_
          refine hK.out _ _ hS ?_
          clear hK K
          try simp only [Act.put, List.setIfInBounds_toArray, List.set_cons_zero, List.set_cons_succ]
          refine H.tk (i := 10) (v := ?v10x42) ?h10x42 hS ?_
          case h10x42 => (intro w hw; go_simp; first | done | (with_reducible rfl))
          try simp only [Act.put, List.setIfInBounds_toArray, List.set_cons_zero, List.set_cons_succ]
          refine H.tk (i := 13) (v := ?v13x43) ?h13x43 hS ?_
          case h13x43 => (intro w hw; go_simp; first | done | (with_reducible rfl))
          try simp only [Act.put, List.setIfInBounds_toArray, List.set_cons_zero, List.set_cons_succ]
          refine H.one (i := 15) (by simp only [List.getElem?_toArray, List.getElem?_cons_succ, List.getElem?_cons_zero]; rfl) (by kernel_rfl) (by kernel_rfl) (fun K hK => ?_)
          go_simp
          refine (PC.out _ hS.i).mono ?_
          rintro e X3 ⟨rfl, hb⟩
          have hS' := hS.call hb
          have HB := Lib.hid (HB.out.below hb)
          refine hK.out _ _ hS' ?_
          clear hK K hb hS
          have hS := hS'
          clear hS'
          try simp only [Act.put, List.setIfInBounds_toArray, List.set_cons_zero, List.set_cons_succ]
          refine H.tk (i := 16) (v := ?v16x44) ?h16x44 hS ?_
          case h16x44 => (intro w hw; go_simp; first | done | (with_reducible rfl))
          try simp only [Act.put, List.setIfInBounds_toArray, List.set_cons_zero, List.set_cons_succ]
          refine H.tk (i := 18) (v := ?v18x45) ?h18x45 hS ?_
          case h18x45 => (intro w hw; go_simp; first | done | (with_reducible rfl))
          try simp only [Act.put, List.setIfInBounds_toArray, List.set_cons_zero, List.set_cons_succ]
          refine H.one (i := 19) (by simp only [List.getElem?_toArray, List.getElem?_cons_succ, List.getElem?_cons_zero]; rfl) (by kernel_rfl) (by kernel_rfl) (fun K hK => ?_)
          go_simp
          refine (PP.out _).mono ?_
          rintro e X4 ⟨rfl, hb⟩
          have hS' := hS.call hb
          have HB := Lib.hid (HB.out.below hb)
          refine hK.out _ _ hS' ?_
          clear hK K hb hS
          have hS := hS'
          clear hS'
          try simp only [Act.put, List.setIfInBounds_toArray, List.set_cons_zero, List.set_cons_succ]
          refine H.tk (i := 20) (v := ?v20x46) ?h20x46 hS ?_
          case h20x46 => (intro w hw; go_simp; first | done | (with_reducible rfl))
          try simp only [Act.put, List.setIfInBounds_toArray, List.set_cons_zero, List.set_cons_succ]
          refine H.tk (i := 21) (v := ?v21x47) ?h21x47 hS ?_
          case h21x47 => (intro w hw; go_simp; first | done | (with_reducible rfl))
          try simp only [Act.put, List.setIfInBounds_toArray, List.set_cons_zero, List.set_cons_succ]
          refine H.tk (i := 22) (v := ?v22x48) ?h22x48 hS ?_
          case h22x48 => (intro w hw; go_simp; first | done | (with_reducible rfl))
          try simp only [Act.put, List.setIfInBounds_toArray, List.set_cons_zero, List.set_cons_succ]
          refine H.tk (i := 23) (v := ?v23x49) ?h23x49 hS ?_
          case h23x49 => (intro w hw; go_simp; first | done | (with_reducible rfl))
          try simp only [Act.put, List.setIfInBounds_toArray, List.set_cons_zero, List.set_cons_succ]
          refine wpAnyH_done (by kernel_rfl) ?_ _
          go_wp2
          go_ret2
          exact ⟨pair_eq HK.out.symm HY.out, hS.bel⟩
        case wb41 =>
          go_simp
          refine (PC.out _ hS.i).mono ?_
          rintro e X3 ⟨rfl, hb⟩
          have hS' := hS.call hb
          have HB := Lib.hid (HB.out.below hb)
          refine hK.out _ _ hS' ?_
          clear hK K hb hS
          have hS := hS'
          clear hS'
          try simp only [Act.put, List.setIfInBounds_toArray, List.set_cons_zero, List.set_cons_succ]
          refine H.one (i := 9) (by simp only [List.getElem?_toArray, List.getElem?_cons_succ, List.getElem?_cons_zero]; rfl) (by kernel_rfl) (by kernel_rfl) (fun K hK => ?_)
          refine wp_valW rfl (ex_conv (x := .tmp 44) (v := .slice (some ⟨g8, 0, none⟩) 2 2) rfl rfl (cvr.out _ _ HB.out)) ?_
          refine hK.out _ _ hS ?_
          clear hK K
          try simp only [Act.put, List.setIfInBounds_toArray, List.set_cons_zero, List.set_cons_succ]
          refine H.tk (i := 10) (v := ?v10x50) ?h10x50 hS ?_
          case h10x50 => (intro w hw; go_simp; first | done | (with_reducible rfl))
          try simp only [Act.put, List.setIfInBounds_toArray, List.set_cons_zero, List.set_cons_succ]
          refine H.tk (i := 13) (v := ?v13x51) ?h13x51 hS ?_
          case h13x51 => (intro w hw; go_simp; first | done | (with_reducible rfl))
          try simp only [Act.put, List.setIfInBounds_toArray, List.set_cons_zero, List.set_cons_succ]
          refine H.tk (i := 16) (v := ?v16x52) ?h16x52 hS ?_
          case h16x52 => (intro w hw; go_simp; first | done | (with_reducible rfl))
          try simp only [Act.put, List.setIfInBounds_toArray, List.set_cons_zero, List.set_cons_succ]
          refine H.tk (i := 18) (v := ?v18x53) ?h18x53 hS ?_
          case h18x53 => (intro w hw; go_simp; first | done | (with_reducible rfl))
          try simp only [Act.put, List.setIfInBounds_toArray, List.set_cons_zero, List.set_cons_succ]
          refine H.one (i := 19) (by simp only [List.getElem?_toArray, List.getElem?_cons_succ, List.getElem?_cons_zero]; rfl) (by kernel_rfl) (by kernel_rfl) (fun K hK => ?_)
          go_simp
          refine (PP.out _).mono ?_
          rintro e X4 ⟨rfl, hb⟩
          have hS' := hS.call hb
          have HB := Lib.hid (HB.out.below hb)
          refine hK.out _ _ hS' ?_
          clear hK K hb hS
          have hS := hS'
          clear hS'
          try simp only [Act.put, List.setIfInBounds_toArray, List.set_cons_zero, List.set_cons_succ]
          refine H.tk (i := 20) (v := ?v20x54) ?h20x54 hS ?_
          case h20x54 => (intro w hw; go_simp; first | done | (with_reducible rfl))
          try simp only [Act.put, List.setIfInBounds_toArray, List.set_cons_zero, List.set_cons_succ]
          refine H.tk (i := 21) (v := ?v21x55) ?h21x55 hS ?_
          case h21x55 => (intro w hw; go_simp; first | done | (with_reducible rfl))
          try simp only [Act.put, List.setIfInBounds_toArray, List.set_cons_zero, List.set_cons_succ]
          refine H.tk (i := 22) (v := ?v22x56) ?h22x56 hS ?_
          case h22x56 => (intro w hw; go_simp; first | done | (with_reducible rfl))
          try simp only [Act.put, List.setIfInBounds_toArray, List.set_cons_zero, List.set_cons_succ]
          refine H.tk (i := 23) (v := ?v23x57) ?h23x57 hS ?_
          case h23x57 => (intro w hw; go_simp; first | done | (with_reducible rfl))
          try simp only [Act.put, List.setIfInBounds_toArray, List.set_cons_zero, List.set_cons_succ]
          refine wpAnyH_done (by kernel_rfl) ?_ _
          go_wp2
          go_ret2
          exact ⟨pair_eq HK.out.symm HY.out, hS.bel⟩
      case wb39 =>
        refine wp_valW rfl (ex_conv (x := .tmp 44) (v := .slice (some ⟨g8, 0, none⟩) 2 2) rfl rfl (cvr.out _ _ HB.out)) ?_
        refine hK.out _ _ hS ?_
        clear hK K
        try simp only [Act.put, List.setIfInBounds_toArray, List.set_cons_zero, List.set_cons_succ]
        refine H.one (i := 3) (by simp only [List.getElem?_toArray, List.getElem?_cons_succ, List.getElem?_cons_zero]; rfl) (by kernel_rfl) (by kernel_rfl) (fun K hK => ?_)
        go_simp
        refine (O1.out _).mono ?_
        rintro e X2 ⟨rfl, hb⟩
        have hS' := hS.call hb
        have HB := Lib.hid (HB.out.below hb)
        refine hK.out _ _ hS' ?_
        clear hK K hb hS
        have hS := hS'
        clear hS'
        try simp only [Act.put, List.setIfInBounds_toArray, List.set_cons_zero, List.set_cons_succ]
        refine H.tk (i := 4) (v := ?v4x58) ?h4x58 hS ?_
        case h4x58 => (intro w hw; go_simp; first | done | (with_reducible rfl))
        try simp only [Act.put, List.setIfInBounds_toArray, List.set_cons_zero, List.set_cons_succ]
        refine H.tk (i := 10) (v := ?v10x59) ?h10x59 hS ?_
        case h10x59 => (intro w hw; go_simp; first | done | (with_reducible rfl))
        try simp only [Act.put, List.setIfInBounds_toArray, List.set_cons_zero, List.set_cons_succ]
        refine H.tk (i := 13) (v := ?v13x60) ?h13x60 hS ?_
        case h13x60 => (intro w hw; go_simp; first | done | (with_reducible rfl))
        try simp only [Act.put, List.setIfInBounds_toArray, List.set_cons_zero, List.set_cons_succ]
        refine H.one (i := 15) (by simp only [List.getElem?_toArray, List.getElem?_cons_succ, List.getElem?_cons_zero]; rfl) (by kernel_rfl) (by kernel_rfl) (fun K hK => ?_)
        go_simp
        refine (PC.out _ hS.i).mono ?_
        rintro e X3 ⟨rfl, hb⟩
        have hS' := hS.call hb
        have HB := Lib.hid (HB.out.below hb)
        refine hK.out _ _ hS' ?_
        clear hK K hb hS
        have hS := hS'
        clear hS'
        try simp only [Act.put, List.setIfInBounds_toArray, List.set_cons_zero, List.set_cons_succ]
        refine H.tk (i := 16) (v := ?v16x61) ?h16x61 hS ?_
        case h16x61 => (intro w hw; go_simp; first | done | (with_reducible rfl))
        try simp only [Act.put, List.setIfInBounds_toArray, List.set_cons_zero, List.set_cons_succ]
        refine H.tk (i := 18) (v := ?v18x62) ?h18x62 hS ?_
        case h18x62 => (intro w hw; go_simp; first | done | (with_reducible rfl))
        try simp only [Act.put, List.setIfInBounds_toArray, List.set_cons_zero, List.set_cons_succ]
        refine H.one (i := 19) (by simp only [List.getElem?_toArray, List.getElem?_cons_succ, List.getElem?_cons_zero]; rfl) (by kernel_rfl) (by kernel_rfl) (fun K hK => ?_)
        go_simp
        refine (PP.out _).mono ?_
        rintro e X4 ⟨rfl, hb⟩
        have hS' := hS.call hb
        have HB := Lib.hid (HB.out.below hb)
        refine hK.out _ _ hS' ?_
        clear hK K hb hS
        have hS := hS'
        clear hS'
        try simp only [Act.put, List.setIfInBounds_toArray, List.set_cons_zero, List.set_cons_succ]
        refine H.tk (i := 20) (v := ?v20x63) ?h20x63 hS ?_
        case h20x63 => (intro w hw; go_simp; first | done | (with_reducible rfl))
        try simp only [Act.put, List.setIfInBounds_toArray, List.set_cons_zero, List.set_cons_succ]
        refine H.tk (i := 21) (v := ?v21x64) ?h21x64 hS ?_
        case h21x64 => (intro w hw; go_simp; first | done | (with_reducible rfl))
        try simp only [Act.put, List.setIfInBounds_toArray, List.set_cons_zero, List.set_cons_succ]
        refine H.tk (i := 22) (v := ?v22x65) ?h22x65 hS ?_
        case h22x65 => (intro w hw; go_simp; first | done | (with_reducible rfl))
        try simp only [Act.put, List.setIfInBounds_toArray, List.set_cons_zero, List.set_cons_succ]
        refine H.tk (i := 23) (v := ?v23x66) ?h23x66 hS ?_
        case h23x66 => (intro w hw; go_simp; first | done | (with_reducible rfl))
        try simp only [Act.put, List.setIfInBounds_toArray, List.set_cons_zero, List.set_cons_succ]
        refine wpAnyH_done (by kernel_rfl) ?_ _
        go_wp2
        go_ret2
        exact ⟨pair_eq HK.out.symm HY.out, hS.bel⟩
end Go.Proofs.YtjhfpobjbijcpaaGreatDoor.J7
