/-
  Put of a request: the program's and the document's. Conditions: the message's lists stand in the world; at most 2000 extensions.
-/
import Derived.Test.YtlelfapmleopaaaQ2
import Derived.Test.YtlelfapmleopaaaXq
import Derived.Test.YtlelfapmleopaaaP5
namespace Go.Proofs.Ytlelfapmleopaaa.Q5
open Go.ChangeShapes Go.WideShapes Go.ChangeAt Go.RowKit
open Go.Proofs.Ytlelfapmleopaaa.Ms
open Go.Proofs.Ytlelfapmleopaaa.Box
open Go.Proofs.Ytlelfapmleopaaa.Xv
open Go.Proofs.Ytlelfapmleopaaa.Xp (to8 putS pair_eq)
open Go.Proofs.Ytlelfapmleopaaa.Q1
open Go.Proofs.Ytlelfapmleopaaa.Q2
open Go.Proofs.Ytlelfapmleopaaa.Am
open Go.Proofs.Ytlelfapmleopaaa.Hs
open Go.Proofs.Ytlelfapmleopaaa.Hy
open Go.Proofs.Ytlelfapmleopaaa.Nu
open Go.Proofs.Ytlelfapmleopaaa.Oct (fitsB)
open Go.Proofs.Ytlelfapmleopaaa.Or (st_yes)
set_option linter.unusedVariables false
set_option maxRecDepth 100000
set_option maxRecDepth 100000
theorem str_eq {a b : ByteArray} (h : a = b) : Ending.returned (.string a) = .returned (.string b) := by rw [h]
theorem conv_four (c d : UInt8) (w : World) : (convert 59 9 (.slice (some ⟨w.heap.size, 0, none⟩) 4 4)).run Try.prog (w.alloc (.cells #[.int .u8 1, .int .u8 (c.toNat : Int), .int .u8 0, .int .u8 (d.toNat : Int)] 5)) = .ok (.string ⟨#[1, c, 0, d]⟩) (w.alloc (.cells #[.int .u8 1, .int .u8 (c.toNat : Int), .int .u8 0, .int .u8 (d.toNat : Int)] 5)) := by
  refine run_convert_bytes_back _ 59 9 5 ⟨w.heap.size, 0, none⟩ 4 [1, c, 0, d] Try.underlying59 Try.underlying5 Try.underlying9 fun j hj => ?_
  have hB := Bk.Bk.new 5 w #[.int .u8 1, .int .u8 (c.toNat : Int), .int .u8 0, .int .u8 (d.toNat : Int)]
  rw [Sx.add_at, Nat.zero_add]
  match j, hj with
  | 0, _ => exact hB.cell 0 _ rfl
  | 1, _ => exact hB.cell 1 _ rfl
  | 2, _ => exact hB.cell 2 _ rfl
  | 3, _ => exact hB.cell 3 _ rfl
theorem hd_parts (m : M) : (⟨#[1, UInt8.ofNat (8 * m.flags.toNat), 0, UInt8.ofNat m.hops.toNat]⟩ : ByteArray) ++ ⟨(layN m.nonce 4).toArray⟩ ++ m.addr ++ ⟨(layN m.seq 4).toArray⟩ ++ m.orig ++ ⟨(layN m.seq2 4).toArray⟩ = ⟨(hd m).toArray⟩ := by
  refine text_eq ?_
  simp [hd, ByteArray.data_append]
theorem flag_byte {n : Int} (h : 0 ≤ n) : UInt8.ofNat (n * 8).toNat = UInt8.ofNat (8 * n.toNat) := by
  have : (n * 8).toNat = 8 * n.toNat := by omega
  rw [this]
theorem lay_size (v : Int) (k : Nat) : (⟨(layN v k).toArray⟩ : ByteArray).size ≤ k := by show (layN v k).toArray.size ≤ k; simpa using layN_len v k
set_option maxHeartbeats 3200000 in
theorem whead_any (m : M) (w : World) (hm : m.In w) (hn : nums m = true) (ha : m.addr.size = 4) (ho : m.orig.size = 4) :
    Calls Try.prog 70 #[.agg m.cells] w fun e w' => e = .returned (.string ⟨(hd m).toArray⟩) ∧ Below w.heap.size w w' := by
  obtain ⟨f0, f1, n1, -, -, -⟩ := (nums_iff m).1 hn
  obtain ⟨h0, h1⟩ := fits_one n1
  have v1 := to8 (m.flags * 8) (by omega) (by omega)
  have v2 := to8 m.hops h0 (by omega)
  rw [flag_byte f0] at v1
  have HF := Lib.hid (Fs.new w m hm)
  have HY := Lib.hid (hd_parts m)
  have P1 := Lib.hid (fun V => oput_any m.nonce 4 4 rfl (by omega) (by omega) V)
  have P2 := Lib.hid (fun V => oput_any m.seq 4 4 rfl (by omega) (by omega) V)
  have P3 := Lib.hid (fun V => oput_any m.seq2 4 4 rfl (by omega) (by omega) V)
  have z1 := lay_size m.nonce 4
  have z2 := lay_size m.seq 4
  have z3 := lay_size m.seq2 4
  generalize (⟨(layN m.nonce 4).toArray⟩ : ByteArray) = t1 at *
  generalize (⟨(layN m.seq 4).toArray⟩ : ByteArray) = t2 at *
  generalize (⟨(layN m.seq2 4).toArray⟩ : ByteArray) = t3 at *
  generalize fitsB m.nonce 4 = x1 at *
  generalize fitsB m.seq 4 = x2 at *
  generalize fitsB m.seq2 4 = x3 at *
  generalize UInt8.ofNat (8 * m.flags.toNat) = cf at *
  generalize UInt8.ofNat m.hops.toNat = ch at *
  generalize (⟨(hd m).toArray⟩ : ByteArray) = R at *
  clear hn n1 hm
  go_enter Try.func70, Try.ntmps70
  go_upto_region 1 with fail
  generalize w.alloc (.cells m.cells 34) = V at *
  have c15 := HF.out.m.cs.c15
  have c16 := HF.out.m.cs.c16
  have cv := conv_four cf ch V
  go_upto_region 2 with fail
  have HF := Lib.hid (HF.out.call (balloc (Below.refl _ V) (.cells #[.int .u8 1, .int .u8 (cf.toNat : Int), .int .u8 0, .int .u8 (ch.toNat : Int)] 5)))
  clear cv c15 c16 v1 v2 h0 h1 f0 f1
  change Code.wp _ _ _ _ (V.alloc (.cells #[.int .u8 1, .int .u8 (cf.toNat : Int), .int .u8 0, .int .u8 (ch.toNat : Int)] 5))
  generalize V.alloc (.cells #[.int .u8 1, .int .u8 (cf.toNat : Int), .int .u8 0, .int .u8 (ch.toNat : Int)] 5) = V1 at *
  have z0 : (⟨#[1, cf, 0, ch]⟩ : ByteArray).size = 4 := rfl
  generalize (⟨#[1, cf, 0, ch]⟩ : ByteArray) = t0 at *
  have c := HF.out.m.cs.c17
  go_wp2_with fail
  refine (P1.out _).mono ?_
  rintro e W1 ⟨rfl, hb⟩
  have HF := Lib.hid (HF.out.call hb)
  clear hb c P1
  have c := HF.out.m.cs.c12
  go_wp2_with fail
  refine (P2.out _).mono ?_
  rintro e W2 ⟨rfl, hb⟩
  have HF := Lib.hid (HF.out.call hb)
  clear hb c P2
  have c := HF.out.m.cs.c13
  go_wp2_with fail
  refine (P3.out _).mono ?_
  rintro e W3 ⟨rfl, hb⟩
  have HF := Lib.hid (HF.out.call hb)
  clear hb c P3
  have c19 := HF.out.m.cs.c19
  have c20 := HF.out.m.cs.c20
  go_wp2
  go_ret
  exact ⟨str_eq HY.out, HF.out.bel⟩
set_option maxHeartbeats 3200000 in
theorem put_any (m : M) (w : World) (hm : m.In w) (ln : m.sl.length ≤ 2000) (lb : ∀ x ∈ m.sl, x.1.size ≤ 1099511627776) :
    Calls Try.prog 49 #[.agg m.cells] w fun e w' => e = .returned (.tuple #[.string (putQ m), .bool (okQ m)]) ∧ Below w.heap.size w w' := by
  have HF := Lib.hid (Fs.new w m hm)
  have P1 := Lib.hid (fun V (h : m.In V) => right_any m V h lb)
  have P2 := Lib.hid (fun V (h : m.In V) => Xp.put_any m.sa m.sc m.sl V h.s ln lb)
  by_cases hok : okQ m = true
  rotate_left
  · have hok : okQ m = false := by simpa using hok
    have HP := Lib.hid (putQ_no hok)
    have HK := Lib.hid hok
    rw [hok] at P1
    clear hok lb P2 hm
    go_enter Try.func49, Try.ntmps49
    go_upto_region 1 with fail
    generalize w.alloc (.cells m.cells 34) = V at *
    go_wp2_with (first | (refine wpList_loadM (b := w.heap.size) (m := m) rfl _ rfl rfl HF.out.m ?_))
    refine (P1.out _ HF.out.i).mono ?_
    rintro e V1 ⟨rfl, hb⟩
    have HF := Lib.hid (HF.out.call hb)
    clear hb
    go_wp2
    go_ret2
    exact ⟨pair_eq HP.out.symm HK.out.symm, HF.out.bel⟩
  obtain ⟨_, _, hn, ha, ho, hx⟩ := (ok_iff m).1 hok
  have P3 := Lib.hid (fun V (h : m.In V) => whead_any m V h hn ha ho)
  have HP := Lib.hid (putQ_yes hok)
  have HK := Lib.hid hok
  have HE : Hid ((⟨(hd m).toArray⟩ : ByteArray) ++ putS m.sl = ⟨(encQ m).toArray⟩) := Lib.hid (by
    rw [Xp.putS_yes hx]
    refine text_eq ?_
    simp [encQ, ByteArray.data_append])
  have z1 : (⟨(hd m).toArray⟩ : ByteArray).size ≤ 1000 := by
    obtain ⟨f0, f1, n1, n2, n3, n4⟩ := (nums_iff m).1 hn
    show (hd m).length ≤ _
    unfold hd
    simp only [List.length_append, List.length_cons, lay_len n2, lay_len n3, lay_len n4, size_list, ha, ho]
    omega
  have z2 : (putS m.sl).size ≤ 514000 := by
    rw [Xp.putS_yes hx]
    show (encX m.sl).length ≤ _
    rw [encX_len]
    have := bytes_most hx
    omega
  rw [hok] at P1
  rw [hx] at P2
  generalize (⟨(hd m).toArray⟩ : ByteArray) = t1 at *
  generalize putS m.sl = t2 at *
  clear hok lb hn ha ho hx hm
  go_enter Try.func49, Try.ntmps49
  go_upto_region 1 with fail
  generalize w.alloc (.cells m.cells 34) = V at *
  go_wp2_with (first | (refine wpList_loadM (b := w.heap.size) (m := m) rfl _ rfl rfl HF.out.m ?_))
  refine (P1.out _ HF.out.i).mono ?_
  rintro e V1 ⟨rfl, hb⟩
  have HF := Lib.hid (HF.out.call hb)
  clear hb P1
  have c24 := HF.out.m.cs.c24
  go_wp2_with fail
  refine (P2.out _ HF.out.i).mono ?_
  rintro e V2 ⟨rfl, hb⟩
  have HF := Lib.hid (HF.out.call hb)
  clear hb P2 c24
  go_wp2_with (first | (refine wpList_loadM (b := w.heap.size) (m := m) rfl _ rfl rfl HF.out.m ?_))
  refine (P3.out _ HF.out.i).mono ?_
  rintro e V3 ⟨rfl, hb⟩
  have HF := Lib.hid (HF.out.call hb)
  clear hb P3
  go_wp2
  go_ret2
  exact ⟨pair_eq (HE.out.trans HP.out.symm) HK.out.symm, HF.out.bel⟩
theorem build_three (c d : Int) (w : World) : (Instr.buildSlice 59 3 #[(0, .int .u8 c), (1, .int .u8 0), (2, .int .u8 d)]).run Try.prog w = .ok (.slice (some ⟨w.heap.size, 0, none⟩) 3 3) (w.alloc (.cells #[.int .u8 c, .int .u8 0, .int .u8 d] 5)) := by
  kernel_rfl
theorem ex_bs3 {o : Oper} {ρ : Operand → Value} {x y : Operand} {c d : Int} {w : World} (ho : o.op = .buildSlice 59 3 #[(0, x), (1, .const (.int .u8 0)), (2, y)]) (hx : ρ x = .int .u8 c) (h0 : ρ (.const (.int .u8 0)) = .int .u8 0) (h1 : ρ y = .int .u8 d) :
    (execOp ρ o).run Try.prog w = .ok (.value (.slice (some ⟨w.heap.size, 0, none⟩) 3 3)) (w.alloc (.cells #[.int .u8 c, .int .u8 0, .int .u8 d] 5)) := by
  have e : ((#[(0, x), (1, .const (.int .u8 0)), (2, y)] : Array (Nat × Operand)).map fun (i, x) => (i, ρ x)) = #[(0, .int .u8 c), (1, .int .u8 0), (2, .int .u8 d)] := by simp [hx, h0, h1]
  unfold execOp
  simp only [ho, Sem.run_bind, e, build_three, Result.andThen_ok, Sem.run_pure]
theorem conv_three (c d : UInt8) (w : World) (g : Nat) (hB : Bk.Bk 5 w g #[.int .u8 (c.toNat : Int), .int .u8 0, .int .u8 (d.toNat : Int)]) : (convert 59 9 (.slice (some ⟨g, 0, none⟩) 3 3)).run Try.prog w = .ok (.string ⟨#[c, 0, d]⟩) w := by
  refine run_convert_bytes_back _ 59 9 5 ⟨g, 0, none⟩ 3 [c, 0, d] Try.underlying59 Try.underlying5 Try.underlying9 fun j hj => ?_
  rw [Sx.add_at, Nat.zero_add]
  match j, hj with
  | 0, _ => exact hB.cell 0 _ rfl
  | 1, _ => exact hB.cell 1 _ rfl
  | 2, _ => exact hB.cell 2 _ rfl
theorem cat_b (a b c : ByteArray) (ha : a.size ≤ 1000000) (hb : b.size ≤ 1000000) (e : a ++ b = c) (W : World) : (Op.stringOp .add a b).run Try.prog W = .ok (.string c) W := by
  subst e
  exact run_string_add_sum W _ _ (by show _ ≤ _; omega)
theorem enc_parts (m : M) (hx : okX m.sl = true) : (⟨#[1]⟩ : ByteArray) ++ ⟨#[UInt8.ofNat (8 * m.flags.toNat), 0, UInt8.ofNat m.hops.toNat]⟩ ++ ⟨(layN m.nonce 4).toArray⟩ ++ m.addr ++ ⟨(layN m.seq 4).toArray⟩ ++ m.orig ++ ⟨(layN m.seq2 4).toArray⟩ ++ putS m.sl = ⟨(encQ m).toArray⟩ := by
  rw [Xp.putS_yes hx]
  refine text_eq ?_
  simp [encQ, hd, ByteArray.data_append]
set_option maxHeartbeats 12800000 in
theorem rput_any (m : M) (w : World) (hm : m.In w) (ln : m.sl.length ≤ 2000) (lb : ∀ x ∈ m.sl, x.1.size ≤ 1099511627776) :
    Calls Try.prog 30 #[.agg m.cells] w fun e w' => e = .returned (.tuple #[.string (putQ m), .bool (okQ m)]) ∧ Below w.heap.size w w' := by
  have HF := Lib.hid (Fs.new w m hm)
  have P1 := Lib.hid (fun V (h : m.In V) => rright_any m V h lb)
  have P2 := Lib.hid (fun V (h : m.In V) => Xq.rput_any m.sa m.sc m.sl V h.s ln lb)
  by_cases hok : okQ m = true
  rotate_left
  · have hok : okQ m = false := by simpa using hok
    have HP := Lib.hid (putQ_no hok)
    have HK := Lib.hid hok
    rw [hok] at P1
    clear hok lb P2 hm
    go_enter Try.func30, Try.ntmps30
    go_upto_region 1 with fail
    generalize w.alloc (.cells m.cells 34) = V at *
    go_wp2_with (first | (refine wpList_loadM (b := w.heap.size) (m := m) rfl _ rfl rfl HF.out.m ?_))
    refine (P1.out _ HF.out.i).mono ?_
    rintro e V1 ⟨rfl, hb⟩
    have HF := Lib.hid (HF.out.call hb)
    clear hb
    go_wp2
    go_ret2
    exact ⟨pair_eq HP.out.symm HK.out.symm, HF.out.bel⟩
  obtain ⟨_, _, hn, ha, ho, hx⟩ := (ok_iff m).1 hok
  obtain ⟨f0, f1, n1, n2, n3, n4⟩ := (nums_iff m).1 hn
  obtain ⟨h0, h1⟩ := fits_one n1
  have HP := Lib.hid (putQ_yes hok)
  have HK := Lib.hid hok
  have HE := Lib.hid (enc_parts m hx)
  have v1 := to8 (8 * m.flags) (by omega) (by omega)
  have v2 := to8 m.hops h0 (by omega)
  rw [show (8 * m.flags).toNat = 8 * m.flags.toNat by omega] at v1
  have HW8 : Hid (IntKind.i64.wrap (8 * m.flags) = 8 * m.flags) := Lib.hid (IntWalk.i64_in _ (by omega))
  have O1 := Lib.hid (fun V => of_any m.nonce 4 4 rfl (by omega) (by omega) V)
  have O2 := Lib.hid (fun V => of_any m.seq 4 4 rfl (by omega) (by omega) V)
  have O3 := Lib.hid (fun V => of_any m.seq2 4 4 rfl (by omega) (by omega) V)
  have z1 := lay_size m.nonce 4
  have z2 := lay_size m.seq 4
  have z3 := lay_size m.seq2 4
  have z4 : (putS m.sl).size ≤ 514000 := by
    rw [Xp.putS_yes hx]
    show (encX m.sl).length ≤ _
    rw [encX_len]
    have := bytes_most hx
    omega
  rw [hok] at P1
  rw [hx] at P2
  generalize (⟨(layN m.nonce 4).toArray⟩ : ByteArray) = t1 at *
  generalize (⟨(layN m.seq 4).toArray⟩ : ByteArray) = t2 at *
  generalize (⟨(layN m.seq2 4).toArray⟩ : ByteArray) = t3 at *
  generalize putS m.sl = t4 at *
  generalize UInt8.ofNat (8 * m.flags.toNat) = cf at *
  generalize UInt8.ofNat m.hops.toNat = ch at *
  generalize (⟨(encQ m).toArray⟩ : ByteArray) = R at *
  have cat0 := cat_b (⟨#[1]⟩ : ByteArray) (⟨#[cf, 0, ch]⟩ : ByteArray) _ (by decide) (by show 3 ≤ _; omega) rfl
  have cv := Lib.hid (conv_three cf ch)
  have y0 : ((⟨#[1]⟩ : ByteArray) ++ (⟨#[cf, 0, ch]⟩ : ByteArray)).size = 4 := rfl
  generalize (⟨#[1]⟩ : ByteArray) ++ (⟨#[cf, 0, ch]⟩ : ByteArray) = u0 at *
  generalize (⟨#[cf, 0, ch]⟩ : ByteArray) = t0 at *
  have cat1 := cat_b u0 t1 _ (by omega) (by omega) rfl
  have y1 : (u0 ++ t1).size ≤ 8 := by rw [ByteArray.size_append]; omega
  generalize u0 ++ t1 = u1 at *
  have cat2 := cat_b u1 m.addr _ (by omega) (by omega) rfl
  have y2 : (u1 ++ m.addr).size ≤ 12 := by rw [ByteArray.size_append]; omega
  generalize u1 ++ m.addr = u2 at *
  have cat3 := cat_b u2 t2 _ (by omega) (by omega) rfl
  have y3 : (u2 ++ t2).size ≤ 16 := by rw [ByteArray.size_append]; omega
  generalize u2 ++ t2 = u3 at *
  have cat4 := cat_b u3 m.orig _ (by omega) (by omega) rfl
  have y4 : (u3 ++ m.orig).size ≤ 20 := by rw [ByteArray.size_append]; omega
  generalize u3 ++ m.orig = u4 at *
  have cat5 := cat_b u4 t3 _ (by omega) (by omega) rfl
  have y5 : (u4 ++ t3).size ≤ 24 := by rw [ByteArray.size_append]; omega
  generalize u4 ++ t3 = u5 at *
  have cat6 := cat_b u5 t4 _ (by omega) (by omega) rfl
  have y6 : (u5 ++ t4).size ≤ 514024 := by rw [ByteArray.size_append]; omega
  generalize u5 ++ t4 = u6 at *
  have HE := Lib.hid HE.out
  clear hok lb hn ha ho hx hm n1 n2 n3 n4 h1 y0 y1 y2 y3 y4 y5 y6 z1 z2 z3 z4
  have hf : m.flags ≤ 31 := by assumption
  go_enter Try.func30, Try.ntmps30
  go_upto_region 1 with fail
  generalize w.alloc (.cells m.cells 34) = V at *
  go_wp2_with (first | (refine wpList_loadM (b := w.heap.size) (m := m) rfl _ rfl rfl HF.out.m ?_))
  refine (P1.out _ HF.out.i).mono ?_
  rintro e V1 ⟨rfl, hb⟩
  have HF := Lib.hid (HF.out.call hb)
  clear hb P1
  have c24 := HF.out.m.cs.c24
  go_wp2_with fail
  refine (P2.out _ HF.out.i).mono ?_
  rintro e V2 ⟨rfl, hb⟩
  have HF := Lib.hid (HF.out.call hb)
  clear hb P2 c24
  go_upto_region 4 with fail
  refine wp_region_held_drew (S := fun W => Fs w W w.heap.size m) (by kernel_rfl) HF.out.drew (fun hS => ?_)
  clear HF
  generalize V2.drew = X0 at *
  refine H.tk (i := 0) (v := ?v0x1) ?h0x1 hS ?_
  case h0x1 => (intro w hw; go_simp; first | done | (with_reducible rfl))
  try simp only [Act.put, List.setIfInBounds_toArray, List.set_cons_zero, List.set_cons_succ]
  refine H.tk (i := 1) (v := ?v1x2) ?h1x2 hS ?_
  case h1x2 => (intro w hw; have c := (hw.m).cs.c15; go_simp; first | done | (with_reducible rfl))
  try simp only [Act.put, List.setIfInBounds_toArray, List.set_cons_zero, List.set_cons_succ]
  refine H.tk (i := 2) (v := .int .i64 (8 * m.flags)) ?h2x3 hS ?_
  case h2x3 => exact (fun w hw => by go_simp; rw [HW8.out])
  try simp only [Act.put, List.setIfInBounds_toArray, List.set_cons_zero, List.set_cons_succ]
  refine H.tk (i := 3) (v := ?v3x4) ?h3x4 hS ?_
  case h3x4 => (intro w hw; go_simp; first | done | (with_reducible rfl))
  try simp only [Act.put, List.setIfInBounds_toArray, List.set_cons_zero, List.set_cons_succ]
  refine H.tk (i := 4) (v := ?v4x5) ?h4x5 hS ?_
  case h4x5 => (intro w hw; go_simp; first | done | (with_reducible rfl))
  try simp only [Act.put, List.setIfInBounds_toArray, List.set_cons_zero, List.set_cons_succ]
  refine H.tk (i := 5) (v := ?v5x6) ?h5x6 hS ?_
  case h5x6 => (intro w hw; have c := (hw.m).cs.c16; go_simp; first | done | (with_reducible rfl))
  try simp only [Act.put, List.setIfInBounds_toArray, List.set_cons_zero, List.set_cons_succ]
  refine H.tk (i := 6) (v := ?v6x7) ?h6x7 hS ?_
  case h6x7 => (intro w hw; go_simp; first | done | (with_reducible rfl))
  try simp only [Act.put, List.setIfInBounds_toArray, List.set_cons_zero, List.set_cons_succ]
  refine H.tk (i := 10) (v := ?v10x8) ?h10x8 hS ?_
  case h10x8 => (intro w hw; go_simp; first | done | (with_reducible rfl))
  try simp only [Act.put, List.setIfInBounds_toArray, List.set_cons_zero, List.set_cons_succ]
  refine H.tk (i := 11) (v := ?v11x9) ?h11x9 hS ?_
  case h11x9 => (intro w hw; have c := (hw.m).cs.c17; go_simp; first | done | (with_reducible rfl))
  try simp only [Act.put, List.setIfInBounds_toArray, List.set_cons_zero, List.set_cons_succ]
  refine H.tk (i := 14) (v := ?v14x10) ?h14x10 hS ?_
  case h14x10 => (intro w hw; go_simp; first | done | (with_reducible rfl))
  try simp only [Act.put, List.setIfInBounds_toArray, List.set_cons_zero, List.set_cons_succ]
  refine H.tk (i := 15) (v := ?v15x11) ?h15x11 hS ?_
  case h15x11 => (intro w hw; have c := (hw.m).cs.c19; go_simp; first | done | (with_reducible rfl))
  try simp only [Act.put, List.setIfInBounds_toArray, List.set_cons_zero, List.set_cons_succ]
  refine H.tk (i := 17) (v := ?v17x12) ?h17x12 hS ?_
  case h17x12 => (intro w hw; go_simp; first | done | (with_reducible rfl))
  try simp only [Act.put, List.setIfInBounds_toArray, List.set_cons_zero, List.set_cons_succ]
  refine H.tk (i := 18) (v := ?v18x13) ?h18x13 hS ?_
  case h18x13 => (intro w hw; have c := (hw.m).cs.c12; go_simp; first | done | (with_reducible rfl))
  try simp only [Act.put, List.setIfInBounds_toArray, List.set_cons_zero, List.set_cons_succ]
  refine H.tk (i := 21) (v := ?v21x14) ?h21x14 hS ?_
  case h21x14 => (intro w hw; go_simp; first | done | (with_reducible rfl))
  try simp only [Act.put, List.setIfInBounds_toArray, List.set_cons_zero, List.set_cons_succ]
  refine H.tk (i := 22) (v := ?v22x15) ?h22x15 hS ?_
  case h22x15 => (intro w hw; have c := (hw.m).cs.c20; go_simp; first | done | (with_reducible rfl))
  try simp only [Act.put, List.setIfInBounds_toArray, List.set_cons_zero, List.set_cons_succ]
  refine H.tk (i := 24) (v := ?v24x16) ?h24x16 hS ?_
  case h24x16 => (intro w hw; go_simp; first | done | (with_reducible rfl))
  try simp only [Act.put, List.setIfInBounds_toArray, List.set_cons_zero, List.set_cons_succ]
  refine H.tk (i := 25) (v := ?v25x17) ?h25x17 hS ?_
  case h25x17 => (intro w hw; have c := (hw.m).cs.c13; go_simp; first | done | (with_reducible rfl))
  try simp only [Act.put, List.setIfInBounds_toArray, List.set_cons_zero, List.set_cons_succ]
  refine H.tk (i := 28) (v := ?v28x18) ?h28x18 hS ?_
  case h28x18 => (intro w hw; go_simp; first | done | (with_reducible rfl))
  try simp only [Act.put, List.setIfInBounds_toArray, List.set_cons_zero, List.set_cons_succ]
  refine H.two (i := 7) (j := 12) (by simp only [List.getElem?_toArray, List.getElem?_cons_succ, List.getElem?_cons_zero]; rfl) (by kernel_rfl) (by simp only [List.getElem?_toArray, List.getElem?_cons_succ, List.getElem?_cons_zero]; rfl) (by kernel_rfl) (by kernel_rfl) (fun K hK => ?wa19) (fun K hK => ?wb19)
  case wa19 =>
    refine wp_valW rfl (ex_bs3 (c := (cf.toNat : Int)) (d := (ch.toNat : Int)) rfl rfl rfl rfl) ?_
    have hS' := hS.call (balloc (Below.refl _ X0) (.cells #[.int .u8 (cf.toNat : Int), .int .u8 0, .int .u8 (ch.toNat : Int)] 5))
    refine hK.out _ _ hS' ?_
    have HB := Lib.hid (Bk.Bk.new 5 X0 #[.int .u8 (cf.toNat : Int), .int .u8 0, .int .u8 (ch.toNat : Int)])
    clear hK K hS
    have hS := hS'
    clear hS'
    generalize X0.alloc (.cells #[.int .u8 (cf.toNat : Int), .int .u8 0, .int .u8 (ch.toNat : Int)] 5) = X1 at *
    generalize X0.heap.size = g7 at *
    try simp only [Act.put, List.setIfInBounds_toArray, List.set_cons_zero, List.set_cons_succ]
    refine H.two (i := 8) (j := 12) (by simp only [List.getElem?_toArray, List.getElem?_cons_succ, List.getElem?_cons_zero]; rfl) (by kernel_rfl) (by simp only [List.getElem?_toArray, List.getElem?_cons_succ, List.getElem?_cons_zero]; rfl) (by kernel_rfl) (by kernel_rfl) (fun K hK => ?wa20) (fun K hK => ?wb20)
    case wa20 =>
      refine wp_valW rfl (Xq.ex_conv (x := .tmp 22) (v := .slice (some ⟨g7, 0, none⟩) 3 3) rfl rfl (cv.out _ _ HB.out)) ?_
      refine hK.out _ _ hS ?_
      clear hK K
      try simp only [Act.put, List.setIfInBounds_toArray, List.set_cons_zero, List.set_cons_succ]
      refine H.tk (i := 9) (v := ?v9x21) ?h9x21 hS ?_
      case h9x21 => (intro w hw; go_simp; first | done | (with_reducible rfl))
      try simp only [Act.put, List.setIfInBounds_toArray, List.set_cons_zero, List.set_cons_succ]
      refine H.one (i := 12) (by simp only [List.getElem?_toArray, List.getElem?_cons_succ, List.getElem?_cons_zero]; rfl) (by kernel_rfl) (by kernel_rfl) (fun K hK => ?_)
      go_simp
      refine (O1.out _).mono ?_
      rintro e X2 ⟨rfl, hb⟩
      have hS' := hS.call hb
      have HB := Lib.hid (HB.out.below hb)
      refine hK.out _ _ hS' ?_
      clear hK K hb hS
      have hS := hS'
      clear hS'
      try simp only [Act.put, List.setIfInBounds_toArray, List.set_cons_zero, List.set_cons_succ]
      refine H.tk (i := 13) (v := ?v13x22) ?h13x22 hS ?_
      case h13x22 => (intro w hw; go_simp; first | done | (with_reducible rfl))
      try simp only [Act.put, List.setIfInBounds_toArray, List.set_cons_zero, List.set_cons_succ]
      refine H.tk (i := 16) (v := ?v16x23) ?h16x23 hS ?_
      case h16x23 => (intro w hw; go_simp; first | done | (with_reducible rfl))
      try simp only [Act.put, List.setIfInBounds_toArray, List.set_cons_zero, List.set_cons_succ]
      refine H.one (i := 19) (by simp only [List.getElem?_toArray, List.getElem?_cons_succ, List.getElem?_cons_zero]; rfl) (by kernel_rfl) (by kernel_rfl) (fun K hK => ?_)
      go_simp
      refine (O2.out _).mono ?_
      rintro e X3 ⟨rfl, hb⟩
      have hS' := hS.call hb
      have HB := Lib.hid (HB.out.below hb)
      refine hK.out _ _ hS' ?_
      clear hK K hb hS
      have hS := hS'
      clear hS'
      try simp only [Act.put, List.setIfInBounds_toArray, List.set_cons_zero, List.set_cons_succ]
      refine H.tk (i := 20) (v := ?v20x24) ?h20x24 hS ?_
      case h20x24 => (intro w hw; go_simp; first | done | (with_reducible rfl))
      try simp only [Act.put, List.setIfInBounds_toArray, List.set_cons_zero, List.set_cons_succ]
      refine H.tk (i := 23) (v := ?v23x25) ?h23x25 hS ?_
      case h23x25 => (intro w hw; go_simp; first | done | (with_reducible rfl))
      try simp only [Act.put, List.setIfInBounds_toArray, List.set_cons_zero, List.set_cons_succ]
      refine H.one (i := 26) (by simp only [List.getElem?_toArray, List.getElem?_cons_succ, List.getElem?_cons_zero]; rfl) (by kernel_rfl) (by kernel_rfl) (fun K hK => ?_)
      go_simp
      refine (O3.out _).mono ?_
      rintro e X4 ⟨rfl, hb⟩
      have hS' := hS.call hb
      have HB := Lib.hid (HB.out.below hb)
      refine hK.out _ _ hS' ?_
      clear hK K hb hS
      have hS := hS'
      clear hS'
      try simp only [Act.put, List.setIfInBounds_toArray, List.set_cons_zero, List.set_cons_succ]
      refine H.tk (i := 27) (v := ?v27x26) ?h27x26 hS ?_
      case h27x26 => (intro w hw; go_simp; first | done | (with_reducible rfl))
      try simp only [Act.put, List.setIfInBounds_toArray, List.set_cons_zero, List.set_cons_succ]
      refine H.tk (i := 29) (v := ?v29x27) ?h29x27 hS ?_
      case h29x27 => (intro w hw; go_simp; first | done | (with_reducible rfl))
      try simp only [Act.put, List.setIfInBounds_toArray, List.set_cons_zero, List.set_cons_succ]
      refine H.tk (i := 30) (v := ?v30x28) ?h30x28 hS ?_
      case h30x28 => (intro w hw; go_simp; first | done | (with_reducible rfl))
      try simp only [Act.put, List.setIfInBounds_toArray, List.set_cons_zero, List.set_cons_succ]
      refine H.tk (i := 31) (v := (Value.bool true)) (fun w _ => rfl) hS ?_
      try simp only [Act.put, List.setIfInBounds_toArray, List.set_cons_zero, List.set_cons_succ]
      refine wpAnyH_done (by kernel_rfl) ?_ _
      go_wp2
      go_ret2
      exact ⟨pair_eq (HE.out.trans HP.out.symm) HK.out.symm, hS.bel⟩
    case wb20 =>
      go_simp
      refine (O1.out _).mono ?_
      rintro e X2 ⟨rfl, hb⟩
      have hS' := hS.call hb
      have HB := Lib.hid (HB.out.below hb)
      refine hK.out _ _ hS' ?_
      clear hK K hb hS
      have hS := hS'
      clear hS'
      try simp only [Act.put, List.setIfInBounds_toArray, List.set_cons_zero, List.set_cons_succ]
      refine H.two (i := 8) (j := 19) (by simp only [List.getElem?_toArray, List.getElem?_cons_succ, List.getElem?_cons_zero]; rfl) (by kernel_rfl) (by simp only [List.getElem?_toArray, List.getElem?_cons_succ, List.getElem?_cons_zero]; rfl) (by kernel_rfl) (by kernel_rfl) (fun K hK => ?wa30) (fun K hK => ?wb30)
      case wa30 =>
        refine wp_valW rfl (Xq.ex_conv (x := .tmp 22) (v := .slice (some ⟨g7, 0, none⟩) 3 3) rfl rfl (cv.out _ _ HB.out)) ?_
        refine hK.out _ _ hS ?_
        clear hK K
        try simp only [Act.put, List.setIfInBounds_toArray, List.set_cons_zero, List.set_cons_succ]
        refine H.tk (i := 9) (v := ?v9x31) ?h9x31 hS ?_
        case h9x31 => (intro w hw; go_simp; first | done | (with_reducible rfl))
        try simp only [Act.put, List.setIfInBounds_toArray, List.set_cons_zero, List.set_cons_succ]
        refine H.tk (i := 13) (v := ?v13x32) ?h13x32 hS ?_
        case h13x32 => (intro w hw; go_simp; first | done | (with_reducible rfl))
        try simp only [Act.put, List.setIfInBounds_toArray, List.set_cons_zero, List.set_cons_succ]
        refine H.tk (i := 16) (v := ?v16x33) ?h16x33 hS ?_
        case h16x33 => (intro w hw; go_simp; first | done | (with_reducible rfl))
        try simp only [Act.put, List.setIfInBounds_toArray, List.set_cons_zero, List.set_cons_succ]
        refine H.one (i := 19) (by simp only [List.getElem?_toArray, List.getElem?_cons_succ, List.getElem?_cons_zero]; rfl) (by kernel_rfl) (by kernel_rfl) (fun K hK => ?_)
        go_simp
        refine (O2.out _).mono ?_
        rintro e X3 ⟨rfl, hb⟩
        have hS' := hS.call hb
        have HB := Lib.hid (HB.out.below hb)
        refine hK.out _ _ hS' ?_
        clear hK K hb hS
        have hS := hS'
        clear hS'
        try simp only [Act.put, List.setIfInBounds_toArray, List.set_cons_zero, List.set_cons_succ]
        refine H.tk (i := 20) (v := ?v20x34) ?h20x34 hS ?_
        case h20x34 => (intro w hw; go_simp; first | done | (with_reducible rfl))
        try simp only [Act.put, List.setIfInBounds_toArray, List.set_cons_zero, List.set_cons_succ]
        refine H.tk (i := 23) (v := ?v23x35) ?h23x35 hS ?_
        case h23x35 => (intro w hw; go_simp; first | done | (with_reducible rfl))
        try simp only [Act.put, List.setIfInBounds_toArray, List.set_cons_zero, List.set_cons_succ]
        refine H.one (i := 26) (by simp only [List.getElem?_toArray, List.getElem?_cons_succ, List.getElem?_cons_zero]; rfl) (by kernel_rfl) (by kernel_rfl) (fun K hK => ?_)
        go_simp
        refine (O3.out _).mono ?_
        rintro e X4 ⟨rfl, hb⟩
        have hS' := hS.call hb
        have HB := Lib.hid (HB.out.below hb)
        refine hK.out _ _ hS' ?_
        clear hK K hb hS
        have hS := hS'
        clear hS'
        try simp only [Act.put, List.setIfInBounds_toArray, List.set_cons_zero, List.set_cons_succ]
        refine H.tk (i := 27) (v := ?v27x36) ?h27x36 hS ?_
        case h27x36 => (intro w hw; go_simp; first | done | (with_reducible rfl))
        try simp only [Act.put, List.setIfInBounds_toArray, List.set_cons_zero, List.set_cons_succ]
        refine H.tk (i := 29) (v := ?v29x37) ?h29x37 hS ?_
        case h29x37 => (intro w hw; go_simp; first | done | (with_reducible rfl))
        try simp only [Act.put, List.setIfInBounds_toArray, List.set_cons_zero, List.set_cons_succ]
        refine H.tk (i := 30) (v := ?v30x38) ?h30x38 hS ?_
        case h30x38 => (intro w hw; go_simp; first | done | (with_reducible rfl))
        try simp only [Act.put, List.setIfInBounds_toArray, List.set_cons_zero, List.set_cons_succ]
        refine H.tk (i := 31) (v := (Value.bool true)) (fun w _ => rfl) hS ?_
        try simp only [Act.put, List.setIfInBounds_toArray, List.set_cons_zero, List.set_cons_succ]
        refine wpAnyH_done (by kernel_rfl) ?_ _
        go_wp2
        go_ret2
        exact ⟨pair_eq (HE.out.trans HP.out.symm) HK.out.symm, hS.bel⟩
      case wb30 =>
        go_simp
        refine (O2.out _).mono ?_
        rintro e X3 ⟨rfl, hb⟩
        have hS' := hS.call hb
        have HB := Lib.hid (HB.out.below hb)
        refine hK.out _ _ hS' ?_
        clear hK K hb hS
        have hS := hS'
        clear hS'
        try simp only [Act.put, List.setIfInBounds_toArray, List.set_cons_zero, List.set_cons_succ]
        refine H.two (i := 8) (j := 26) (by simp only [List.getElem?_toArray, List.getElem?_cons_succ, List.getElem?_cons_zero]; rfl) (by kernel_rfl) (by simp only [List.getElem?_toArray, List.getElem?_cons_succ, List.getElem?_cons_zero]; rfl) (by kernel_rfl) (by kernel_rfl) (fun K hK => ?wa40) (fun K hK => ?wb40)
        case wa40 =>
          refine wp_valW rfl (Xq.ex_conv (x := .tmp 22) (v := .slice (some ⟨g7, 0, none⟩) 3 3) rfl rfl (cv.out _ _ HB.out)) ?_
          refine hK.out _ _ hS ?_
          clear hK K
          try simp only [Act.put, List.setIfInBounds_toArray, List.set_cons_zero, List.set_cons_succ]
          refine H.tk (i := 9) (v := ?v9x41) ?h9x41 hS ?_
          case h9x41 => (intro w hw; go_simp; first | done | (with_reducible rfl))
          try simp only [Act.put, List.setIfInBounds_toArray, List.set_cons_zero, List.set_cons_succ]
          refine H.tk (i := 13) (v := ?v13x42) ?h13x42 hS ?_
          case h13x42 => (intro w hw; go_simp; first | done | (with_reducible rfl))
          try simp only [Act.put, List.setIfInBounds_toArray, List.set_cons_zero, List.set_cons_succ]
          refine H.tk (i := 16) (v := ?v16x43) ?h16x43 hS ?_
          case h16x43 => (intro w hw; go_simp; first | done | (with_reducible rfl))
          try simp only [Act.put, List.setIfInBounds_toArray, List.set_cons_zero, List.set_cons_succ]
          refine H.tk (i := 20) (v := ?v20x44) ?h20x44 hS ?_
          case h20x44 => (intro w hw; go_simp; first | done | (with_reducible rfl))
          try simp only [Act.put, List.setIfInBounds_toArray, List.set_cons_zero, List.set_cons_succ]
          refine H.tk (i := 23) (v := ?v23x45) ?h23x45 hS ?_
          case h23x45 => (intro w hw; go_simp; first | done | (with_reducible rfl))
          try simp only [Act.put, List.setIfInBounds_toArray, List.set_cons_zero, List.set_cons_succ]
          refine H.one (i := 26) (by simp only [List.getElem?_toArray, List.getElem?_cons_succ, List.getElem?_cons_zero]; rfl) (by kernel_rfl) (by kernel_rfl) (fun K hK => ?_)
          go_simp
          refine (O3.out _).mono ?_
          rintro e X4 ⟨rfl, hb⟩
          have hS' := hS.call hb
          have HB := Lib.hid (HB.out.below hb)
          refine hK.out _ _ hS' ?_
          clear hK K hb hS
          have hS := hS'
          clear hS'
          try simp only [Act.put, List.setIfInBounds_toArray, List.set_cons_zero, List.set_cons_succ]
          refine H.tk (i := 27) (v := ?v27x46) ?h27x46 hS ?_
          case h27x46 => (intro w hw; go_simp; first | done | (with_reducible rfl))
          try simp only [Act.put, List.setIfInBounds_toArray, List.set_cons_zero, List.set_cons_succ]
          refine H.tk (i := 29) (v := ?v29x47) ?h29x47 hS ?_
          case h29x47 => (intro w hw; go_simp; first | done | (with_reducible rfl))
          try simp only [Act.put, List.setIfInBounds_toArray, List.set_cons_zero, List.set_cons_succ]
          refine H.tk (i := 30) (v := ?v30x48) ?h30x48 hS ?_
          case h30x48 => (intro w hw; go_simp; first | done | (with_reducible rfl))
          try simp only [Act.put, List.setIfInBounds_toArray, List.set_cons_zero, List.set_cons_succ]
          refine H.tk (i := 31) (v := (Value.bool true)) (fun w _ => rfl) hS ?_
          try simp only [Act.put, List.setIfInBounds_toArray, List.set_cons_zero, List.set_cons_succ]
          refine wpAnyH_done (by kernel_rfl) ?_ _
          go_wp2
          go_ret2
          exact ⟨pair_eq (HE.out.trans HP.out.symm) HK.out.symm, hS.bel⟩
        case wb40 =>
          go_simp
          refine (O3.out _).mono ?_
          rintro e X4 ⟨rfl, hb⟩
          have hS' := hS.call hb
          have HB := Lib.hid (HB.out.below hb)
          refine hK.out _ _ hS' ?_
          clear hK K hb hS
          have hS := hS'
          clear hS'
          try simp only [Act.put, List.setIfInBounds_toArray, List.set_cons_zero, List.set_cons_succ]
          refine H.one (i := 8) (by simp only [List.getElem?_toArray, List.getElem?_cons_succ, List.getElem?_cons_zero]; rfl) (by kernel_rfl) (by kernel_rfl) (fun K hK => ?_)
          refine wp_valW rfl (Xq.ex_conv (x := .tmp 22) (v := .slice (some ⟨g7, 0, none⟩) 3 3) rfl rfl (cv.out _ _ HB.out)) ?_
          refine hK.out _ _ hS ?_
          clear hK K
          try simp only [Act.put, List.setIfInBounds_toArray, List.set_cons_zero, List.set_cons_succ]
          refine H.tk (i := 9) (v := ?v9x50) ?h9x50 hS ?_
          case h9x50 => (intro w hw; go_simp; first | done | (with_reducible rfl))
          try simp only [Act.put, List.setIfInBounds_toArray, List.set_cons_zero, List.set_cons_succ]
          refine H.tk (i := 13) (v := ?v13x51) ?h13x51 hS ?_
          case h13x51 => (intro w hw; go_simp; first | done | (with_reducible rfl))
          try simp only [Act.put, List.setIfInBounds_toArray, List.set_cons_zero, List.set_cons_succ]
          refine H.tk (i := 16) (v := ?v16x52) ?h16x52 hS ?_
          case h16x52 => (intro w hw; go_simp; first | done | (with_reducible rfl))
          try simp only [Act.put, List.setIfInBounds_toArray, List.set_cons_zero, List.set_cons_succ]
          refine H.tk (i := 20) (v := ?v20x53) ?h20x53 hS ?_
          case h20x53 => (intro w hw; go_simp; first | done | (with_reducible rfl))
          try simp only [Act.put, List.setIfInBounds_toArray, List.set_cons_zero, List.set_cons_succ]
          refine H.tk (i := 23) (v := ?v23x54) ?h23x54 hS ?_
          case h23x54 => (intro w hw; go_simp; first | done | (with_reducible rfl))
          try simp only [Act.put, List.setIfInBounds_toArray, List.set_cons_zero, List.set_cons_succ]
          refine H.tk (i := 27) (v := ?v27x55) ?h27x55 hS ?_
          case h27x55 => (intro w hw; go_simp; first | done | (with_reducible rfl))
          try simp only [Act.put, List.setIfInBounds_toArray, List.set_cons_zero, List.set_cons_succ]
          refine H.tk (i := 29) (v := ?v29x56) ?h29x56 hS ?_
          case h29x56 => (intro w hw; go_simp; first | done | (with_reducible rfl))
          try simp only [Act.put, List.setIfInBounds_toArray, List.set_cons_zero, List.set_cons_succ]
          refine H.tk (i := 30) (v := ?v30x57) ?h30x57 hS ?_
          case h30x57 => (intro w hw; go_simp; first | done | (with_reducible rfl))
          try simp only [Act.put, List.setIfInBounds_toArray, List.set_cons_zero, List.set_cons_succ]
          refine H.tk (i := 31) (v := (Value.bool true)) (fun w _ => rfl) hS ?_
          try simp only [Act.put, List.setIfInBounds_toArray, List.set_cons_zero, List.set_cons_succ]
          refine wpAnyH_done (by kernel_rfl) ?_ _
          go_wp2
          go_ret2
          exact ⟨pair_eq (HE.out.trans HP.out.symm) HK.out.symm, hS.bel⟩
  case wb19 =>
    go_simp
    refine (O1.out _).mono ?_
    rintro e X1 ⟨rfl, hb⟩
    have hS' := hS.call hb
    refine hK.out _ _ hS' ?_
    clear hK K hb hS
    have hS := hS'
    clear hS'
    try simp only [Act.put, List.setIfInBounds_toArray, List.set_cons_zero, List.set_cons_succ]
    refine H.two (i := 7) (j := 19) (by simp only [List.getElem?_toArray, List.getElem?_cons_succ, List.getElem?_cons_zero]; rfl) (by kernel_rfl) (by simp only [List.getElem?_toArray, List.getElem?_cons_succ, List.getElem?_cons_zero]; rfl) (by kernel_rfl) (by kernel_rfl) (fun K hK => ?wa59) (fun K hK => ?wb59)
    case wa59 =>
      refine wp_valW rfl (ex_bs3 (c := (cf.toNat : Int)) (d := (ch.toNat : Int)) rfl rfl rfl rfl) ?_
      have hS' := hS.call (balloc (Below.refl _ X1) (.cells #[.int .u8 (cf.toNat : Int), .int .u8 0, .int .u8 (ch.toNat : Int)] 5))
      refine hK.out _ _ hS' ?_
      have HB := Lib.hid (Bk.Bk.new 5 X1 #[.int .u8 (cf.toNat : Int), .int .u8 0, .int .u8 (ch.toNat : Int)])
      clear hK K hS
      have hS := hS'
      clear hS'
      generalize X1.alloc (.cells #[.int .u8 (cf.toNat : Int), .int .u8 0, .int .u8 (ch.toNat : Int)] 5) = X2 at *
      generalize X1.heap.size = g7 at *
      try simp only [Act.put, List.setIfInBounds_toArray, List.set_cons_zero, List.set_cons_succ]
      refine H.two (i := 8) (j := 19) (by simp only [List.getElem?_toArray, List.getElem?_cons_succ, List.getElem?_cons_zero]; rfl) (by kernel_rfl) (by simp only [List.getElem?_toArray, List.getElem?_cons_succ, List.getElem?_cons_zero]; rfl) (by kernel_rfl) (by kernel_rfl) (fun K hK => ?wa60) (fun K hK => ?wb60)
      case wa60 =>
        refine wp_valW rfl (Xq.ex_conv (x := .tmp 22) (v := .slice (some ⟨g7, 0, none⟩) 3 3) rfl rfl (cv.out _ _ HB.out)) ?_
        refine hK.out _ _ hS ?_
        clear hK K
        try simp only [Act.put, List.setIfInBounds_toArray, List.set_cons_zero, List.set_cons_succ]
        refine H.tk (i := 9) (v := ?v9x61) ?h9x61 hS ?_
        case h9x61 => (intro w hw; go_simp; first | done | (with_reducible rfl))
        try simp only [Act.put, List.setIfInBounds_toArray, List.set_cons_zero, List.set_cons_succ]
        refine H.tk (i := 13) (v := ?v13x62) ?h13x62 hS ?_
        case h13x62 => (intro w hw; go_simp; first | done | (with_reducible rfl))
        try simp only [Act.put, List.setIfInBounds_toArray, List.set_cons_zero, List.set_cons_succ]
        refine H.tk (i := 16) (v := ?v16x63) ?h16x63 hS ?_
        case h16x63 => (intro w hw; go_simp; first | done | (with_reducible rfl))
        try simp only [Act.put, List.setIfInBounds_toArray, List.set_cons_zero, List.set_cons_succ]
        refine H.one (i := 19) (by simp only [List.getElem?_toArray, List.getElem?_cons_succ, List.getElem?_cons_zero]; rfl) (by kernel_rfl) (by kernel_rfl) (fun K hK => ?_)
        go_simp
        refine (O2.out _).mono ?_
        rintro e X3 ⟨rfl, hb⟩
        have hS' := hS.call hb
        have HB := Lib.hid (HB.out.below hb)
        refine hK.out _ _ hS' ?_
        clear hK K hb hS
        have hS := hS'
        clear hS'
        try simp only [Act.put, List.setIfInBounds_toArray, List.set_cons_zero, List.set_cons_succ]
        refine H.tk (i := 20) (v := ?v20x64) ?h20x64 hS ?_
        case h20x64 => (intro w hw; go_simp; first | done | (with_reducible rfl))
        try simp only [Act.put, List.setIfInBounds_toArray, List.set_cons_zero, List.set_cons_succ]
        refine H.tk (i := 23) (v := ?v23x65) ?h23x65 hS ?_
        case h23x65 => (intro w hw; go_simp; first | done | (with_reducible rfl))
        try simp only [Act.put, List.setIfInBounds_toArray, List.set_cons_zero, List.set_cons_succ]
        refine H.one (i := 26) (by simp only [List.getElem?_toArray, List.getElem?_cons_succ, List.getElem?_cons_zero]; rfl) (by kernel_rfl) (by kernel_rfl) (fun K hK => ?_)
        go_simp
        refine (O3.out _).mono ?_
        rintro e X4 ⟨rfl, hb⟩
        have hS' := hS.call hb
        have HB := Lib.hid (HB.out.below hb)
        refine hK.out _ _ hS' ?_
        clear hK K hb hS
        have hS := hS'
        clear hS'
        try simp only [Act.put, List.setIfInBounds_toArray, List.set_cons_zero, List.set_cons_succ]
        refine H.tk (i := 27) (v := ?v27x66) ?h27x66 hS ?_
        case h27x66 => (intro w hw; go_simp; first | done | (with_reducible rfl))
        try simp only [Act.put, List.setIfInBounds_toArray, List.set_cons_zero, List.set_cons_succ]
        refine H.tk (i := 29) (v := ?v29x67) ?h29x67 hS ?_
        case h29x67 => (intro w hw; go_simp; first | done | (with_reducible rfl))
        try simp only [Act.put, List.setIfInBounds_toArray, List.set_cons_zero, List.set_cons_succ]
        refine H.tk (i := 30) (v := ?v30x68) ?h30x68 hS ?_
        case h30x68 => (intro w hw; go_simp; first | done | (with_reducible rfl))
        try simp only [Act.put, List.setIfInBounds_toArray, List.set_cons_zero, List.set_cons_succ]
        refine H.tk (i := 31) (v := (Value.bool true)) (fun w _ => rfl) hS ?_
        try simp only [Act.put, List.setIfInBounds_toArray, List.set_cons_zero, List.set_cons_succ]
        refine wpAnyH_done (by kernel_rfl) ?_ _
        go_wp2
        go_ret2
        exact ⟨pair_eq (HE.out.trans HP.out.symm) HK.out.symm, hS.bel⟩
      case wb60 =>
        go_simp
        refine (O2.out _).mono ?_
        rintro e X3 ⟨rfl, hb⟩
        have hS' := hS.call hb
        have HB := Lib.hid (HB.out.below hb)
        refine hK.out _ _ hS' ?_
        clear hK K hb hS
        have hS := hS'
        clear hS'
        try simp only [Act.put, List.setIfInBounds_toArray, List.set_cons_zero, List.set_cons_succ]
        refine H.two (i := 8) (j := 26) (by simp only [List.getElem?_toArray, List.getElem?_cons_succ, List.getElem?_cons_zero]; rfl) (by kernel_rfl) (by simp only [List.getElem?_toArray, List.getElem?_cons_succ, List.getElem?_cons_zero]; rfl) (by kernel_rfl) (by kernel_rfl) (fun K hK => ?wa70) (fun K hK => ?wb70)
        case wa70 =>
          refine wp_valW rfl (Xq.ex_conv (x := .tmp 22) (v := .slice (some ⟨g7, 0, none⟩) 3 3) rfl rfl (cv.out _ _ HB.out)) ?_
          refine hK.out _ _ hS ?_
          clear hK K
          try simp only [Act.put, List.setIfInBounds_toArray, List.set_cons_zero, List.set_cons_succ]
          refine H.tk (i := 9) (v := ?v9x71) ?h9x71 hS ?_
          case h9x71 => (intro w hw; go_simp; first | done | (with_reducible rfl))
          try simp only [Act.put, List.setIfInBounds_toArray, List.set_cons_zero, List.set_cons_succ]
          refine H.tk (i := 13) (v := ?v13x72) ?h13x72 hS ?_
          case h13x72 => (intro w hw; go_simp; first | done | (with_reducible rfl))
          try simp only [Act.put, List.setIfInBounds_toArray, List.set_cons_zero, List.set_cons_succ]
          refine H.tk (i := 16) (v := ?v16x73) ?h16x73 hS ?_
          case h16x73 => (intro w hw; go_simp; first | done | (with_reducible rfl))
          try simp only [Act.put, List.setIfInBounds_toArray, List.set_cons_zero, List.set_cons_succ]
          refine H.tk (i := 20) (v := ?v20x74) ?h20x74 hS ?_
          case h20x74 => (intro w hw; go_simp; first | done | (with_reducible rfl))
          try simp only [Act.put, List.setIfInBounds_toArray, List.set_cons_zero, List.set_cons_succ]
          refine H.tk (i := 23) (v := ?v23x75) ?h23x75 hS ?_
          case h23x75 => (intro w hw; go_simp; first | done | (with_reducible rfl))
          try simp only [Act.put, List.setIfInBounds_toArray, List.set_cons_zero, List.set_cons_succ]
          refine H.one (i := 26) (by simp only [List.getElem?_toArray, List.getElem?_cons_succ, List.getElem?_cons_zero]; rfl) (by kernel_rfl) (by kernel_rfl) (fun K hK => ?_)
          go_simp
          refine (O3.out _).mono ?_
          rintro e X4 ⟨rfl, hb⟩
          have hS' := hS.call hb
          have HB := Lib.hid (HB.out.below hb)
          refine hK.out _ _ hS' ?_
          clear hK K hb hS
          have hS := hS'
          clear hS'
          try simp only [Act.put, List.setIfInBounds_toArray, List.set_cons_zero, List.set_cons_succ]
          refine H.tk (i := 27) (v := ?v27x76) ?h27x76 hS ?_
          case h27x76 => (intro w hw; go_simp; first | done | (with_reducible rfl))
          try simp only [Act.put, List.setIfInBounds_toArray, List.set_cons_zero, List.set_cons_succ]
          refine H.tk (i := 29) (v := ?v29x77) ?h29x77 hS ?_
          case h29x77 => (intro w hw; go_simp; first | done | (with_reducible rfl))
          try simp only [Act.put, List.setIfInBounds_toArray, List.set_cons_zero, List.set_cons_succ]
          refine H.tk (i := 30) (v := ?v30x78) ?h30x78 hS ?_
          case h30x78 => (intro w hw; go_simp; first | done | (with_reducible rfl))
          try simp only [Act.put, List.setIfInBounds_toArray, List.set_cons_zero, List.set_cons_succ]
          refine H.tk (i := 31) (v := (Value.bool true)) (fun w _ => rfl) hS ?_
          try simp only [Act.put, List.setIfInBounds_toArray, List.set_cons_zero, List.set_cons_succ]
          refine wpAnyH_done (by kernel_rfl) ?_ _
          go_wp2
          go_ret2
          exact ⟨pair_eq (HE.out.trans HP.out.symm) HK.out.symm, hS.bel⟩
        case wb70 =>
          go_simp
          refine (O3.out _).mono ?_
          rintro e X4 ⟨rfl, hb⟩
          have hS' := hS.call hb
          have HB := Lib.hid (HB.out.below hb)
          refine hK.out _ _ hS' ?_
          clear hK K hb hS
          have hS := hS'
          clear hS'
          try simp only [Act.put, List.setIfInBounds_toArray, List.set_cons_zero, List.set_cons_succ]
          refine H.one (i := 8) (by simp only [List.getElem?_toArray, List.getElem?_cons_succ, List.getElem?_cons_zero]; rfl) (by kernel_rfl) (by kernel_rfl) (fun K hK => ?_)
          refine wp_valW rfl (Xq.ex_conv (x := .tmp 22) (v := .slice (some ⟨g7, 0, none⟩) 3 3) rfl rfl (cv.out _ _ HB.out)) ?_
          refine hK.out _ _ hS ?_
          clear hK K
          try simp only [Act.put, List.setIfInBounds_toArray, List.set_cons_zero, List.set_cons_succ]
          refine H.tk (i := 9) (v := ?v9x80) ?h9x80 hS ?_
          case h9x80 => (intro w hw; go_simp; first | done | (with_reducible rfl))
          try simp only [Act.put, List.setIfInBounds_toArray, List.set_cons_zero, List.set_cons_succ]
          refine H.tk (i := 13) (v := ?v13x81) ?h13x81 hS ?_
          case h13x81 => (intro w hw; go_simp; first | done | (with_reducible rfl))
          try simp only [Act.put, List.setIfInBounds_toArray, List.set_cons_zero, List.set_cons_succ]
          refine H.tk (i := 16) (v := ?v16x82) ?h16x82 hS ?_
          case h16x82 => (intro w hw; go_simp; first | done | (with_reducible rfl))
          try simp only [Act.put, List.setIfInBounds_toArray, List.set_cons_zero, List.set_cons_succ]
          refine H.tk (i := 20) (v := ?v20x83) ?h20x83 hS ?_
          case h20x83 => (intro w hw; go_simp; first | done | (with_reducible rfl))
          try simp only [Act.put, List.setIfInBounds_toArray, List.set_cons_zero, List.set_cons_succ]
          refine H.tk (i := 23) (v := ?v23x84) ?h23x84 hS ?_
          case h23x84 => (intro w hw; go_simp; first | done | (with_reducible rfl))
          try simp only [Act.put, List.setIfInBounds_toArray, List.set_cons_zero, List.set_cons_succ]
          refine H.tk (i := 27) (v := ?v27x85) ?h27x85 hS ?_
          case h27x85 => (intro w hw; go_simp; first | done | (with_reducible rfl))
          try simp only [Act.put, List.setIfInBounds_toArray, List.set_cons_zero, List.set_cons_succ]
          refine H.tk (i := 29) (v := ?v29x86) ?h29x86 hS ?_
          case h29x86 => (intro w hw; go_simp; first | done | (with_reducible rfl))
          try simp only [Act.put, List.setIfInBounds_toArray, List.set_cons_zero, List.set_cons_succ]
          refine H.tk (i := 30) (v := ?v30x87) ?h30x87 hS ?_
          case h30x87 => (intro w hw; go_simp; first | done | (with_reducible rfl))
          try simp only [Act.put, List.setIfInBounds_toArray, List.set_cons_zero, List.set_cons_succ]
          refine H.tk (i := 31) (v := (Value.bool true)) (fun w _ => rfl) hS ?_
          try simp only [Act.put, List.setIfInBounds_toArray, List.set_cons_zero, List.set_cons_succ]
          refine wpAnyH_done (by kernel_rfl) ?_ _
          go_wp2
          go_ret2
          exact ⟨pair_eq (HE.out.trans HP.out.symm) HK.out.symm, hS.bel⟩
    case wb59 =>
      go_simp
      refine (O2.out _).mono ?_
      rintro e X2 ⟨rfl, hb⟩
      have hS' := hS.call hb
      refine hK.out _ _ hS' ?_
      clear hK K hb hS
      have hS := hS'
      clear hS'
      try simp only [Act.put, List.setIfInBounds_toArray, List.set_cons_zero, List.set_cons_succ]
      refine H.two (i := 7) (j := 26) (by simp only [List.getElem?_toArray, List.getElem?_cons_succ, List.getElem?_cons_zero]; rfl) (by kernel_rfl) (by simp only [List.getElem?_toArray, List.getElem?_cons_succ, List.getElem?_cons_zero]; rfl) (by kernel_rfl) (by kernel_rfl) (fun K hK => ?wa89) (fun K hK => ?wb89)
      case wa89 =>
        refine wp_valW rfl (ex_bs3 (c := (cf.toNat : Int)) (d := (ch.toNat : Int)) rfl rfl rfl rfl) ?_
        have hS' := hS.call (balloc (Below.refl _ X2) (.cells #[.int .u8 (cf.toNat : Int), .int .u8 0, .int .u8 (ch.toNat : Int)] 5))
        refine hK.out _ _ hS' ?_
        have HB := Lib.hid (Bk.Bk.new 5 X2 #[.int .u8 (cf.toNat : Int), .int .u8 0, .int .u8 (ch.toNat : Int)])
        clear hK K hS
        have hS := hS'
        clear hS'
        generalize X2.alloc (.cells #[.int .u8 (cf.toNat : Int), .int .u8 0, .int .u8 (ch.toNat : Int)] 5) = X3 at *
        generalize X2.heap.size = g7 at *
        try simp only [Act.put, List.setIfInBounds_toArray, List.set_cons_zero, List.set_cons_succ]
        refine H.two (i := 8) (j := 26) (by simp only [List.getElem?_toArray, List.getElem?_cons_succ, List.getElem?_cons_zero]; rfl) (by kernel_rfl) (by simp only [List.getElem?_toArray, List.getElem?_cons_succ, List.getElem?_cons_zero]; rfl) (by kernel_rfl) (by kernel_rfl) (fun K hK => ?wa90) (fun K hK => ?wb90)
        case wa90 =>
          refine wp_valW rfl (Xq.ex_conv (x := .tmp 22) (v := .slice (some ⟨g7, 0, none⟩) 3 3) rfl rfl (cv.out _ _ HB.out)) ?_
          refine hK.out _ _ hS ?_
          clear hK K
          try simp only [Act.put, List.setIfInBounds_toArray, List.set_cons_zero, List.set_cons_succ]
          refine H.tk (i := 9) (v := ?v9x91) ?h9x91 hS ?_
          case h9x91 => (intro w hw; go_simp; first | done | (with_reducible rfl))
          try simp only [Act.put, List.setIfInBounds_toArray, List.set_cons_zero, List.set_cons_succ]
          refine H.tk (i := 13) (v := ?v13x92) ?h13x92 hS ?_
          case h13x92 => (intro w hw; go_simp; first | done | (with_reducible rfl))
          try simp only [Act.put, List.setIfInBounds_toArray, List.set_cons_zero, List.set_cons_succ]
          refine H.tk (i := 16) (v := ?v16x93) ?h16x93 hS ?_
          case h16x93 => (intro w hw; go_simp; first | done | (with_reducible rfl))
          try simp only [Act.put, List.setIfInBounds_toArray, List.set_cons_zero, List.set_cons_succ]
          refine H.tk (i := 20) (v := ?v20x94) ?h20x94 hS ?_
          case h20x94 => (intro w hw; go_simp; first | done | (with_reducible rfl))
          try simp only [Act.put, List.setIfInBounds_toArray, List.set_cons_zero, List.set_cons_succ]
          refine H.tk (i := 23) (v := ?v23x95) ?h23x95 hS ?_
          case h23x95 => (intro w hw; go_simp; first | done | (with_reducible rfl))
          try simp only [Act.put, List.setIfInBounds_toArray, List.set_cons_zero, List.set_cons_succ]
          refine H.one (i := 26) (by simp only [List.getElem?_toArray, List.getElem?_cons_succ, List.getElem?_cons_zero]; rfl) (by kernel_rfl) (by kernel_rfl) (fun K hK => ?_)
          go_simp
          refine (O3.out _).mono ?_
          rintro e X4 ⟨rfl, hb⟩
          have hS' := hS.call hb
          have HB := Lib.hid (HB.out.below hb)
          refine hK.out _ _ hS' ?_
          clear hK K hb hS
          have hS := hS'
          clear hS'
          try simp only [Act.put, List.setIfInBounds_toArray, List.set_cons_zero, List.set_cons_succ]
          refine H.tk (i := 27) (v := ?v27x96) ?h27x96 hS ?_
          case h27x96 => (intro w hw; go_simp; first | done | (with_reducible rfl))
          try simp only [Act.put, List.setIfInBounds_toArray, List.set_cons_zero, List.set_cons_succ]
          refine H.tk (i := 29) (v := ?v29x97) ?h29x97 hS ?_
          case h29x97 => (intro w hw; go_simp; first | done | (with_reducible rfl))
          try simp only [Act.put, List.setIfInBounds_toArray, List.set_cons_zero, List.set_cons_succ]
          refine H.tk (i := 30) (v := ?v30x98) ?h30x98 hS ?_
          case h30x98 => (intro w hw; go_simp; first | done | (with_reducible rfl))
          try simp only [Act.put, List.setIfInBounds_toArray, List.set_cons_zero, List.set_cons_succ]
          refine H.tk (i := 31) (v := (Value.bool true)) (fun w _ => rfl) hS ?_
          try simp only [Act.put, List.setIfInBounds_toArray, List.set_cons_zero, List.set_cons_succ]
          refine wpAnyH_done (by kernel_rfl) ?_ _
          go_wp2
          go_ret2
          exact ⟨pair_eq (HE.out.trans HP.out.symm) HK.out.symm, hS.bel⟩
        case wb90 =>
          go_simp
          refine (O3.out _).mono ?_
          rintro e X4 ⟨rfl, hb⟩
          have hS' := hS.call hb
          have HB := Lib.hid (HB.out.below hb)
          refine hK.out _ _ hS' ?_
          clear hK K hb hS
          have hS := hS'
          clear hS'
          try simp only [Act.put, List.setIfInBounds_toArray, List.set_cons_zero, List.set_cons_succ]
          refine H.one (i := 8) (by simp only [List.getElem?_toArray, List.getElem?_cons_succ, List.getElem?_cons_zero]; rfl) (by kernel_rfl) (by kernel_rfl) (fun K hK => ?_)
          refine wp_valW rfl (Xq.ex_conv (x := .tmp 22) (v := .slice (some ⟨g7, 0, none⟩) 3 3) rfl rfl (cv.out _ _ HB.out)) ?_
          refine hK.out _ _ hS ?_
          clear hK K
          try simp only [Act.put, List.setIfInBounds_toArray, List.set_cons_zero, List.set_cons_succ]
          refine H.tk (i := 9) (v := ?v9x100) ?h9x100 hS ?_
          case h9x100 => (intro w hw; go_simp; first | done | (with_reducible rfl))
          try simp only [Act.put, List.setIfInBounds_toArray, List.set_cons_zero, List.set_cons_succ]
          refine H.tk (i := 13) (v := ?v13x101) ?h13x101 hS ?_
          case h13x101 => (intro w hw; go_simp; first | done | (with_reducible rfl))
          try simp only [Act.put, List.setIfInBounds_toArray, List.set_cons_zero, List.set_cons_succ]
          refine H.tk (i := 16) (v := ?v16x102) ?h16x102 hS ?_
          case h16x102 => (intro w hw; go_simp; first | done | (with_reducible rfl))
          try simp only [Act.put, List.setIfInBounds_toArray, List.set_cons_zero, List.set_cons_succ]
          refine H.tk (i := 20) (v := ?v20x103) ?h20x103 hS ?_
          case h20x103 => (intro w hw; go_simp; first | done | (with_reducible rfl))
          try simp only [Act.put, List.setIfInBounds_toArray, List.set_cons_zero, List.set_cons_succ]
          refine H.tk (i := 23) (v := ?v23x104) ?h23x104 hS ?_
          case h23x104 => (intro w hw; go_simp; first | done | (with_reducible rfl))
          try simp only [Act.put, List.setIfInBounds_toArray, List.set_cons_zero, List.set_cons_succ]
          refine H.tk (i := 27) (v := ?v27x105) ?h27x105 hS ?_
          case h27x105 => (intro w hw; go_simp; first | done | (with_reducible rfl))
          try simp only [Act.put, List.setIfInBounds_toArray, List.set_cons_zero, List.set_cons_succ]
          refine H.tk (i := 29) (v := ?v29x106) ?h29x106 hS ?_
          case h29x106 => (intro w hw; go_simp; first | done | (with_reducible rfl))
          try simp only [Act.put, List.setIfInBounds_toArray, List.set_cons_zero, List.set_cons_succ]
          refine H.tk (i := 30) (v := ?v30x107) ?h30x107 hS ?_
          case h30x107 => (intro w hw; go_simp; first | done | (with_reducible rfl))
          try simp only [Act.put, List.setIfInBounds_toArray, List.set_cons_zero, List.set_cons_succ]
          refine H.tk (i := 31) (v := (Value.bool true)) (fun w _ => rfl) hS ?_
          try simp only [Act.put, List.setIfInBounds_toArray, List.set_cons_zero, List.set_cons_succ]
          refine wpAnyH_done (by kernel_rfl) ?_ _
          go_wp2
          go_ret2
          exact ⟨pair_eq (HE.out.trans HP.out.symm) HK.out.symm, hS.bel⟩
      case wb89 =>
        go_simp
        refine (O3.out _).mono ?_
        rintro e X3 ⟨rfl, hb⟩
        have hS' := hS.call hb
        refine hK.out _ _ hS' ?_
        clear hK K hb hS
        have hS := hS'
        clear hS'
        try simp only [Act.put, List.setIfInBounds_toArray, List.set_cons_zero, List.set_cons_succ]
        refine H.one (i := 7) (by simp only [List.getElem?_toArray, List.getElem?_cons_succ, List.getElem?_cons_zero]; rfl) (by kernel_rfl) (by kernel_rfl) (fun K hK => ?_)
        refine wp_valW rfl (ex_bs3 (c := (cf.toNat : Int)) (d := (ch.toNat : Int)) rfl rfl rfl rfl) ?_
        have hS' := hS.call (balloc (Below.refl _ X3) (.cells #[.int .u8 (cf.toNat : Int), .int .u8 0, .int .u8 (ch.toNat : Int)] 5))
        refine hK.out _ _ hS' ?_
        have HB := Lib.hid (Bk.Bk.new 5 X3 #[.int .u8 (cf.toNat : Int), .int .u8 0, .int .u8 (ch.toNat : Int)])
        clear hK K hS
        have hS := hS'
        clear hS'
        generalize X3.alloc (.cells #[.int .u8 (cf.toNat : Int), .int .u8 0, .int .u8 (ch.toNat : Int)] 5) = X4 at *
        generalize X3.heap.size = g7 at *
        try simp only [Act.put, List.setIfInBounds_toArray, List.set_cons_zero, List.set_cons_succ]
        refine H.one (i := 8) (by simp only [List.getElem?_toArray, List.getElem?_cons_succ, List.getElem?_cons_zero]; rfl) (by kernel_rfl) (by kernel_rfl) (fun K hK => ?_)
        refine wp_valW rfl (Xq.ex_conv (x := .tmp 22) (v := .slice (some ⟨g7, 0, none⟩) 3 3) rfl rfl (cv.out _ _ HB.out)) ?_
        refine hK.out _ _ hS ?_
        clear hK K
        try simp only [Act.put, List.setIfInBounds_toArray, List.set_cons_zero, List.set_cons_succ]
        refine H.tk (i := 9) (v := ?v9x109) ?h9x109 hS ?_
        case h9x109 => (intro w hw; go_simp; first | done | (with_reducible rfl))
        try simp only [Act.put, List.setIfInBounds_toArray, List.set_cons_zero, List.set_cons_succ]
        refine H.tk (i := 13) (v := ?v13x110) ?h13x110 hS ?_
        case h13x110 => (intro w hw; go_simp; first | done | (with_reducible rfl))
        try simp only [Act.put, List.setIfInBounds_toArray, List.set_cons_zero, List.set_cons_succ]
        refine H.tk (i := 16) (v := ?v16x111) ?h16x111 hS ?_
        case h16x111 => (intro w hw; go_simp; first | done | (with_reducible rfl))
        try simp only [Act.put, List.setIfInBounds_toArray, List.set_cons_zero, List.set_cons_succ]
        refine H.tk (i := 20) (v := ?v20x112) ?h20x112 hS ?_
        case h20x112 => (intro w hw; go_simp; first | done | (with_reducible rfl))
        try simp only [Act.put, List.setIfInBounds_toArray, List.set_cons_zero, List.set_cons_succ]
        refine H.tk (i := 23) (v := ?v23x113) ?h23x113 hS ?_
        case h23x113 => (intro w hw; go_simp; first | done | (with_reducible rfl))
        try simp only [Act.put, List.setIfInBounds_toArray, List.set_cons_zero, List.set_cons_succ]
        refine H.tk (i := 27) (v := ?v27x114) ?h27x114 hS ?_
        case h27x114 => (intro w hw; go_simp; first | done | (with_reducible rfl))
        try simp only [Act.put, List.setIfInBounds_toArray, List.set_cons_zero, List.set_cons_succ]
        refine H.tk (i := 29) (v := ?v29x115) ?h29x115 hS ?_
        case h29x115 => (intro w hw; go_simp; first | done | (with_reducible rfl))
        try simp only [Act.put, List.setIfInBounds_toArray, List.set_cons_zero, List.set_cons_succ]
        refine H.tk (i := 30) (v := ?v30x116) ?h30x116 hS ?_
        case h30x116 => (intro w hw; go_simp; first | done | (with_reducible rfl))
        try simp only [Act.put, List.setIfInBounds_toArray, List.set_cons_zero, List.set_cons_succ]
        refine H.tk (i := 31) (v := (Value.bool true)) (fun w _ => rfl) hS ?_
        try simp only [Act.put, List.setIfInBounds_toArray, List.set_cons_zero, List.set_cons_succ]
        refine wpAnyH_done (by kernel_rfl) ?_ _
        go_wp2
        go_ret2
        exact ⟨pair_eq (HE.out.trans HP.out.symm) HK.out.symm, hS.bel⟩
end Go.Proofs.Ytlelfapmleopaaa.Q5
