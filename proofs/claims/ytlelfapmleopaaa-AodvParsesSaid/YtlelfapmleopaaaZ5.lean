/-
  Put of a route reply, or of what acknowledges one: the program's and the document's. Conditions: the message's lists stand in the world; at most 2000 extensions.
-/
import Derived.Test.YtlelfapmleopaaaZ2
import Derived.Test.YtlelfapmleopaaaXq
import Derived.Test.YtlelfapmleopaaaP5
namespace Go.Proofs.Ytlelfapmleopaaa.Z5
open Go.ChangeShapes Go.WideShapes Go.ChangeAt Go.RowKit
open Go.Proofs.Ytlelfapmleopaaa.Ms
open Go.Proofs.Ytlelfapmleopaaa.Box
open Go.Proofs.Ytlelfapmleopaaa.Xv
open Go.Proofs.Ytlelfapmleopaaa.Xp (to8 putS pair_eq)
open Go.Proofs.Ytlelfapmleopaaa.Z1
open Go.Proofs.Ytlelfapmleopaaa.Z2
open Go.Proofs.Ytlelfapmleopaaa.Am
open Go.Proofs.Ytlelfapmleopaaa.Hs
open Go.Proofs.Ytlelfapmleopaaa.Hy
open Go.Proofs.Ytlelfapmleopaaa.Nu
open Go.Proofs.Ytlelfapmleopaaa.Oct (fitsB)
open Go.Proofs.Ytlelfapmleopaaa.Or (st_yes)
set_option linter.unusedVariables false
set_option maxRecDepth 100000
set_option maxRecDepth 100000
theorem str_eq {a b : ByteArray} (h : a = b) : Ending.returned (.string a) = .returned (.string b) := by rw [h]
theorem conv_four (c d e : UInt8) (w : World) : (convert 59 9 (.slice (some ⟨w.heap.size, 0, none⟩) 4 4)).run Try.prog (w.alloc (.cells #[.int .u8 2, .int .u8 (c.toNat : Int), .int .u8 (d.toNat : Int), .int .u8 (e.toNat : Int)] 5)) = .ok (.string ⟨#[2, c, d, e]⟩) (w.alloc (.cells #[.int .u8 2, .int .u8 (c.toNat : Int), .int .u8 (d.toNat : Int), .int .u8 (e.toNat : Int)] 5)) := by
  refine run_convert_bytes_back _ 59 9 5 ⟨w.heap.size, 0, none⟩ 4 [2, c, d, e] Try.underlying59 Try.underlying5 Try.underlying9 fun j hj => ?_
  have hB := Bk.Bk.new 5 w #[.int .u8 2, .int .u8 (c.toNat : Int), .int .u8 (d.toNat : Int), .int .u8 (e.toNat : Int)]
  rw [Sx.add_at, Nat.zero_add]
  match j, hj with
  | 0, _ => exact hB.cell 0 _ rfl
  | 1, _ => exact hB.cell 1 _ rfl
  | 2, _ => exact hB.cell 2 _ rfl
  | 3, _ => exact hB.cell 3 _ rfl
theorem conv_two (w : World) : (convert 59 9 (.slice (some ⟨w.heap.size, 0, none⟩) 2 2)).run Try.prog (w.alloc (.cells #[.int .u8 4, .int .u8 0] 5)) = .ok (.string ⟨#[4, 0]⟩) (w.alloc (.cells #[.int .u8 4, .int .u8 0] 5)) := by
  refine run_convert_bytes_back _ 59 9 5 ⟨w.heap.size, 0, none⟩ 2 [4, 0] Try.underlying59 Try.underlying5 Try.underlying9 fun j hj => ?_
  have hB := Bk.Bk.new 5 w #[.int .u8 4, .int .u8 0]
  rw [Sx.add_at, Nat.zero_add]
  match j, hj with
  | 0, _ => exact hB.cell 0 _ rfl
  | 1, _ => exact hB.cell 1 _ rfl
theorem hd_parts (m : M) : (⟨#[2, UInt8.ofNat (64 * m.flags.toNat), UInt8.ofNat m.plen.toNat, UInt8.ofNat m.hops.toNat]⟩ : ByteArray) ++ m.addr ++ ⟨(layN m.seq 4).toArray⟩ ++ m.orig ++ ⟨(layN m.interval 4).toArray⟩ = ⟨(hdR m).toArray⟩ := by
  refine text_eq ?_
  simp [hdR, ByteArray.data_append]
theorem flag_byte {n : Int} (h : 0 ≤ n) : UInt8.ofNat (n * 64).toNat = UInt8.ofNat (64 * n.toNat) := by
  have : (n * 64).toNat = 64 * n.toNat := by omega
  rw [this]
theorem lay_size (v : Int) (k : Nat) : (⟨(layN v k).toArray⟩ : ByteArray).size ≤ k := by show (layN v k).toArray.size ≤ k; simpa using layN_len v k
set_option maxHeartbeats 3200000 in
theorem preply_any (m : M) (w : World) (hm : m.In w) (hr : reply m = true) :
    Calls Try.prog 91 #[.agg m.cells] w fun e w' => e = .returned (.string ⟨(hdR m).toArray⟩) ∧ Below w.heap.size w w' := by
  obtain ⟨hn, ha, ho⟩ := (reply_iff m).1 hr
  obtain ⟨f0, f1, p0, p1, n1, -, -⟩ := (nums_iff m).1 hn
  obtain ⟨h0, h1⟩ := fits_one n1
  have v1 := to8 (m.flags * 64) (by omega) (by omega)
  have v2 := to8 m.plen p0 (by omega)
  have v3 := to8 m.hops h0 (by omega)
  rw [flag_byte f0] at v1
  have HF := Lib.hid (Fs.new w m hm)
  have HY := Lib.hid (hd_parts m)
  have P1 := Lib.hid (fun V => oput_any m.seq 4 4 rfl (by omega) (by omega) V)
  have P2 := Lib.hid (fun V => oput_any m.interval 4 4 rfl (by omega) (by omega) V)
  have z1 := lay_size m.seq 4
  have z2 := lay_size m.interval 4
  generalize (⟨(layN m.seq 4).toArray⟩ : ByteArray) = t1 at *
  generalize (⟨(layN m.interval 4).toArray⟩ : ByteArray) = t2 at *
  generalize fitsB m.seq 4 = x1 at *
  generalize fitsB m.interval 4 = x2 at *
  generalize UInt8.ofNat (64 * m.flags.toNat) = cf at *
  generalize UInt8.ofNat m.plen.toNat = cp at *
  generalize UInt8.ofNat m.hops.toNat = ch at *
  generalize (⟨(hdR m).toArray⟩ : ByteArray) = R at *
  clear hn n1 hm hr
  go_enter Try.func91, Try.ntmps91
  go_upto_region 1 with fail
  generalize w.alloc (.cells m.cells 34) = V at *
  have c15 := HF.out.m.cs.c15
  have c7 := HF.out.m.cs.c7
  have c16 := HF.out.m.cs.c16
  have cv := conv_four cf cp ch V
  go_upto_region 2 with fail
  have HF := Lib.hid (HF.out.call (balloc (Below.refl _ V) (.cells #[.int .u8 2, .int .u8 (cf.toNat : Int), .int .u8 (cp.toNat : Int), .int .u8 (ch.toNat : Int)] 5)))
  clear cv c15 c7 c16 v1 v2 v3 h0 h1 f0 f1 p0 p1
  change Code.wp _ _ _ _ (V.alloc (.cells #[.int .u8 2, .int .u8 (cf.toNat : Int), .int .u8 (cp.toNat : Int), .int .u8 (ch.toNat : Int)] 5))
  generalize V.alloc (.cells #[.int .u8 2, .int .u8 (cf.toNat : Int), .int .u8 (cp.toNat : Int), .int .u8 (ch.toNat : Int)] 5) = V1 at *
  have z0 : (⟨#[2, cf, cp, ch]⟩ : ByteArray).size = 4 := rfl
  generalize (⟨#[2, cf, cp, ch]⟩ : ByteArray) = t0 at *
  have c := HF.out.m.cs.c12
  go_wp2_with fail
  refine (P1.out _).mono ?_
  rintro e W1 ⟨rfl, hb⟩
  have HF := Lib.hid (HF.out.call hb)
  clear hb c P1
  have c := HF.out.m.cs.c14
  go_wp2_with fail
  refine (P2.out _).mono ?_
  rintro e W2 ⟨rfl, hb⟩
  have HF := Lib.hid (HF.out.call hb)
  clear hb c P2
  have c19 := HF.out.m.cs.c19
  have c20 := HF.out.m.cs.c20
  go_wp2
  go_ret
  exact ⟨str_eq HY.out, HF.out.bel⟩
set_option maxHeartbeats 3200000 in
theorem phead_any (m : M) (w : World) (hm : m.In w) (hok : okP m = true) :
    Calls Try.prog 71 #[.agg m.cells] w fun e w' => e = .returned (.string ⟨(hd m).toArray⟩) ∧ Below w.heap.size w w' := by
  obtain ⟨-, -, hk⟩ := (ok_iff m).1 hok
  have HF := Lib.hid (Fs.new w m hm)
  clear hm hok
  rcases hk with h6 | ⟨h4, hr⟩
  · have HY := Lib.hid (show (⟨#[4, 0]⟩ : ByteArray) = ⟨(hd m).toArray⟩ by rw [hd_ack h6])
    generalize (⟨(hd m).toArray⟩ : ByteArray) = R at *
    go_enter Try.func71, Try.ntmps71
    go_upto_region 1 with fail
    generalize w.alloc (.cells m.cells 34) = V at *
    have c0 := HF.out.m.cs.c0
    rw [h6] at c0
    have cv := conv_two V
    go_wp2
    go_ret
    exact ⟨str_eq HY.out, HF.out.bel.trans ((balloc (Below.refl _ V) (.cells #[.int .u8 4, .int .u8 0] 5)).mono HF.out.bel.size)⟩
  have P := Lib.hid (fun V (h : m.In V) => preply_any m V h hr)
  rw [← hd_rep h4] at P
  generalize (⟨(hd m).toArray⟩ : ByteArray) = R at *
  clear hr
  go_enter Try.func71, Try.ntmps71
  go_upto_region 1 with fail
  generalize w.alloc (.cells m.cells 34) = V at *
  have c0 := HF.out.m.cs.c0
  rw [h4] at c0
  go_wp2_with (first | (refine wpList_loadM (b := w.heap.size) (m := m) rfl _ rfl rfl HF.out.m ?_))
  refine (P.out _ HF.out.i).mono ?_
  rintro e V1 ⟨rfl, hb⟩
  have HF := Lib.hid (HF.out.call hb)
  clear hb P c0
  go_wp2
  go_ret
  exact ⟨rfl, HF.out.bel⟩
set_option maxHeartbeats 3200000 in
theorem put_any (m : M) (w : World) (hm : m.In w) (ln : m.sl.length ≤ 2000) (lb : ∀ x ∈ m.sl, x.1.size ≤ 1099511627776) :
    Calls Try.prog 50 #[.agg m.cells] w fun e w' => e = .returned (.tuple #[.string (putP m), .bool (okP m)]) ∧ Below w.heap.size w w' := by
  have HF := Lib.hid (Fs.new w m hm)
  have P1 := Lib.hid (fun V (h : m.In V) => right_any m V h lb)
  have P2 := Lib.hid (fun V (h : m.In V) => Xp.put_any m.sa m.sc m.sl V h.s ln lb)
  by_cases hok : okP m = true
  rotate_left
  · have hok : okP m = false := by simpa using hok
    have HP := Lib.hid (putP_no hok)
    have HK := Lib.hid hok
    rw [hok] at P1
    clear hok lb P2 hm
    go_enter Try.func50, Try.ntmps50
    go_upto_region 1 with fail
    generalize w.alloc (.cells m.cells 34) = V at *
    go_wp2_with (first | (refine wpList_loadM (b := w.heap.size) (m := m) rfl _ rfl rfl HF.out.m ?_))
    refine (P1.out _ HF.out.i).mono ?_
    rintro e V1 ⟨rfl, hb⟩
    have HF := Lib.hid (HF.out.call hb)
    clear hb
    go_wp2
    go_ret2
    exact ⟨pair_eq HP.out.symm HK.out.symm, HF.out.bel⟩
  have hx := ((ok_iff m).1 hok).subs
  have P3 := Lib.hid (fun V (h : m.In V) => phead_any m V h hok)
  have HP := Lib.hid (putP_yes hok)
  have HK := Lib.hid hok
  have HE : Hid ((⟨(hd m).toArray⟩ : ByteArray) ++ putS m.sl = ⟨(encP m).toArray⟩) := Lib.hid (by
    rw [Xp.putS_yes hx]
    refine text_eq ?_
    simp [encP, ByteArray.data_append])
  have z1 : (⟨(hd m).toArray⟩ : ByteArray).size ≤ 1000 := Nat.le_trans (hd_len hok) (by decide)
  have z2 : (putS m.sl).size ≤ 514000 := by
    rw [Xp.putS_yes hx]
    show (encX m.sl).length ≤ _
    rw [encX_len]
    have := bytes_most hx
    omega
  rw [hok] at P1
  rw [hx] at P2
  generalize (⟨(hd m).toArray⟩ : ByteArray) = t1 at *
  generalize putS m.sl = t2 at *
  clear hok lb hx hm
  go_enter Try.func50, Try.ntmps50
  go_upto_region 1 with fail
  generalize w.alloc (.cells m.cells 34) = V at *
  go_wp2_with (first | (refine wpList_loadM (b := w.heap.size) (m := m) rfl _ rfl rfl HF.out.m ?_))
  refine (P1.out _ HF.out.i).mono ?_
  rintro e V1 ⟨rfl, hb⟩
  have HF := Lib.hid (HF.out.call hb)
  clear hb P1
  have c24 := HF.out.m.cs.c24
  go_wp2_with fail
  refine (P2.out _ HF.out.i).mono ?_
  rintro e V2 ⟨rfl, hb⟩
  have HF := Lib.hid (HF.out.call hb)
  clear hb P2 c24
  go_wp2_with (first | (refine wpList_loadM (b := w.heap.size) (m := m) rfl _ rfl rfl HF.out.m ?_))
  refine (P3.out _ HF.out.i).mono ?_
  rintro e V3 ⟨rfl, hb⟩
  have HF := Lib.hid (HF.out.call hb)
  clear hb P3
  go_wp2
  go_ret2
  exact ⟨pair_eq (HE.out.trans HP.out.symm) HK.out.symm, HF.out.bel⟩
theorem build_three (c d e : Int) (w : World) : (Instr.buildSlice 59 3 #[(0, .int .u8 c), (1, .int .u8 d), (2, .int .u8 e)]).run Try.prog w = .ok (.slice (some ⟨w.heap.size, 0, none⟩) 3 3) (w.alloc (.cells #[.int .u8 c, .int .u8 d, .int .u8 e] 5)) := by
  kernel_rfl
theorem ex_bs3 {o : Oper} {ρ : Operand → Value} {x y z : Operand} {c d e : Int} {w : World} (ho : o.op = .buildSlice 59 3 #[(0, x), (1, y), (2, z)]) (hx : ρ x = .int .u8 c) (h0 : ρ y = .int .u8 d) (h1 : ρ z = .int .u8 e) :
    (execOp ρ o).run Try.prog w = .ok (.value (.slice (some ⟨w.heap.size, 0, none⟩) 3 3)) (w.alloc (.cells #[.int .u8 c, .int .u8 d, .int .u8 e] 5)) := by
  have e : ((#[(0, x), (1, y), (2, z)] : Array (Nat × Operand)).map fun (i, x) => (i, ρ x)) = #[(0, .int .u8 c), (1, .int .u8 d), (2, .int .u8 e)] := by simp [hx, h0, h1]
  unfold execOp
  simp only [ho, Sem.run_bind, e, build_three, Result.andThen_ok, Sem.run_pure]
theorem conv_three (c d e : UInt8) (w : World) (g : Nat) (hB : Bk.Bk 5 w g #[.int .u8 (c.toNat : Int), .int .u8 (d.toNat : Int), .int .u8 (e.toNat : Int)]) : (convert 59 9 (.slice (some ⟨g, 0, none⟩) 3 3)).run Try.prog w = .ok (.string ⟨#[c, d, e]⟩) w := by
  refine run_convert_bytes_back _ 59 9 5 ⟨g, 0, none⟩ 3 [c, d, e] Try.underlying59 Try.underlying5 Try.underlying9 fun j hj => ?_
  rw [Sx.add_at, Nat.zero_add]
  match j, hj with
  | 0, _ => exact hB.cell 0 _ rfl
  | 1, _ => exact hB.cell 1 _ rfl
  | 2, _ => exact hB.cell 2 _ rfl
theorem cat_b (a b c : ByteArray) (ha : a.size ≤ 1000000) (hb : b.size ≤ 1000000) (e : a ++ b = c) (W : World) : (Op.stringOp .add a b).run Try.prog W = .ok (.string c) W := by
  subst e
  exact run_string_add_sum W _ _ (by show _ ≤ _; omega)
theorem enc_parts (m : M) (h4 : m.kind = 4) (hx : okX m.sl = true) : (⟨#[2]⟩ : ByteArray) ++ ⟨#[UInt8.ofNat (64 * m.flags.toNat), UInt8.ofNat m.plen.toNat, UInt8.ofNat m.hops.toNat]⟩ ++ m.addr ++ ⟨(layN m.seq 4).toArray⟩ ++ m.orig ++ ⟨(layN m.interval 4).toArray⟩ ++ putS m.sl = ⟨(encP m).toArray⟩ := by
  rw [Xp.putS_yes hx]
  refine text_eq ?_
  simp [encP, hd_rep h4, hdR, ByteArray.data_append]
theorem ack_parts (m : M) (h6 : m.kind = 6) (hx : okX m.sl = true) : (⟨#[4, 0]⟩ : ByteArray) ++ putS m.sl = ⟨(encP m).toArray⟩ := by
  rw [Xp.putS_yes hx]
  refine text_eq ?_
  simp [encP, hd_ack h6, ByteArray.data_append]
set_option maxHeartbeats 12800000 in
theorem rput_any (m : M) (w : World) (hm : m.In w) (ln : m.sl.length ≤ 2000) (lb : ∀ x ∈ m.sl, x.1.size ≤ 1099511627776) :
    Calls Try.prog 31 #[.agg m.cells] w fun e w' => e = .returned (.tuple #[.string (putP m), .bool (okP m)]) ∧ Below w.heap.size w w' := by
  have HF := Lib.hid (Fs.new w m hm)
  have P1 := Lib.hid (fun V (h : m.In V) => rright_any m V h lb)
  have P2 := Lib.hid (fun V (h : m.In V) => Xq.rput_any m.sa m.sc m.sl V h.s ln lb)
  by_cases hok : okP m = true
  rotate_left
  · have hok : okP m = false := by simpa using hok
    have HP := Lib.hid (putP_no hok)
    have HK := Lib.hid hok
    rw [hok] at P1
    clear hok lb P2 hm
    go_enter Try.func31, Try.ntmps31
    go_upto_region 1 with fail
    generalize w.alloc (.cells m.cells 34) = V at *
    go_wp2_with (first | (refine wpList_loadM (b := w.heap.size) (m := m) rfl _ rfl rfl HF.out.m ?_))
    refine (P1.out _ HF.out.i).mono ?_
    rintro e V1 ⟨rfl, hb⟩
    have HF := Lib.hid (HF.out.call hb)
    clear hb
    go_wp2
    go_ret2
    exact ⟨pair_eq HP.out.symm HK.out.symm, HF.out.bel⟩
  obtain ⟨_, hx, hk⟩ := (ok_iff m).1 hok
  have HP := Lib.hid (putP_yes hok)
  have HK := Lib.hid hok
  have z4 : (putS m.sl).size ≤ 514000 := by
    rw [Xp.putS_yes hx]
    show (encX m.sl).length ≤ _
    rw [encX_len]
    have := bytes_most hx
    omega
  rw [hok] at P1
  rw [hx] at P2
  rcases hk with h6 | ⟨h4, hr⟩
  · have HE := Lib.hid (ack_parts m h6 hx)
    generalize putS m.sl = t4 at *
    generalize (⟨(encP m).toArray⟩ : ByteArray) = R at *
    have z5 : (⟨#[4, 0]⟩ : ByteArray).size = 2 := rfl
    clear hok lb hx hm
    go_enter Try.func31, Try.ntmps31
    go_upto_region 1 with fail
    generalize w.alloc (.cells m.cells 34) = V at *
    go_wp2_with (first | (refine wpList_loadM (b := w.heap.size) (m := m) rfl _ rfl rfl HF.out.m ?_))
    refine (P1.out _ HF.out.i).mono ?_
    rintro e V1 ⟨rfl, hb⟩
    have HF := Lib.hid (HF.out.call hb)
    clear hb P1
    have c24 := HF.out.m.cs.c24
    go_wp2_with fail
    refine (P2.out _ HF.out.i).mono ?_
    rintro e V2 ⟨rfl, hb⟩
    have HF := Lib.hid (HF.out.call hb)
    clear hb P2 c24
    have c0 := HF.out.m.cs.c0
    rw [h6] at c0
    go_wp2
    go_ret2
    exact ⟨pair_eq (HE.out.trans HP.out.symm) HK.out.symm, HF.out.bel⟩
  obtain ⟨hn, ha, ho⟩ := (reply_iff m).1 hr
  obtain ⟨f0, f1, p0, p1, n1, n2, n3⟩ := (nums_iff m).1 hn
  obtain ⟨h0, h1⟩ := fits_one n1
  have HE := Lib.hid (enc_parts m h4 hx)
  have v1 := to8 (64 * m.flags) (by omega) (by omega)
  have v2 := to8 m.plen p0 (by omega)
  have v3 := to8 m.hops h0 (by omega)
  rw [show (64 * m.flags).toNat = 64 * m.flags.toNat by omega] at v1
  have HW8 : Hid (IntKind.i64.wrap (64 * m.flags) = 64 * m.flags) := Lib.hid (IntWalk.i64_in _ (by omega))
  have O1 := Lib.hid (fun V => of_any m.seq 4 4 rfl (by omega) (by omega) V)
  have O2 := Lib.hid (fun V => of_any m.interval 4 4 rfl (by omega) (by omega) V)
  have z1 := lay_size m.seq 4
  have z2 := lay_size m.interval 4
  generalize (⟨(layN m.seq 4).toArray⟩ : ByteArray) = t1 at *
  generalize (⟨(layN m.interval 4).toArray⟩ : ByteArray) = t2 at *
  generalize putS m.sl = t4 at *
  generalize UInt8.ofNat (64 * m.flags.toNat) = cf at *
  generalize UInt8.ofNat m.plen.toNat = cp at *
  generalize UInt8.ofNat m.hops.toNat = ch at *
  generalize (⟨(encP m).toArray⟩ : ByteArray) = R at *
  have cat0 := cat_b (⟨#[2]⟩ : ByteArray) (⟨#[cf, cp, ch]⟩ : ByteArray) _ (by decide) (by show 3 ≤ _; omega) rfl
  have cv := Lib.hid (conv_three cf cp ch)
  have y0 : ((⟨#[2]⟩ : ByteArray) ++ (⟨#[cf, cp, ch]⟩ : ByteArray)).size = 4 := rfl
  generalize (⟨#[2]⟩ : ByteArray) ++ (⟨#[cf, cp, ch]⟩ : ByteArray) = u0 at *
  generalize (⟨#[cf, cp, ch]⟩ : ByteArray) = t0 at *
  have cat1 := cat_b u0 m.addr _ (by omega) (by omega) rfl
  have y1 : (u0 ++ m.addr).size ≤ 8 := by rw [ByteArray.size_append]; omega
  generalize u0 ++ m.addr = u1 at *
  have cat2 := cat_b u1 t1 _ (by omega) (by omega) rfl
  have y2 : (u1 ++ t1).size ≤ 12 := by rw [ByteArray.size_append]; omega
  generalize u1 ++ t1 = u2 at *
  have cat3 := cat_b u2 m.orig _ (by omega) (by omega) rfl
  have y3 : (u2 ++ m.orig).size ≤ 16 := by rw [ByteArray.size_append]; omega
  generalize u2 ++ m.orig = u3 at *
  have cat4 := cat_b u3 t2 _ (by omega) (by omega) rfl
  have y4 : (u3 ++ t2).size ≤ 20 := by rw [ByteArray.size_append]; omega
  generalize u3 ++ t2 = u4 at *
  have cat5 := cat_b u4 t4 _ (by omega) (by omega) rfl
  have y5 : (u4 ++ t4).size ≤ 514020 := by rw [ByteArray.size_append]; omega
  generalize u4 ++ t4 = u5 at *
  have HE := Lib.hid HE.out
  clear hok lb hn ha ho hx hm hr n1 n2 n3 y0 y1 y2 y3 y4 y5 z1 z2 z4
  go_enter Try.func31, Try.ntmps31
  go_upto_region 1 with fail
  generalize w.alloc (.cells m.cells 34) = V at *
  go_wp2_with (first | (refine wpList_loadM (b := w.heap.size) (m := m) rfl _ rfl rfl HF.out.m ?_))
  refine (P1.out _ HF.out.i).mono ?_
  rintro e V1 ⟨rfl, hb⟩
  have HF := Lib.hid (HF.out.call hb)
  clear hb P1
  have c24 := HF.out.m.cs.c24
  go_wp2_with fail
  refine (P2.out _ HF.out.i).mono ?_
  rintro e V2 ⟨rfl, hb⟩
  have HF := Lib.hid (HF.out.call hb)
  clear hb P2 c24
  have c0 := HF.out.m.cs.c0
  rw [h4] at c0
  go_upto_region 6 with fail
  refine wp_region_held_drew (S := fun W => Fs w W w.heap.size m) (by kernel_rfl) HF.out.drew (fun hS => ?_)
  clear HF c0
  generalize V2.drew = X0 at *
  refine H.tk (i := 0) (v := ?v0x1) ?h0x1 hS ?_
  case h0x1 => (intro w hw; go_simp; first | done | (with_reducible rfl))
  try simp only [Act.put, List.setIfInBounds_toArray, List.set_cons_zero, List.set_cons_succ]
  refine H.tk (i := 1) (v := ?v1x2) ?h1x2 hS ?_
  case h1x2 => (intro w hw; have c := (hw.m).cs.c15; go_simp; first | done | (with_reducible rfl))
  try simp only [Act.put, List.setIfInBounds_toArray, List.set_cons_zero, List.set_cons_succ]
  refine H.tk (i := 2) (v := .int .i64 (64 * m.flags)) ?h2x3 hS ?_
  case h2x3 => exact (fun w hw => by go_simp; rw [HW8.out])
  try simp only [Act.put, List.setIfInBounds_toArray, List.set_cons_zero, List.set_cons_succ]
  refine H.tk (i := 3) (v := ?v3x4) ?h3x4 hS ?_
  case h3x4 => (intro w hw; go_simp; first | done | (with_reducible rfl))
  try simp only [Act.put, List.setIfInBounds_toArray, List.set_cons_zero, List.set_cons_succ]
  refine H.tk (i := 4) (v := ?v4x5) ?h4x5 hS ?_
  case h4x5 => (intro w hw; go_simp; first | done | (with_reducible rfl))
  try simp only [Act.put, List.setIfInBounds_toArray, List.set_cons_zero, List.set_cons_succ]
  refine H.tk (i := 5) (v := ?v5x6) ?h5x6 hS ?_
  case h5x6 => (intro w hw; have c := (hw.m).cs.c7; go_simp; first | done | (with_reducible rfl))
  try simp only [Act.put, List.setIfInBounds_toArray, List.set_cons_zero, List.set_cons_succ]
  refine H.tk (i := 6) (v := ?v6x7) ?h6x7 hS ?_
  case h6x7 => (intro w hw; go_simp; first | done | (with_reducible rfl))
  try simp only [Act.put, List.setIfInBounds_toArray, List.set_cons_zero, List.set_cons_succ]
  refine H.tk (i := 7) (v := ?v7x8) ?h7x8 hS ?_
  case h7x8 => (intro w hw; go_simp; first | done | (with_reducible rfl))
  try simp only [Act.put, List.setIfInBounds_toArray, List.set_cons_zero, List.set_cons_succ]
  refine H.tk (i := 8) (v := ?v8x9) ?h8x9 hS ?_
  case h8x9 => (intro w hw; have c := (hw.m).cs.c16; go_simp; first | done | (with_reducible rfl))
  try simp only [Act.put, List.setIfInBounds_toArray, List.set_cons_zero, List.set_cons_succ]
  refine H.tk (i := 9) (v := ?v9x10) ?h9x10 hS ?_
  case h9x10 => (intro w hw; go_simp; first | done | (with_reducible rfl))
  try simp only [Act.put, List.setIfInBounds_toArray, List.set_cons_zero, List.set_cons_succ]
  refine H.tk (i := 13) (v := ?v13x11) ?h13x11 hS ?_
  case h13x11 => (intro w hw; go_simp; first | done | (with_reducible rfl))
  try simp only [Act.put, List.setIfInBounds_toArray, List.set_cons_zero, List.set_cons_succ]
  refine H.tk (i := 14) (v := ?v14x12) ?h14x12 hS ?_
  case h14x12 => (intro w hw; have c := (hw.m).cs.c19; go_simp; first | done | (with_reducible rfl))
  try simp only [Act.put, List.setIfInBounds_toArray, List.set_cons_zero, List.set_cons_succ]
  refine H.tk (i := 16) (v := ?v16x13) ?h16x13 hS ?_
  case h16x13 => (intro w hw; go_simp; first | done | (with_reducible rfl))
  try simp only [Act.put, List.setIfInBounds_toArray, List.set_cons_zero, List.set_cons_succ]
  refine H.tk (i := 17) (v := ?v17x14) ?h17x14 hS ?_
  case h17x14 => (intro w hw; have c := (hw.m).cs.c12; go_simp; first | done | (with_reducible rfl))
  try simp only [Act.put, List.setIfInBounds_toArray, List.set_cons_zero, List.set_cons_succ]
  refine H.tk (i := 20) (v := ?v20x15) ?h20x15 hS ?_
  case h20x15 => (intro w hw; go_simp; first | done | (with_reducible rfl))
  try simp only [Act.put, List.setIfInBounds_toArray, List.set_cons_zero, List.set_cons_succ]
  refine H.tk (i := 21) (v := ?v21x16) ?h21x16 hS ?_
  case h21x16 => (intro w hw; have c := (hw.m).cs.c20; go_simp; first | done | (with_reducible rfl))
  try simp only [Act.put, List.setIfInBounds_toArray, List.set_cons_zero, List.set_cons_succ]
  refine H.tk (i := 23) (v := ?v23x17) ?h23x17 hS ?_
  case h23x17 => (intro w hw; go_simp; first | done | (with_reducible rfl))
  try simp only [Act.put, List.setIfInBounds_toArray, List.set_cons_zero, List.set_cons_succ]
  refine H.tk (i := 24) (v := ?v24x18) ?h24x18 hS ?_
  case h24x18 => (intro w hw; have c := (hw.m).cs.c14; go_simp; first | done | (with_reducible rfl))
  try simp only [Act.put, List.setIfInBounds_toArray, List.set_cons_zero, List.set_cons_succ]
  refine H.tk (i := 27) (v := ?v27x19) ?h27x19 hS ?_
  case h27x19 => (intro w hw; go_simp; first | done | (with_reducible rfl))
  try simp only [Act.put, List.setIfInBounds_toArray, List.set_cons_zero, List.set_cons_succ]
  refine H.two (i := 10) (j := 18) (by simp only [List.getElem?_toArray, List.getElem?_cons_succ, List.getElem?_cons_zero]; rfl) (by kernel_rfl) (by simp only [List.getElem?_toArray, List.getElem?_cons_succ, List.getElem?_cons_zero]; rfl) (by kernel_rfl) (by kernel_rfl) (fun K hK => ?wa20) (fun K hK => ?wb20)
  case wa20 =>
    refine wp_valW rfl (ex_bs3 (c := (cf.toNat : Int)) (d := (cp.toNat : Int)) (e := (ch.toNat : Int)) rfl rfl rfl rfl) ?_
    have hS' := hS.call (balloc (Below.refl _ X0) (.cells #[.int .u8 (cf.toNat : Int), .int .u8 (cp.toNat : Int), .int .u8 (ch.toNat : Int)] 5))
    refine hK.out _ _ hS' ?_
    have HB := Lib.hid (Bk.Bk.new 5 X0 #[.int .u8 (cf.toNat : Int), .int .u8 (cp.toNat : Int), .int .u8 (ch.toNat : Int)])
    clear hK K hS
    have hS := hS'
    clear hS'
    generalize X0.alloc (.cells #[.int .u8 (cf.toNat : Int), .int .u8 (cp.toNat : Int), .int .u8 (ch.toNat : Int)] 5) = X1 at *
    generalize X0.heap.size = g7 at *
    try simp only [Act.put, List.setIfInBounds_toArray, List.set_cons_zero, List.set_cons_succ]
    refine H.two (i := 11) (j := 18) (by simp only [List.getElem?_toArray, List.getElem?_cons_succ, List.getElem?_cons_zero]; rfl) (by kernel_rfl) (by simp only [List.getElem?_toArray, List.getElem?_cons_succ, List.getElem?_cons_zero]; rfl) (by kernel_rfl) (by kernel_rfl) (fun K hK => ?wa21) (fun K hK => ?wb21)
    case wa21 =>
      refine wp_valW rfl (Xq.ex_conv (x := .tmp 30) (v := .slice (some ⟨g7, 0, none⟩) 3 3) rfl rfl (cv.out _ _ HB.out)) ?_
      refine hK.out _ _ hS ?_
      clear hK K
      try simp only [Act.put, List.setIfInBounds_toArray, List.set_cons_zero, List.set_cons_succ]
      refine H.tk (i := 12) (v := ?v12x22) ?h12x22 hS ?_
      case h12x22 => (intro w hw; go_simp; first | done | (with_reducible rfl))
      try simp only [Act.put, List.setIfInBounds_toArray, List.set_cons_zero, List.set_cons_succ]
      refine H.tk (i := 15) (v := ?v15x23) ?h15x23 hS ?_
      case h15x23 => (intro w hw; go_simp; first | done | (with_reducible rfl))
      try simp only [Act.put, List.setIfInBounds_toArray, List.set_cons_zero, List.set_cons_succ]
      refine H.one (i := 18) (by simp only [List.getElem?_toArray, List.getElem?_cons_succ, List.getElem?_cons_zero]; rfl) (by kernel_rfl) (by kernel_rfl) (fun K hK => ?_)
      go_simp
      refine (O1.out _).mono ?_
      rintro e X2 ⟨rfl, hb⟩
      have hS' := hS.call hb
      have HB := Lib.hid (HB.out.below hb)
      refine hK.out _ _ hS' ?_
      clear hK K hb hS
      have hS := hS'
      clear hS'
      try simp only [Act.put, List.setIfInBounds_toArray, List.set_cons_zero, List.set_cons_succ]
      refine H.tk (i := 19) (v := ?v19x24) ?h19x24 hS ?_
      case h19x24 => (intro w hw; go_simp; first | done | (with_reducible rfl))
      try simp only [Act.put, List.setIfInBounds_toArray, List.set_cons_zero, List.set_cons_succ]
      refine H.tk (i := 22) (v := ?v22x25) ?h22x25 hS ?_
      case h22x25 => (intro w hw; go_simp; first | done | (with_reducible rfl))
      try simp only [Act.put, List.setIfInBounds_toArray, List.set_cons_zero, List.set_cons_succ]
      refine H.one (i := 25) (by simp only [List.getElem?_toArray, List.getElem?_cons_succ, List.getElem?_cons_zero]; rfl) (by kernel_rfl) (by kernel_rfl) (fun K hK => ?_)
      go_simp
      refine (O2.out _).mono ?_
      rintro e X3 ⟨rfl, hb⟩
      have hS' := hS.call hb
      have HB := Lib.hid (HB.out.below hb)
      refine hK.out _ _ hS' ?_
      clear hK K hb hS
      have hS := hS'
      clear hS'
      try simp only [Act.put, List.setIfInBounds_toArray, List.set_cons_zero, List.set_cons_succ]
      refine H.tk (i := 26) (v := ?v26x26) ?h26x26 hS ?_
      case h26x26 => (intro w hw; go_simp; first | done | (with_reducible rfl))
      try simp only [Act.put, List.setIfInBounds_toArray, List.set_cons_zero, List.set_cons_succ]
      refine H.tk (i := 28) (v := ?v28x27) ?h28x27 hS ?_
      case h28x27 => (intro w hw; go_simp; first | done | (with_reducible rfl))
      try simp only [Act.put, List.setIfInBounds_toArray, List.set_cons_zero, List.set_cons_succ]
      refine H.tk (i := 29) (v := ?v29x28) ?h29x28 hS ?_
      case h29x28 => (intro w hw; go_simp; first | done | (with_reducible rfl))
      try simp only [Act.put, List.setIfInBounds_toArray, List.set_cons_zero, List.set_cons_succ]
      refine H.tk (i := 30) (v := (Value.bool true)) (fun w _ => rfl) hS ?_
      try simp only [Act.put, List.setIfInBounds_toArray, List.set_cons_zero, List.set_cons_succ]
      refine wpAnyH_done (by kernel_rfl) ?_ _
      go_wp2
      go_ret2
      exact ⟨pair_eq (HE.out.trans HP.out.symm) HK.out.symm, hS.bel⟩
    case wb21 =>
      go_simp
      refine (O1.out _).mono ?_
      rintro e X2 ⟨rfl, hb⟩
      have hS' := hS.call hb
      have HB := Lib.hid (HB.out.below hb)
      refine hK.out _ _ hS' ?_
      clear hK K hb hS
      have hS := hS'
      clear hS'
      try simp only [Act.put, List.setIfInBounds_toArray, List.set_cons_zero, List.set_cons_succ]
      refine H.two (i := 11) (j := 25) (by simp only [List.getElem?_toArray, List.getElem?_cons_succ, List.getElem?_cons_zero]; rfl) (by kernel_rfl) (by simp only [List.getElem?_toArray, List.getElem?_cons_succ, List.getElem?_cons_zero]; rfl) (by kernel_rfl) (by kernel_rfl) (fun K hK => ?wa30) (fun K hK => ?wb30)
      case wa30 =>
        refine wp_valW rfl (Xq.ex_conv (x := .tmp 30) (v := .slice (some ⟨g7, 0, none⟩) 3 3) rfl rfl (cv.out _ _ HB.out)) ?_
        refine hK.out _ _ hS ?_
        clear hK K
        try simp only [Act.put, List.setIfInBounds_toArray, List.set_cons_zero, List.set_cons_succ]
        refine H.tk (i := 12) (v := ?v12x31) ?h12x31 hS ?_
        case h12x31 => (intro w hw; go_simp; first | done | (with_reducible rfl))
        try simp only [Act.put, List.setIfInBounds_toArray, List.set_cons_zero, List.set_cons_succ]
        refine H.tk (i := 15) (v := ?v15x32) ?h15x32 hS ?_
        case h15x32 => (intro w hw; go_simp; first | done | (with_reducible rfl))
        try simp only [Act.put, List.setIfInBounds_toArray, List.set_cons_zero, List.set_cons_succ]
        refine H.tk (i := 19) (v := ?v19x33) ?h19x33 hS ?_
        case h19x33 => (intro w hw; go_simp; first | done | (with_reducible rfl))
        try simp only [Act.put, List.setIfInBounds_toArray, List.set_cons_zero, List.set_cons_succ]
        refine H.tk (i := 22) (v := ?v22x34) ?h22x34 hS ?_
        case h22x34 => (intro w hw; go_simp; first | done | (with_reducible rfl))
        try simp only [Act.put, List.setIfInBounds_toArray, List.set_cons_zero, List.set_cons_succ]
        refine H.one (i := 25) (by simp only [List.getElem?_toArray, List.getElem?_cons_succ, List.getElem?_cons_zero]; rfl) (by kernel_rfl) (by kernel_rfl) (fun K hK => ?_)
        go_simp
        refine (O2.out _).mono ?_
        rintro e X3 ⟨rfl, hb⟩
        have hS' := hS.call hb
        have HB := Lib.hid (HB.out.below hb)
        refine hK.out _ _ hS' ?_
        clear hK K hb hS
        have hS := hS'
        clear hS'
        try simp only [Act.put, List.setIfInBounds_toArray, List.set_cons_zero, List.set_cons_succ]
        refine H.tk (i := 26) (v := ?v26x35) ?h26x35 hS ?_
        case h26x35 => (intro w hw; go_simp; first | done | (with_reducible rfl))
        try simp only [Act.put, List.setIfInBounds_toArray, List.set_cons_zero, List.set_cons_succ]
        refine H.tk (i := 28) (v := ?v28x36) ?h28x36 hS ?_
        case h28x36 => (intro w hw; go_simp; first | done | (with_reducible rfl))
        try simp only [Act.put, List.setIfInBounds_toArray, List.set_cons_zero, List.set_cons_succ]
        refine H.tk (i := 29) (v := ?v29x37) ?h29x37 hS ?_
        case h29x37 => (intro w hw; go_simp; first | done | (with_reducible rfl))
        try simp only [Act.put, List.setIfInBounds_toArray, List.set_cons_zero, List.set_cons_succ]
        refine H.tk (i := 30) (v := (Value.bool true)) (fun w _ => rfl) hS ?_
        try simp only [Act.put, List.setIfInBounds_toArray, List.set_cons_zero, List.set_cons_succ]
        refine wpAnyH_done (by kernel_rfl) ?_ _
        go_wp2
        go_ret2
        exact ⟨pair_eq (HE.out.trans HP.out.symm) HK.out.symm, hS.bel⟩
      case wb30 =>
        go_simp
        refine (O2.out _).mono ?_
        rintro e X3 ⟨rfl, hb⟩
        have hS' := hS.call hb
        have HB := Lib.hid (HB.out.below hb)
        refine hK.out _ _ hS' ?_
        clear hK K hb hS
        have hS := hS'
        clear hS'
        try simp only [Act.put, List.setIfInBounds_toArray, List.set_cons_zero, List.set_cons_succ]
        refine H.one (i := 11) (by simp only [List.getElem?_toArray, List.getElem?_cons_succ, List.getElem?_cons_zero]; rfl) (by kernel_rfl) (by kernel_rfl) (fun K hK => ?_)
        refine wp_valW rfl (Xq.ex_conv (x := .tmp 30) (v := .slice (some ⟨g7, 0, none⟩) 3 3) rfl rfl (cv.out _ _ HB.out)) ?_
        refine hK.out _ _ hS ?_
        clear hK K
        try simp only [Act.put, List.setIfInBounds_toArray, List.set_cons_zero, List.set_cons_succ]
        refine H.tk (i := 12) (v := ?v12x39) ?h12x39 hS ?_
        case h12x39 => (intro w hw; go_simp; first | done | (with_reducible rfl))
        try simp only [Act.put, List.setIfInBounds_toArray, List.set_cons_zero, List.set_cons_succ]
        refine H.tk (i := 15) (v := ?v15x40) ?h15x40 hS ?_
        case h15x40 => (intro w hw; go_simp; first | done | (with_reducible rfl))
        try simp only [Act.put, List.setIfInBounds_toArray, List.set_cons_zero, List.set_cons_succ]
        refine H.tk (i := 19) (v := ?v19x41) ?h19x41 hS ?_
        case h19x41 => (intro w hw; go_simp; first | done | (with_reducible rfl))
        try simp only [Act.put, List.setIfInBounds_toArray, List.set_cons_zero, List.set_cons_succ]
        refine H.tk (i := 22) (v := ?v22x42) ?h22x42 hS ?_
        case h22x42 => (intro w hw; go_simp; first | done | (with_reducible rfl))
        try simp only [Act.put, List.setIfInBounds_toArray, List.set_cons_zero, List.set_cons_succ]
        refine H.tk (i := 26) (v := ?v26x43) ?h26x43 hS ?_
        case h26x43 => (intro w hw; go_simp; first | done | (with_reducible rfl))
        try simp only [Act.put, List.setIfInBounds_toArray, List.set_cons_zero, List.set_cons_succ]
        refine H.tk (i := 28) (v := ?v28x44) ?h28x44 hS ?_
        case h28x44 => (intro w hw; go_simp; first | done | (with_reducible rfl))
        try simp only [Act.put, List.setIfInBounds_toArray, List.set_cons_zero, List.set_cons_succ]
        refine H.tk (i := 29) (v := ?v29x45) ?h29x45 hS ?_
        case h29x45 => (intro w hw; go_simp; first | done | (with_reducible rfl))
        try simp only [Act.put, List.setIfInBounds_toArray, List.set_cons_zero, List.set_cons_succ]
        refine H.tk (i := 30) (v := (Value.bool true)) (fun w _ => rfl) hS ?_
        try simp only [Act.put, List.setIfInBounds_toArray, List.set_cons_zero, List.set_cons_succ]
        refine wpAnyH_done (by kernel_rfl) ?_ _
        go_wp2
        go_ret2
        exact ⟨pair_eq (HE.out.trans HP.out.symm) HK.out.symm, hS.bel⟩
  case wb20 =>
    go_simp
    refine (O1.out _).mono ?_
    rintro e X1 ⟨rfl, hb⟩
    have hS' := hS.call hb
    refine hK.out _ _ hS' ?_
    clear hK K hb hS
    have hS := hS'
    clear hS'
    try simp only [Act.put, List.setIfInBounds_toArray, List.set_cons_zero, List.set_cons_succ]
    refine H.two (i := 10) (j := 25) (by simp only [List.getElem?_toArray, List.getElem?_cons_succ, List.getElem?_cons_zero]; rfl) (by kernel_rfl) (by simp only [List.getElem?_toArray, List.getElem?_cons_succ, List.getElem?_cons_zero]; rfl) (by kernel_rfl) (by kernel_rfl) (fun K hK => ?wa47) (fun K hK => ?wb47)
    case wa47 =>
      refine wp_valW rfl (ex_bs3 (c := (cf.toNat : Int)) (d := (cp.toNat : Int)) (e := (ch.toNat : Int)) rfl rfl rfl rfl) ?_
      have hS' := hS.call (balloc (Below.refl _ X1) (.cells #[.int .u8 (cf.toNat : Int), .int .u8 (cp.toNat : Int), .int .u8 (ch.toNat : Int)] 5))
      refine hK.out _ _ hS' ?_
      have HB := Lib.hid (Bk.Bk.new 5 X1 #[.int .u8 (cf.toNat : Int), .int .u8 (cp.toNat : Int), .int .u8 (ch.toNat : Int)])
      clear hK K hS
      have hS := hS'
      clear hS'
      generalize X1.alloc (.cells #[.int .u8 (cf.toNat : Int), .int .u8 (cp.toNat : Int), .int .u8 (ch.toNat : Int)] 5) = X2 at *
      generalize X1.heap.size = g7 at *
      try simp only [Act.put, List.setIfInBounds_toArray, List.set_cons_zero, List.set_cons_succ]
      refine H.two (i := 11) (j := 25) (by simp only [List.getElem?_toArray, List.getElem?_cons_succ, List.getElem?_cons_zero]; rfl) (by kernel_rfl) (by simp only [List.getElem?_toArray, List.getElem?_cons_succ, List.getElem?_cons_zero]; rfl) (by kernel_rfl) (by kernel_rfl) (fun K hK => ?wa48) (fun K hK => ?wb48)
      case wa48 =>
        refine wp_valW rfl (Xq.ex_conv (x := .tmp 30) (v := .slice (some ⟨g7, 0, none⟩) 3 3) rfl rfl (cv.out _ _ HB.out)) ?_
        refine hK.out _ _ hS ?_
        clear hK K
        try simp only [Act.put, List.setIfInBounds_toArray, List.set_cons_zero, List.set_cons_succ]
        refine H.tk (i := 12) (v := ?v12x49) ?h12x49 hS ?_
        case h12x49 => (intro w hw; go_simp; first | done | (with_reducible rfl))
        try simp only [Act.put, List.setIfInBounds_toArray, List.set_cons_zero, List.set_cons_succ]
        refine H.tk (i := 15) (v := ?v15x50) ?h15x50 hS ?_
        case h15x50 => (intro w hw; go_simp; first | done | (with_reducible rfl))
        try simp only [Act.put, List.setIfInBounds_toArray, List.set_cons_zero, List.set_cons_succ]
        refine H.tk (i := 19) (v := ?v19x51) ?h19x51 hS ?_
        case h19x51 => (intro w hw; go_simp; first | done | (with_reducible rfl))
        try simp only [Act.put, List.setIfInBounds_toArray, List.set_cons_zero, List.set_cons_succ]
        refine H.tk (i := 22) (v := ?v22x52) ?h22x52 hS ?_
        case h22x52 => (intro w hw; go_simp; first | done | (with_reducible rfl))
        try simp only [Act.put, List.setIfInBounds_toArray, List.set_cons_zero, List.set_cons_succ]
        refine H.one (i := 25) (by simp only [List.getElem?_toArray, List.getElem?_cons_succ, List.getElem?_cons_zero]; rfl) (by kernel_rfl) (by kernel_rfl) (fun K hK => ?_)
        go_simp
        refine (O2.out _).mono ?_
        rintro e X3 ⟨rfl, hb⟩
        have hS' := hS.call hb
        have HB := Lib.hid (HB.out.below hb)
        refine hK.out _ _ hS' ?_
        clear hK K hb hS
        have hS := hS'
        clear hS'
        try simp only [Act.put, List.setIfInBounds_toArray, List.set_cons_zero, List.set_cons_succ]
        refine H.tk (i := 26) (v := ?v26x53) ?h26x53 hS ?_
        case h26x53 => (intro w hw; go_simp; first | done | (with_reducible rfl))
        try simp only [Act.put, List.setIfInBounds_toArray, List.set_cons_zero, List.set_cons_succ]
        refine H.tk (i := 28) (v := ?v28x54) ?h28x54 hS ?_
        case h28x54 => (intro w hw; go_simp; first | done | (with_reducible rfl))
        try simp only [Act.put, List.setIfInBounds_toArray, List.set_cons_zero, List.set_cons_succ]
        refine H.tk (i := 29) (v := ?v29x55) ?h29x55 hS ?_
        case h29x55 => (intro w hw; go_simp; first | done | (with_reducible rfl))
        try simp only [Act.put, List.setIfInBounds_toArray, List.set_cons_zero, List.set_cons_succ]
        refine H.tk (i := 30) (v := (Value.bool true)) (fun w _ => rfl) hS ?_
        try simp only [Act.put, List.setIfInBounds_toArray, List.set_cons_zero, List.set_cons_succ]
        refine wpAnyH_done (by kernel_rfl) ?_ _
        go_wp2
        go_ret2
        exact ⟨pair_eq (HE.out.trans HP.out.symm) HK.out.symm, hS.bel⟩
      case wb48 =>
        go_simp
        refine (O2.out _).mono ?_
        rintro e X3 ⟨rfl, hb⟩
        have hS' := hS.call hb
        have HB := Lib.hid (HB.out.below hb)
        refine hK.out _ _ hS' ?_
        clear hK K hb hS
        have hS := hS'
        clear hS'
        try simp only [Act.put, List.setIfInBounds_toArray, List.set_cons_zero, List.set_cons_succ]
        refine H.one (i := 11) (by simp only [List.getElem?_toArray, List.getElem?_cons_succ, List.getElem?_cons_zero]; rfl) (by kernel_rfl) (by kernel_rfl) (fun K hK => ?_)
        refine wp_valW rfl (Xq.ex_conv (x := .tmp 30) (v := .slice (some ⟨g7, 0, none⟩) 3 3) rfl rfl (cv.out _ _ HB.out)) ?_
        refine hK.out _ _ hS ?_
        clear hK K
        try simp only [Act.put, List.setIfInBounds_toArray, List.set_cons_zero, List.set_cons_succ]
        refine H.tk (i := 12) (v := ?v12x57) ?h12x57 hS ?_
        case h12x57 => (intro w hw; go_simp; first | done | (with_reducible rfl))
        try simp only [Act.put, List.setIfInBounds_toArray, List.set_cons_zero, List.set_cons_succ]
        refine H.tk (i := 15) (v := ?v15x58) ?h15x58 hS ?_
        case h15x58 => (intro w hw; go_simp; first | done | (with_reducible rfl))
        try simp only [Act.put, List.setIfInBounds_toArray, List.set_cons_zero, List.set_cons_succ]
        refine H.tk (i := 19) (v := ?v19x59) ?h19x59 hS ?_
        case h19x59 => (intro w hw; go_simp; first | done | (with_reducible rfl))
        try simp only [Act.put, List.setIfInBounds_toArray, List.set_cons_zero, List.set_cons_succ]
        refine H.tk (i := 22) (v := ?v22x60) ?h22x60 hS ?_
        case h22x60 => (intro w hw; go_simp; first | done | (with_reducible rfl))
        try simp only [Act.put, List.setIfInBounds_toArray, List.set_cons_zero, List.set_cons_succ]
        refine H.tk (i := 26) (v := ?v26x61) ?h26x61 hS ?_
        case h26x61 => (intro w hw; go_simp; first | done | (with_reducible rfl))
        try simp only [Act.put, List.setIfInBounds_toArray, List.set_cons_zero, List.set_cons_succ]
        refine H.tk (i := 28) (v := ?v28x62) ?h28x62 hS ?_
        case h28x62 => (intro w hw; go_simp; first | done | (with_reducible rfl))
        try simp only [Act.put, List.setIfInBounds_toArray, List.set_cons_zero, List.set_cons_succ]
        refine H.tk (i := 29) (v := ?v29x63) ?h29x63 hS ?_
        case h29x63 => (intro w hw; go_simp; first | done | (with_reducible rfl))
        try simp only [Act.put, List.setIfInBounds_toArray, List.set_cons_zero, List.set_cons_succ]
        refine H.tk (i := 30) (v := (Value.bool true)) (fun w _ => rfl) hS ?_
        try simp only [Act.put, List.setIfInBounds_toArray, List.set_cons_zero, List.set_cons_succ]
        refine wpAnyH_done (by kernel_rfl) ?_ _
        go_wp2
        go_ret2
        exact ⟨pair_eq (HE.out.trans HP.out.symm) HK.out.symm, hS.bel⟩
    case wb47 =>
      go_simp
      refine (O2.out _).mono ?_
      rintro e X2 ⟨rfl, hb⟩
      have hS' := hS.call hb
      refine hK.out _ _ hS' ?_
      clear hK K hb hS
      have hS := hS'
      clear hS'
      try simp only [Act.put, List.setIfInBounds_toArray, List.set_cons_zero, List.set_cons_succ]
      refine H.one (i := 10) (by simp only [List.getElem?_toArray, List.getElem?_cons_succ, List.getElem?_cons_zero]; rfl) (by kernel_rfl) (by kernel_rfl) (fun K hK => ?_)
      refine wp_valW rfl (ex_bs3 (c := (cf.toNat : Int)) (d := (cp.toNat : Int)) (e := (ch.toNat : Int)) rfl rfl rfl rfl) ?_
      have hS' := hS.call (balloc (Below.refl _ X2) (.cells #[.int .u8 (cf.toNat : Int), .int .u8 (cp.toNat : Int), .int .u8 (ch.toNat : Int)] 5))
      refine hK.out _ _ hS' ?_
      have HB := Lib.hid (Bk.Bk.new 5 X2 #[.int .u8 (cf.toNat : Int), .int .u8 (cp.toNat : Int), .int .u8 (ch.toNat : Int)])
      clear hK K hS
      have hS := hS'
      clear hS'
      generalize X2.alloc (.cells #[.int .u8 (cf.toNat : Int), .int .u8 (cp.toNat : Int), .int .u8 (ch.toNat : Int)] 5) = X3 at *
      generalize X2.heap.size = g7 at *
      try simp only [Act.put, List.setIfInBounds_toArray, List.set_cons_zero, List.set_cons_succ]
      refine H.one (i := 11) (by simp only [List.getElem?_toArray, List.getElem?_cons_succ, List.getElem?_cons_zero]; rfl) (by kernel_rfl) (by kernel_rfl) (fun K hK => ?_)
      refine wp_valW rfl (Xq.ex_conv (x := .tmp 30) (v := .slice (some ⟨g7, 0, none⟩) 3 3) rfl rfl (cv.out _ _ HB.out)) ?_
      refine hK.out _ _ hS ?_
      clear hK K
      try simp only [Act.put, List.setIfInBounds_toArray, List.set_cons_zero, List.set_cons_succ]
      refine H.tk (i := 12) (v := ?v12x65) ?h12x65 hS ?_
      case h12x65 => (intro w hw; go_simp; first | done | (with_reducible rfl))
      try simp only [Act.put, List.setIfInBounds_toArray, List.set_cons_zero, List.set_cons_succ]
      refine H.tk (i := 15) (v := ?v15x66) ?h15x66 hS ?_
      case h15x66 => (intro w hw; go_simp; first | done | (with_reducible rfl))
      try simp only [Act.put, List.setIfInBounds_toArray, List.set_cons_zero, List.set_cons_succ]
      refine H.tk (i := 19) (v := ?v19x67) ?h19x67 hS ?_
      case h19x67 => (intro w hw; go_simp; first | done | (with_reducible rfl))
      try simp only [Act.put, List.setIfInBounds_toArray, List.set_cons_zero, List.set_cons_succ]
      refine H.tk (i := 22) (v := ?v22x68) ?h22x68 hS ?_
      case h22x68 => (intro w hw; go_simp; first | done | (with_reducible rfl))
      try simp only [Act.put, List.setIfInBounds_toArray, List.set_cons_zero, List.set_cons_succ]
      refine H.tk (i := 26) (v := ?v26x69) ?h26x69 hS ?_
      case h26x69 => (intro w hw; go_simp; first | done | (with_reducible rfl))
      try simp only [Act.put, List.setIfInBounds_toArray, List.set_cons_zero, List.set_cons_succ]
      refine H.tk (i := 28) (v := ?v28x70) ?h28x70 hS ?_
      case h28x70 => (intro w hw; go_simp; first | done | (with_reducible rfl))
      try simp only [Act.put, List.setIfInBounds_toArray, List.set_cons_zero, List.set_cons_succ]
      refine H.tk (i := 29) (v := ?v29x71) ?h29x71 hS ?_
      case h29x71 => (intro w hw; go_simp; first | done | (with_reducible rfl))
      try simp only [Act.put, List.setIfInBounds_toArray, List.set_cons_zero, List.set_cons_succ]
      refine H.tk (i := 30) (v := (Value.bool true)) (fun w _ => rfl) hS ?_
      try simp only [Act.put, List.setIfInBounds_toArray, List.set_cons_zero, List.set_cons_succ]
      refine wpAnyH_done (by kernel_rfl) ?_ _
      go_wp2
      go_ret2
      exact ⟨pair_eq (HE.out.trans HP.out.symm) HK.out.symm, hS.bel⟩
end Go.Proofs.Ytlelfapmleopaaa.Z5
