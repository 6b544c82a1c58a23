/-
  Put of a route error: the program's and the document's. Conditions: the message's lists stand in the world; at most 2000 extensions.
-/
import Derived.Test.YtlelfapmleopaaaY2
import Derived.Test.YtlelfapmleopaaaXq
import Derived.Test.YtlelfapmleopaaaP5
namespace Go.Proofs.Ytlelfapmleopaaa.Y5
open Go.ChangeShapes Go.WideShapes Go.ChangeAt Go.RowKit
open Go.Proofs.Ytlelfapmleopaaa.Ms
open Go.Proofs.Ytlelfapmleopaaa.Box
open Go.Proofs.Ytlelfapmleopaaa.Xv
open Go.Proofs.Ytlelfapmleopaaa.Xp (to8 putS pair_eq Bld.lt Bld.below)
open Go.Proofs.Ytlelfapmleopaaa.Sb (Bld)
open Go.Proofs.Ytlelfapmleopaaa.Bk (Bk)
open Go.Proofs.Ytlelfapmleopaaa.Ds (cellsD)
open Go.Proofs.Ytlelfapmleopaaa.Y1
open Go.Proofs.Ytlelfapmleopaaa.Y2
open Go.Proofs.Ytlelfapmleopaaa.Am
open Go.Proofs.Ytlelfapmleopaaa.Hs
open Go.Proofs.Ytlelfapmleopaaa.Hy
open Go.Proofs.Ytlelfapmleopaaa.Nu
open Go.Proofs.Ytlelfapmleopaaa.Oct (fitsB)
open Go.Proofs.Ytlelfapmleopaaa.Or (st_yes)
set_option linter.unusedVariables false
set_option maxRecDepth 100000
set_option maxRecDepth 100000
theorem neD : (50 : TypeId) ≠ 5 := by decide
theorem str_eq {a b : ByteArray} (h : a = b) : Ending.returned (.string a) = .returned (.string b) := by rw [h]
theorem lay_size (v : Int) (k : Nat) : (⟨(layN v k).toArray⟩ : ByteArray).size ≤ k := by show (layN v k).toArray.size ≤ k; simpa using layN_len v k
theorem enc_most {l : List El} (h : okD l = true) (ln : l.length ≤ 255) (k : Nat) : (encD (l.take k)).length ≤ 2040 := by
  have h2 : okD (l.take k) = true := by
    unfold okD
    rw [List.all_eq_true]
    exact fun x hx => okD_mem h x (List.mem_of_mem_take hx)
  rw [encD_len h2, List.length_take]
  omega
set_option maxHeartbeats 3200000 in
theorem plist_any (a : Option Addr) (c : Nat) (l : List El) (w : World) (hl : DRow w a l) (ln : l.length ≤ 255) (hok : okD l = true) :
    Calls Try.prog 72 #[.slice a l.length c] w fun e w' => e = .returned (.string ⟨(encD l).toArray⟩) ∧ Below w.heap.size w w' := by
  have HL := Lib.hid hl
  have HM := Lib.hid (okD_mem hok)
  have HN := Lib.hid (enc_most hok ln)
  have HLn := Lib.hid ln
  have ln2 : (l.length : Int) ≤ 255 := by omega
  have HGr := Lib.hid (fun B g V h1 h2 h3 => Try.Builder_Grow_fresh B g (l.length * 8) V h1 h2 h3 (by omega))
  simp only [Int.natCast_mul, Int.cast_ofNat_Int] at HGr
  clear hok ln hl
  go_enter Try.func72, Try.ntmps72
  go_upto_region 2 with fail
  have HG := Lib.hid (Bk.Bk.new 89 w #[.pointer none, .slice none 0 0])
  have HB := Lib.hid ((Below.refl w.heap.size w).alloc (Nat.le_refl _) (.cells #[.pointer none, .slice none 0 0] 89))
  generalize w.alloc (.cells #[.pointer none, .slice none 0 0] 89) = W at *
  go_wp2_with fail
  refine (HGr.out w.heap.size w.heap.size W (Nat.le_refl _) HG.out HB.out.size).mono ?_
  rintro e w3 ⟨rfl, hgb, hb⟩
  have HW : Hid (Bld w.heap.size w.heap.size (encD (l.take 0)) w3) := Lib.hid (.inr hgb)
  have HB := Lib.hid (HB.out.trans hb)
  clear hb hgb HG HGr
  go_wp2
  go_loopw [14] (fun i wr => ∃ k : Nat, k ≤ l.length ∧ i = .int .i64 k ∧ Hid (Bld w.heap.size w.heap.size (encD (l.take k)) wr) ∧ Hid (Below w.heap.size w wr)) (fun i _ => l.length - (intOf i).toNat)
  case atStart => exact ⟨0, Nat.zero_le _, rfl, HW, HB⟩
  case round =>
    obtain ⟨k, hk, rfl, HD, HR⟩ := hrel
    clear HW HB
    by_cases hlt : k < l.length
    · obtain ⟨p, rfl, hp, c0, c1⟩ := (HL.out.below HR.out) k hlt
      have HT := Lib.hid (encD_take l k hlt)
      have hm := HM.out _ (List.getElem_mem hlt)
      have hlen := HN.out k
      rw [add_one] at c1
      generalize l[k] = u at *
      generalize encD (l.take k) = bs at *
      obtain ⟨d, n⟩ := u
      obtain ⟨h4, hf⟩ := ok1_parts hm
      simp only [] at h4 hf c0 c1
      have HT : Hid (encD (l.take (k + 1)) = bs ++ d.data.toList ++ (⟨(layN n 4).toArray⟩ : ByteArray).data.toList) := Lib.hid (by
        rw [HT.out, List.append_assoc]
        simp [enc1D])
      have PO := Lib.hid (fun V => oput_any n 4 4 rfl (by omega) (by omega) V)
      have hz4 := lay_size n 4
      generalize (⟨(layN n 4).toArray⟩ : ByteArray) = t at *
      generalize fitsB n 4 = ft at *
      have hl1 := Lib.hid hlen
      have hz5 := Lib.hid (show d.size = 4 ∧ t.size ≤ 4 from ⟨h4, hz4⟩)
      have HDo := HD
      clear hlen hm h4 hz4
      have HX := Lib.hid (Bk.Bk.new 50 wr (cellsD (d, n)))
      have HD := Lib.hid (Bld.below HD.out (balloc (Below.refl _ wr) (.cells (cellsD (d, n)) 50)))
      have HG : Hid (wr.heap.size ≠ w.heap.size) := Lib.hid (by have := Bld.lt HDo.out; omega)
      have HR := Lib.hid (HR.out.alloc HR.out.size (.cells (cellsD (d, n)) 50))
      clear HDo
      go_upto_region 6 with fail
      change Code.wp _ _ _ _ (wr.alloc (.cells (cellsD (d, n)) 50))
      generalize wr.alloc (.cells (cellsD (d, n)) 50) = W at *
      generalize wr.heap.size = q at *
      clear c0 c1 hp
      have c1 := HX.out.cell 1 (.int .i64 n) rfl
      go_wp2_with fail
      refine (PO.out _).mono ?_
      rintro e w4 ⟨rfl, hb⟩
      have HX := Lib.hid (HX.out.below hb)
      have HD := Lib.hid (Bld.below HD.out hb)
      have HR := Lib.hid (HR.out.trans (hb.mono HR.out.size))
      clear hb PO c1
      have c0 := HX.out.cell 0 (.string d) rfl
      go_wp2_with fail
      refine (Sb.str_any w.heap.size w.heap.size bs d _ HD.out (by have := hl1.out; have := hz5.out; omega) HR.out.size).mono ?_
      rintro e w5 ⟨rfl, hd, hb, ho⟩
      have HD := Lib.hid hd
      have HR := Lib.hid (HR.out.trans hb)
      clear hd hb ho c0 HX
      go_wp2_with fail
      refine (Sb.str_any w.heap.size w.heap.size _ t _ HD.out (by have := hl1.out; have := hz5.out; simp; omega) HR.out.size).mono ?_
      rintro e w6 ⟨rfl, hd, hb, ho⟩
      have HD : Hid (Bld w.heap.size w.heap.size (encD (l.take (k + 1))) w6) := Lib.hid (by
        rw [HT.out]
        exact hd)
      have HR := Lib.hid (HR.out.trans hb)
      clear hd hb ho
      go_wp2
      go_roundw
      case rel => exact ⟨k + 1, hlt, by go_num, HD, HR⟩
      case measure => simp [intOf]; omega
    · obtain rfl : k = l.length := by omega
      rw [List.take_length] at HD
      go_wp2_with fail
      refine (Sb.text_any w.heap.size w.heap.size _ wr HD.out HR.out.size).mono ?_
      rintro e w4 ⟨rfl, hb⟩
      have HR := Lib.hid (HR.out.trans hb)
      clear hb HD
      go_wp2
      go_ret
      exact ⟨rfl, HR.out⟩
theorem conv_four (c d : UInt8) (w : World) : (convert 59 9 (.slice (some ⟨w.heap.size, 0, none⟩) 4 4)).run Try.prog (w.alloc (.cells #[.int .u8 3, .int .u8 (c.toNat : Int), .int .u8 0, .int .u8 (d.toNat : Int)] 5)) = .ok (.string ⟨#[3, c, 0, d]⟩) (w.alloc (.cells #[.int .u8 3, .int .u8 (c.toNat : Int), .int .u8 0, .int .u8 (d.toNat : Int)] 5)) := by
  refine run_convert_bytes_back _ 59 9 5 ⟨w.heap.size, 0, none⟩ 4 [3, c, 0, d] Try.underlying59 Try.underlying5 Try.underlying9 fun j hj => ?_
  have hB := Bk.Bk.new 5 w #[.int .u8 3, .int .u8 (c.toNat : Int), .int .u8 0, .int .u8 (d.toNat : Int)]
  rw [Sx.add_at, Nat.zero_add]
  match j, hj with
  | 0, _ => exact hB.cell 0 _ rfl
  | 1, _ => exact hB.cell 1 _ rfl
  | 2, _ => exact hB.cell 2 _ rfl
  | 3, _ => exact hB.cell 3 _ rfl
theorem conv_three (c d : UInt8) (w : World) : (convert 59 9 (.slice (some ⟨w.heap.size, 0, none⟩) 3 3)).run Try.prog (w.alloc (.cells #[.int .u8 (c.toNat : Int), .int .u8 0, .int .u8 (d.toNat : Int)] 5)) = .ok (.string ⟨#[c, 0, d]⟩) (w.alloc (.cells #[.int .u8 (c.toNat : Int), .int .u8 0, .int .u8 (d.toNat : Int)] 5)) := by
  refine run_convert_bytes_back _ 59 9 5 ⟨w.heap.size, 0, none⟩ 3 [c, 0, d] Try.underlying59 Try.underlying5 Try.underlying9 fun j hj => ?_
  have hB := Bk.Bk.new 5 w #[.int .u8 (c.toNat : Int), .int .u8 0, .int .u8 (d.toNat : Int)]
  rw [Sx.add_at, Nat.zero_add]
  match j, hj with
  | 0, _ => exact hB.cell 0 _ rfl
  | 1, _ => exact hB.cell 1 _ rfl
  | 2, _ => exact hB.cell 2 _ rfl
theorem flag_byte {n : Int} (h : 0 ≤ n) : UInt8.ofNat (n * 128).toNat = UInt8.ofNat (128 * n.toNat) := by
  have : (n * 128).toNat = 128 * n.toNat := by omega
  rw [this]
theorem enc_parts (m : M) (hx : okX m.sl = true) : (⟨#[3, UInt8.ofNat (128 * m.flags.toNat), 0, UInt8.ofNat m.ll.length]⟩ : ByteArray) ++ ⟨(encD m.ll).toArray⟩ ++ putS m.sl = ⟨(encE m).toArray⟩ := by
  rw [Xp.putS_yes hx]
  refine text_eq ?_
  simp [encE, hd, ByteArray.data_append]
theorem subs_most {m : M} (hx : okX m.sl = true) (ln : m.sl.length ≤ 2000) : (putS m.sl).size ≤ 514000 := by
  rw [Xp.putS_yes hx]
  show (encX m.sl).length ≤ _
  rw [encX_len]
  have := bytes_most hx
  omega
set_option maxHeartbeats 3200000 in
theorem put_any (m : M) (w : World) (hm : m.In w) (ln : m.sl.length ≤ 2000) (lb : ∀ x ∈ m.sl, x.1.size ≤ 1099511627776) :
    Calls Try.prog 51 #[.agg m.cells] w fun e w' => e = .returned (.tuple #[.string (putE m), .bool (okE m)]) ∧ Below w.heap.size w w' := by
  have HF := Lib.hid (Fs.new w m hm)
  have P1 := Lib.hid (fun V (h : m.In V) => right_any m V h lb)
  have P2 := Lib.hid (fun V (h : m.In V) => Xp.put_any m.sa m.sc m.sl V h.s ln lb)
  by_cases hok : okE m = true
  rotate_left
  · have hok : okE m = false := by simpa using hok
    have HP := Lib.hid (putE_no hok)
    have HK := Lib.hid hok
    rw [hok] at P1
    clear hok lb P2 hm
    go_enter Try.func51, Try.ntmps51
    go_upto_region 1 with fail
    generalize w.alloc (.cells m.cells 34) = V at *
    go_wp2_with (first | (refine wpList_loadM (b := w.heap.size) (m := m) rfl _ rfl rfl HF.out.m ?_))
    refine (P1.out _ HF.out.i).mono ?_
    rintro e V1 ⟨rfl, hb⟩
    have HF := Lib.hid (HF.out.call hb)
    clear hb
    go_wp2
    go_ret2
    exact ⟨pair_eq HP.out.symm HK.out.symm, HF.out.bel⟩
  obtain ⟨-, -, hn, hd', hx⟩ := (ok_iff m).1 hok
  obtain ⟨f0, f1, n0, n1⟩ := (nums_iff m).1 hn
  have P3 := Lib.hid (fun V (h : m.In V) => plist_any m.la m.lc m.ll V h.d n1 hd')
  have HP := Lib.hid (putE_yes hok)
  have HK := Lib.hid hok
  have HE := Lib.hid (enc_parts m hx)
  have v1 := to8 (m.flags * 128) (by omega) (by omega)
  have v2 := to8 (m.ll.length : Int) (by omega) (by omega)
  rw [flag_byte f0] at v1
  rw [Int.toNat_natCast] at v2
  have z1 : (⟨(encD m.ll).toArray⟩ : ByteArray).size ≤ 2040 := by
    show (encD m.ll).toArray.size ≤ _
    rw [List.size_toArray, encD_len hd']
    omega
  have z2 := subs_most hx ln
  have n2 : (m.ll.length : Int) ≤ 255 := by omega
  rw [hok] at P1
  rw [hx] at P2
  generalize (⟨(encD m.ll).toArray⟩ : ByteArray) = t1 at *
  generalize putS m.sl = t2 at *
  generalize UInt8.ofNat (128 * m.flags.toNat) = cf at *
  generalize UInt8.ofNat m.ll.length = cn at *
  clear hok lb hx hm hn hd' n1
  go_enter Try.func51, Try.ntmps51
  go_upto_region 1 with fail
  generalize w.alloc (.cells m.cells 34) = V at *
  go_wp2_with (first | (refine wpList_loadM (b := w.heap.size) (m := m) rfl _ rfl rfl HF.out.m ?_))
  refine (P1.out _ HF.out.i).mono ?_
  rintro e V1 ⟨rfl, hb⟩
  have HF := Lib.hid (HF.out.call hb)
  clear hb P1
  have c15 := HF.out.m.cs.c15
  have c21 := HF.out.m.cs.c21
  have cv := conv_four cf cn V1
  go_upto_region 4 with fail
  have HF := Lib.hid (HF.out.call (balloc (Below.refl _ V1) (.cells #[.int .u8 3, .int .u8 (cf.toNat : Int), .int .u8 0, .int .u8 (cn.toNat : Int)] 5)))
  clear cv c15 c21 v1 v2 f0 f1
  change Code.wp _ _ _ _ (V1.alloc (.cells #[.int .u8 3, .int .u8 (cf.toNat : Int), .int .u8 0, .int .u8 (cn.toNat : Int)] 5))
  generalize V1.alloc (.cells #[.int .u8 3, .int .u8 (cf.toNat : Int), .int .u8 0, .int .u8 (cn.toNat : Int)] 5) = V2 at *
  have z0 : (⟨#[3, cf, 0, cn]⟩ : ByteArray).size = 4 := rfl
  generalize (⟨#[3, cf, 0, cn]⟩ : ByteArray) = t0 at *
  have c24 := HF.out.m.cs.c24
  go_wp2_with fail
  refine (P2.out _ HF.out.i).mono ?_
  rintro e V3 ⟨rfl, hb⟩
  have HF := Lib.hid (HF.out.call hb)
  clear hb P2 c24
  have c21 := HF.out.m.cs.c21
  go_wp2_with fail
  refine (P3.out _ HF.out.i).mono ?_
  rintro e V4 ⟨rfl, hb⟩
  have HF := Lib.hid (HF.out.call hb)
  clear hb P3 c21
  go_wp2
  go_ret2
  exact ⟨pair_eq (HE.out.trans HP.out.symm) HK.out.symm, HF.out.bel⟩
theorem cat_b (a b c : ByteArray) (ha : a.size ≤ 1000000) (hb : b.size ≤ 1000000) (e : a ++ b = c) (W : World) : (Op.stringOp .add a b).run Try.prog W = .ok (.string c) W := by
  subst e
  exact run_string_add_sum W _ _ (by show _ ≤ _; omega)
/-- What the loads read. -/
def Dl (p : Addr) (k : Nat) (d : ByteArray) (n : Int) (W : World) : Prop := W.cell? (p.add (k * 2)) = some (.string d) ∧ W.cell? ⟨(p.add (k * 2)).block, (p.add (k * 2)).off + 1, none⟩ = some (.int .i64 n)
theorem Dl.below {p : Addr} {k : Nat} {d : ByteArray} {n : Int} {w w' : World} (h : Dl p k d n w) (hb : Below w.heap.size w w') (hp : p.block < w.heap.size) : Dl p k d n w' :=
  ⟨by rw [hb.cell (by rw [add_block]; exact hp)]; exact h.1, by rw [hb.cell (by show (p.add (k * 2)).block < _; rw [add_block]; exact hp)]; exact h.2⟩
/-- What the document has laid behind k destinations. -/
def outk (m : M) (k : Nat) : ByteArray := ⟨(3 :: UInt8.ofNat (128 * m.flags.toNat) :: 0 :: UInt8.ofNat m.ll.length :: encD (m.ll.take k)).toArray⟩
theorem outk_zero (m : M) : (⟨#[3]⟩ : ByteArray) ++ ⟨#[UInt8.ofNat (128 * m.flags.toNat), 0, UInt8.ofNat m.ll.length]⟩ = outk m 0 := by
  refine text_eq ?_
  simp [outk, encD, ByteArray.data_append]
theorem outk_succ (m : M) (k : Nat) (h : k < m.ll.length) : outk m k ++ m.ll[k].1 ++ ⟨(layN m.ll[k].2 4).toArray⟩ = outk m (k + 1) := by
  refine text_eq ?_
  unfold outk
  rw [encD_take m.ll k h]
  simp [enc1D, ByteArray.data_append]
theorem outk_all (m : M) (hx : okX m.sl = true) : outk m m.ll.length ++ putS m.sl = ⟨(encE m).toArray⟩ := by
  rw [Xp.putS_yes hx]
  refine text_eq ?_
  unfold outk
  rw [List.take_length]
  simp [encE, hd, ByteArray.data_append]
theorem outk_size {m : M} (h : okD m.ll = true) (ln : m.ll.length ≤ 255) (k : Nat) : (outk m k).size ≤ 2044 := by
  have := enc_most h ln k
  show (_ :: _ :: _ :: _ :: encD (m.ll.take k)).toArray.size ≤ _
  simp
  omega
set_option maxHeartbeats 12800000 in
theorem rput_any (m : M) (w : World) (hm : m.In w) (ln : m.sl.length ≤ 2000) (lb : ∀ x ∈ m.sl, x.1.size ≤ 1099511627776) :
    Calls Try.prog 32 #[.agg m.cells] w fun e w' => e = .returned (.tuple #[.string (putE m), .bool (okE m)]) ∧ Below w.heap.size w w' := by
  have HF := Lib.hid (Fs.new w m hm)
  have P1 := Lib.hid (fun V (h : m.In V) => rright_any m V h lb)
  have P2 := Lib.hid (fun V (h : m.In V) => Xq.rput_any m.sa m.sc m.sl V h.s ln lb)
  by_cases hok : okE m = true
  rotate_left
  · have hok : okE m = false := by simpa using hok
    have HP := Lib.hid (putE_no hok)
    have HK := Lib.hid hok
    rw [hok] at P1
    clear hok lb P2 hm
    go_enter Try.func32, Try.ntmps32
    go_upto_region 1 with fail
    generalize w.alloc (.cells m.cells 34) = V at *
    go_wp2_with (first | (refine wpList_loadM (b := w.heap.size) (m := m) rfl _ rfl rfl HF.out.m ?_))
    refine (P1.out _ HF.out.i).mono ?_
    rintro e V1 ⟨rfl, hb⟩
    have HF := Lib.hid (HF.out.call hb)
    clear hb
    go_wp2
    go_ret2
    exact ⟨pair_eq HP.out.symm HK.out.symm, HF.out.bel⟩
  obtain ⟨-, -, hn, hd', hx⟩ := (ok_iff m).1 hok
  obtain ⟨f0, f1, n0, n1⟩ := (nums_iff m).1 hn
  have HP := Lib.hid (putE_yes hok)
  have HK := Lib.hid hok
  have HE := Lib.hid (outk_all m hx)
  have HZ := Lib.hid (fun k => outk_size hd' n1 k)
  have HM := Lib.hid (okD_mem hd')
  have HS := Lib.hid (fun k h => outk_succ m k h)
  have H0 := Lib.hid (outk_zero m)
  have v1 := to8 (128 * m.flags) (by omega) (by omega)
  have v2 := to8 (m.ll.length : Int) (by omega) (by omega)
  rw [show (128 * m.flags).toNat = 128 * m.flags.toNat by omega] at v1
  rw [Int.toNat_natCast] at v2
  have z2 := subs_most hx ln
  have n2 : (m.ll.length : Int) ≤ 255 := by omega
  rw [hok] at P1
  rw [hx] at P2
  generalize putS m.sl = t2 at *
  generalize UInt8.ofNat (128 * m.flags.toNat) = cf at *
  generalize UInt8.ofNat m.ll.length = cn at *
  clear hok lb hx hm hn hd' n1
  go_enter Try.func32, Try.ntmps32
  go_upto_region 1 with fail
  generalize w.alloc (.cells m.cells 34) = V at *
  go_wp2_with (first | (refine wpList_loadM (b := w.heap.size) (m := m) rfl _ rfl rfl HF.out.m ?_))
  refine (P1.out _ HF.out.i).mono ?_
  rintro e V1 ⟨rfl, hb⟩
  have HF := Lib.hid (HF.out.call hb)
  clear hb P1
  have c15 := HF.out.m.cs.c15
  have c21 := HF.out.m.cs.c21
  have cv := conv_three cf cn V1
  have cat0 := cat_b (⟨#[3]⟩ : ByteArray) (⟨#[cf, 0, cn]⟩ : ByteArray) _ (by decide) (by show 3 ≤ _; omega) H0.out
  generalize hu : outk m 0 = u0 at *
  generalize (⟨#[cf, 0, cn]⟩ : ByteArray) = t0 at *
  go_upto_region 4 with fail
  have HF := Lib.hid (HF.out.call (balloc (Below.refl _ V1) (.cells #[.int .u8 (cf.toNat : Int), .int .u8 0, .int .u8 (cn.toNat : Int)] 5)))
  clear cv c15 c21 v1 v2 f0 f1 cat0 H0
  change Code.wp _ _ _ _ (V1.alloc (.cells #[.int .u8 (cf.toNat : Int), .int .u8 0, .int .u8 (cn.toNat : Int)] 5))
  generalize V1.alloc (.cells #[.int .u8 (cf.toNat : Int), .int .u8 0, .int .u8 (cn.toNat : Int)] 5) = V2 at *
  have HU := Lib.hid hu
  clear hu
  go_wp2
  go_loopw [4, 5] (fun s i wr => ∃ k : Nat, k ≤ m.ll.length ∧ i = .int .i64 k ∧ s = .string (outk m k) ∧ Hid (Fs w wr w.heap.size m)) (fun _ i _ => m.ll.length - (intOf i).toNat)
  case atStart => exact ⟨0, Nat.zero_le _, rfl, by rw [HU.out], HF⟩
  case round =>
    obtain ⟨k, hk, rfl, rfl, HR⟩ := hrel
    clear HF HU
    have c21 := HR.out.m.cs.c21
    by_cases hlt : k < m.ll.length
    · obtain ⟨p, hp, hpb, c0, c1⟩ := HR.out.i.d k hlt
      have hkl : (k : Int) < (m.ll.length : Int) := by omega
      have HT := HS.out k hlt
      have hm := HM.out _ (List.getElem_mem hlt)
      have hz := HZ.out k
      have ix := fun W => indexD p m.ll.length m.lc k hlt W
      rw [add_one] at c1
      generalize m.ll[k] = u at *
      obtain ⟨d, n⟩ := u
      obtain ⟨h4, hf⟩ := ok1_parts hm
      simp only [] at h4 hf c0 c1 HT
      have PO := Lib.hid (fun V => of_any n 4 4 rfl (by omega) (by omega) V)
      have hz4 := lay_size n 4
      generalize (⟨(layN n 4).toArray⟩ : ByteArray) = t at *
      have cat1 := cat_b (outk m k) d _ (by omega) (by omega) rfl
      have cat2 := cat_b (outk m k ++ d) t _ (by rw [ByteArray.size_append]; omega) (by omega) HT
      have HT1 := Lib.hid HT
      clear HT hz hm h4 hf hz4
      generalize hu2 : outk m (k + 1) = u2 at *
      have HU2 := Lib.hid hu2
      clear hu2
      generalize outk m k ++ d = u1 at *
      generalize outk m k = u0 at *
      have HD0 : Hid (Dl p k d n wr) := Lib.hid ⟨c0, c1⟩
      have HH := Lib.hid hpb
      have HQ := Lib.hid hp
      clear c0 c1 hpb hp
      go_upto_region 7 with fail
      refine wp_region_held_drew (S := fun W => Fs w W w.heap.size m ∧ Dl p k d n W) (by kernel_rfl) ⟨HR.out.drew, HD0.out⟩ (fun hS => ?_)
      have HH : Hid (p.block < wr.drew.heap.size) := HH
      clear HR HD0 c21
      generalize wr.drew = X0 at *
      refine H.tk (i := 0) (v := ?v0) ?h0 hS ?_
      case h0 => (intro w hw; go_simp; first | done | (with_reducible rfl))
      try simp only [Act.put, List.setIfInBounds_toArray, List.set_cons_zero, List.set_cons_succ]
      refine H.tk (i := 1) (v := ?v1) ?h1 hS ?_
      case h1 => (intro w hw; go_simp; first | done | (with_reducible rfl))
      try simp only [Act.put, List.setIfInBounds_toArray, List.set_cons_zero, List.set_cons_succ]
      refine H.tk (i := 2) (v := ?v2) ?h2 hS ?_
      case h2 => (intro w hw; have c := hw.1.m.cs.c21; rw [HQ.out] at c; go_simp; first | done | (with_reducible rfl))
      try simp only [Act.put, List.setIfInBounds_toArray, List.set_cons_zero, List.set_cons_succ]
      refine H.tk (i := 3) (v := ?v3) ?h3 hS ?_
      case h3 => (intro w hw; go_simp; first | done | (with_reducible rfl))
      try simp only [Act.put, List.setIfInBounds_toArray, List.set_cons_zero, List.set_cons_succ]
      refine H.tk (i := 4) (v := ?v4) ?h4 hS ?_
      case h4 => (intro w hw; go_simp; first | done | (with_reducible rfl))
      try simp only [Act.put, List.setIfInBounds_toArray, List.set_cons_zero, List.set_cons_succ]
      refine H.tk (i := 5) (v := ?v5) ?h5 hS ?_
      case h5 => (intro w hw; go_simp; first | done | (with_reducible rfl))
      try simp only [Act.put, List.setIfInBounds_toArray, List.set_cons_zero, List.set_cons_succ]
      refine H.tk (i := 6) (v := ?v6) ?h6 hS ?_
      case h6 => (intro w hw; have c := hw.2.1; go_simp; first | done | (with_reducible rfl))
      try simp only [Act.put, List.setIfInBounds_toArray, List.set_cons_zero, List.set_cons_succ]
      refine H.tk (i := 7) (v := ?v7) ?h7 hS ?_
      case h7 => (intro w hw; go_simp; first | done | (with_reducible rfl))
      try simp only [Act.put, List.setIfInBounds_toArray, List.set_cons_zero, List.set_cons_succ]
      refine H.tk (i := 8) (v := ?v8) ?h8 hS ?_
      case h8 => (intro w hw; go_simp; first | done | (with_reducible rfl))
      try simp only [Act.put, List.setIfInBounds_toArray, List.set_cons_zero, List.set_cons_succ]
      refine H.tk (i := 9) (v := ?v9) ?h9 hS ?_
      case h9 => (intro w hw; have c := hw.1.m.cs.c21; rw [HQ.out] at c; go_simp; first | done | (with_reducible rfl))
      try simp only [Act.put, List.setIfInBounds_toArray, List.set_cons_zero, List.set_cons_succ]
      refine H.tk (i := 10) (v := ?v10) ?h10 hS ?_
      case h10 => (intro w hw; go_simp; first | done | (with_reducible rfl))
      try simp only [Act.put, List.setIfInBounds_toArray, List.set_cons_zero, List.set_cons_succ]
      refine H.tk (i := 11) (v := ?v11) ?h11 hS ?_
      case h11 => (intro w hw; go_simp; first | done | (with_reducible rfl))
      try simp only [Act.put, List.setIfInBounds_toArray, List.set_cons_zero, List.set_cons_succ]
      refine H.tk (i := 12) (v := ?v12) ?h12 hS ?_
      case h12 => (intro w hw; go_simp; first | done | (with_reducible rfl))
      try simp only [Act.put, List.setIfInBounds_toArray, List.set_cons_zero, List.set_cons_succ]
      refine H.tk (i := 13) (v := ?v13) ?h13 hS ?_
      case h13 => (intro w hw; have c := hw.2.2; go_simp; first | done | (with_reducible rfl))
      try simp only [Act.put, List.setIfInBounds_toArray, List.set_cons_zero, List.set_cons_succ]
      refine wpAnyH_ready (rs := [14]) (by kernel_rfl) (by simp) ?_
      refine AllReadyH.cons rfl (fun K hK => ?_) AllReadyH.nil
      go_simp
      refine (PO.out _).mono ?_
      rintro e X1 ⟨rfl, hb⟩
      have hS1 : Fs w X1 w.heap.size m ∧ Dl p k d n X1 := ⟨hS.1.call hb, hS.2.below hb HH.out⟩
      refine hK.out _ _ hS1 (fun _ => ?_)
      clear hK K hb hS
      have hS := hS1
      clear hS1
      try simp only [Act.put, List.setIfInBounds_toArray, List.set_cons_zero, List.set_cons_succ]
      refine H.tk (i := 15) (v := ?v15) ?h15 hS ?_
      case h15 => (intro w hw; go_simp; first | done | (with_reducible rfl))
      try simp only [Act.put, List.setIfInBounds_toArray, List.set_cons_zero, List.set_cons_succ]
      refine H.tk (i := 16) (v := ?v16) ?h16 hS ?_
      case h16 => (intro w hw; go_simp; first | done | (with_reducible rfl))
      try simp only [Act.put, List.setIfInBounds_toArray, List.set_cons_zero, List.set_cons_succ]
      refine wpAnyH_done (by kernel_rfl) ?_ _
      have HR := Lib.hid hS.1
      clear cat1 cat2 ix hS
      go_wp2
      go_roundw
      case rel => exact ⟨k + 1, hlt, by go_num, by rw [HU2.out], HR⟩
      case measure => simp [intOf]; omega
    · obtain rfl : k = m.ll.length := by omega
      have hz := HZ.out m.ll.length
      generalize outk m m.ll.length = u0 at *
      have c24 := HR.out.m.cs.c24
      go_wp2_with fail
      refine (P2.out _ HR.out.i).mono ?_
      rintro e V3 ⟨rfl, hb⟩
      have HF := Lib.hid (HR.out.call hb)
      clear hb P2 c24 c21 HR
      go_wp2
      go_ret2
      exact ⟨pair_eq (HE.out.trans HP.out.symm) HK.out.symm, HF.out.bel⟩
end Go.Proofs.Ytlelfapmleopaaa.Y5
