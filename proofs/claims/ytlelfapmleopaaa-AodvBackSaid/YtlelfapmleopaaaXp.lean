/-
  The bytes of extensions: the program's Right and Put, the document's. Condition: at most 2000 extensions.
-/
import Derived.Test.YtlelfapmleopaaaXc
import Derived.Test.YtlelfapmleopaaaP9
namespace Go.Proofs.Ytlelfapmleopaaa.Xp
open Go.ChangeShapes Go.WideShapes Go.ChangeAt Go.RowKit
open Go.Proofs.Ytlelfapmleopaaa.Ms
open Go.Proofs.Ytlelfapmleopaaa.Xv
open Go.Proofs.Ytlelfapmleopaaa.Sx
open Go.Proofs.Ytlelfapmleopaaa.Sb (Bld)
open Go.Proofs.Ytlelfapmleopaaa.Hs
open Go.Proofs.Ytlelfapmleopaaa.Hx
open Go.Proofs.Ytlelfapmleopaaa.Cnt
open Go.Proofs.Ytlelfapmleopaaa.Bk (Bk Sh loadVarK wpList_builtK wpList_loadK wpList_storeK run_loadK below_setRow)
set_option linter.unusedVariables false
set_option maxRecDepth 100000
set_option maxRecDepth 100000

/-- The bytes of extensions that may be; empty. -/
def putS (l : List El) : ByteArray := if okX l then ⟨(encX l).toArray⟩ else ⟨#[]⟩
theorem putS_yes {l : List El} (h : okX l = true) : putS l = ⟨(encX l).toArray⟩ := by unfold putS; rw [if_pos h]
theorem putS_no {l : List El} (h : okX l = false) : putS l = ⟨#[]⟩ := by unfold putS; rw [if_neg (by rw [h]; exact Bool.false_ne_true)]
theorem to8 (n : Int) (h0 : 0 ≤ n) (h1 : n ≤ 255) (W : World) : (convert 3 5 (.int .i64 n)).run Try.prog W = .ok (.int .u8 ((UInt8.ofNat n.toNat).toNat : Int)) W := by
  rw [run_convert_int W 3 5 .i64 n (by rw [Try.underlying3]; rfl) Try.underlying5]
  have hk : Try.prog.intKind 5 = .u8 := by kernel_rfl
  have e : ((UInt8.ofNat n.toNat).toNat : Int) = n := by rw [UInt8.toNat_ofNat']; omega
  have : (Try.prog.intKind 5).wrap n = n := by
    rw [hk]
    show n % 256 = n
    omega
  rw [this, hk, e]

set_option maxHeartbeats 1600000 in
theorem right_any (a : Option Addr) (c : Nat) (l : List El) (w : World) (hl : SRow w a l) (ln : l.length ≤ 1048576) (lb : ∀ x ∈ l, x.1.size ≤ 1099511627776) :
    Calls Try.prog 43 #[.slice a l.length c] w fun e w' => e = .returned (.bool (okX l)) ∧ Below w.heap.size w w' := by
  have P := Lib.hid (may_any a c l 0 255 w hl ln lb)
  clear lb
  go_enter Try.func43, Try.ntmps43
  go_wp2_with fail
  refine P.out.mono ?_
  rintro e w1 ⟨rfl, hb⟩
  go_wp2
  go_ret
  exact ⟨rfl, hb⟩
set_option maxHeartbeats 1600000 in
theorem rright_any (a : Option Addr) (c : Nat) (l : List El) (w : World) (hl : SRow w a l) (ln : l.length ≤ 1048576) (lb : ∀ x ∈ l, x.1.size ≤ 1099511627776) :
    Calls Try.prog 48 #[.slice a l.length c] w fun e w' => e = .returned (.bool (okX l)) ∧ Below w.heap.size w w' := by
  have P := Lib.hid (rmay_any a c l 0 255 w hl ln lb)
  clear lb
  go_enter Try.func48, Try.ntmps48
  go_wp2_with fail
  refine P.out.mono ?_
  rintro e w1 ⟨rfl, hb⟩
  go_wp2
  go_ret
  exact ⟨rfl, hb⟩

theorem pair_eq {s t : ByteArray} {b c : Bool} (h : s = t) (k : b = c) : Ending.returned (.tuple #[.string s, .bool b]) = .returned (.tuple #[.string t, .bool c]) := by rw [h, k]
theorem enc_take (l : List El) (k : Nat) (h : k < l.length) : encX (l.take (k + 1)) = encX (l.take k) ++ enc1 l[k] := by
  rw [List.take_succ_eq_append_getElem h, encX_append, encX_one]
theorem Bld.lt {B b : Nat} {l : List UInt8} {w : World} (h : Bld B b l w) : b < w.heap.size := by
  rcases h with ⟨_, v, h, _⟩ | ⟨_, v, h, _⟩
  · exact Sb.lt_of_some h
  · exact Sb.lt_of_some h
theorem neS : (52 : TypeId) ≠ 5 := by decide
theorem Bld.below {B b : Nat} {l : List UInt8} {w w' : World} (h : Bld B b l w) (hb : Below w.heap.size w w') : Bld B b l w' := Sb.bld_kept h hb

set_option maxHeartbeats 3200000 in
theorem put_any (a : Option Addr) (c : Nat) (l : List El) (w : World) (hl : SRow w a l) (ln : l.length ≤ 2000) (lb : ∀ x ∈ l, x.1.size ≤ 1099511627776) :
    Calls Try.prog 69 #[.slice a l.length c] w fun e w' => e = .returned (.tuple #[.string (putS l), .bool (okX l)]) ∧ Below w.heap.size w w' := by
  have P := Lib.hid (right_any a c l w hl (by omega) lb)
  have HL := Lib.hid hl
  clear lb hl
  by_cases hok : okX l = true
  rotate_left
  · have hok : okX l = false := by simpa using hok
    have HP := Lib.hid (putS_no hok)
    rw [hok] at P
    have HK := Lib.hid hok
    clear hok
    go_enter Try.func69, Try.ntmps69
    go_wp2_with fail
    refine P.out.mono ?_
    rintro e w1 ⟨rfl, hb⟩
    go_wp2
    go_ret2
    exact ⟨pair_eq HP.out.symm HK.out.symm, hb⟩
  have HP := Lib.hid (putS_yes hok)
  have HM := Lib.hid (okX_mem hok)
  have HN : Hid (bytesN l ≤ 514000) := Lib.hid (by have := bytes_most hok; omega)
  rw [hok] at P
  have HK := Lib.hid hok
  have HLn := Lib.hid ln
  clear hok ln
  go_enter Try.func69, Try.ntmps69
  go_wp2_with fail
  refine P.out.mono ?_
  rintro e w1 ⟨rfl, hb⟩
  have HB := Lib.hid hb
  clear hb P
  go_upto_region 4 with fail
  have HG := Lib.hid (Bk.Bk.new 89 w1 #[.pointer none, .slice none 0 0])
  have HS : Hid (w.heap.size ≤ w1.heap.size) := Lib.hid HB.out.size
  have HB := Lib.hid (HB.out.alloc HB.out.size (.cells #[.pointer none, .slice none 0 0] 89))
  generalize w1.alloc (.cells #[.pointer none, .slice none 0 0] 89) = W at *
  generalize w1.heap.size = g at *
  have PB := Lib.hid (bytes_any a c l W (HL.out.below HB.out) (by have := HLn.out; omega) (by have := HN.out; omega))
  go_wp2_with fail
  refine PB.out.mono ?_
  rintro e w2 ⟨rfl, hb⟩
  have HG := Lib.hid (HG.out.below hb)
  have HB := Lib.hid (bcall HB.out hb)
  clear hb PB
  go_wp2_with fail
  refine (Try.Builder_Grow_fresh w.heap.size g (bytesN l) w2 HS.out HG.out HB.out.size (by have := HN.out; omega)).mono ?_
  rintro e w3 ⟨rfl, hg, hb⟩
  have HW : Hid (Bld w.heap.size g (encX (l.take 0)) w3) := Lib.hid (.inr hg)
  have HB := Lib.hid (HB.out.trans hb)
  clear hb hg HG HS
  go_wp2
  go_loopw [15] (fun i wr => ∃ k : Nat, k ≤ l.length ∧ i = .int .i64 k ∧ Hid (Bld w.heap.size g (encX (l.take k)) wr) ∧ Hid (Below w.heap.size w wr)) (fun i _ => l.length - (intOf i).toNat)
  case atStart => exact ⟨0, Nat.zero_le _, rfl, HW, HB⟩
  case round =>
    obtain ⟨k, hk, rfl, HD, HR⟩ := hrel
    clear HW HB
    by_cases hlt : k < l.length
    · obtain ⟨p, rfl, hp, c0, c1⟩ := (HL.out.below HR.out) k hlt
      have HT := Lib.hid (enc_take l k hlt)
      have hk2 : (k : Int) ≤ 2000 := by have := HLn.out; omega
      have hm := HM.out _ (List.getElem_mem hlt)
      have hlen : (encX (l.take k)).length + 257 ≤ 1000000 := by
        rw [encX_len]
        have := bytes_le l k
        have := HN.out
        omega
      rw [add_one] at c1
      generalize l[k] = u at *
      generalize encX (l.take k) = bs at *
      obtain ⟨d, n⟩ := u
      obtain ⟨h0, h1, h2⟩ := hm
      simp only [] at h0 h1 h2 c0 c1
      have v0 := to8 n h0 h1
      have v1 := to8 (d.size : Int) (by omega) (by omega)
      have HT : Hid (encX (l.take (k + 1)) = bs ++ [UInt8.ofNat n.toNat] ++ [UInt8.ofNat (d.size : Int).toNat] ++ d.data.toList) := Lib.hid (by
        rw [HT.out, List.append_assoc, List.append_assoc]
        rfl)
      generalize UInt8.ofNat n.toNat = cn at *
      generalize UInt8.ofNat (d.size : Int).toNat = cd at *
      have hl1 := Lib.hid hlen
      have HDo := HD
      clear hlen
      have HX := Lib.hid (Bk.Bk.new 52 wr (cellsS (d, n)))
      have HD := Lib.hid (Bld.below HD.out (balloc (Below.refl _ wr) (.cells (cellsS (d, n)) 52)))
      have HG : Hid (wr.heap.size ≠ g) := Lib.hid (by have := Bld.lt HDo.out; omega)
      have HR := Lib.hid (HR.out.alloc HR.out.size (.cells (cellsS (d, n)) 52))
      clear HDo
      go_upto_region 8 with fail
      change Code.wp _ _ _ _ (wr.alloc (.cells (cellsS (d, n)) 52))
      generalize wr.alloc (.cells (cellsS (d, n)) 52) = W at *
      generalize wr.heap.size = q at *
      clear c0 c1 hp
      have c0 := HX.out.cell 0 (.int .i64 n) rfl
      go_wp2_with fail
      refine (Sb.byte_any w.heap.size g bs cn W HD.out (by have := hl1.out; omega) HR.out.size).mono ?_
      rintro e w4 ⟨rfl, hd, hb, ho⟩
      have HD := Lib.hid hd
      have HR := Lib.hid (HR.out.trans hb)
      have HX : Hid (Bk 52 _ q (cellsS (d, n))) := Lib.hid (ho q 52 _ HG.out neS HX.out)
      clear hd hb ho c0
      have c1 := HX.out.cell 1 (.string d) rfl
      go_wp2_with fail
      refine (Sb.byte_any w.heap.size g _ cd _ HD.out (by have := hl1.out; simp; omega) HR.out.size).mono ?_
      rintro e w5 ⟨rfl, hd, hb, ho⟩
      have HD := Lib.hid hd
      have HR := Lib.hid (HR.out.trans hb)
      have HX : Hid (Bk 52 _ q (cellsS (d, n))) := Lib.hid (ho q 52 _ HG.out neS HX.out)
      clear hd hb ho c1
      have c1 := HX.out.cell 1 (.string d) rfl
      go_wp2_with fail
      refine (Sb.str_any w.heap.size g _ d _ HD.out (by have := hl1.out; simp; omega) HR.out.size).mono ?_
      rintro e w6 ⟨rfl, hd, hb, ho⟩
      have HD : Hid (Bld w.heap.size g (encX (l.take (k + 1))) w6) := Lib.hid (by
        rw [HT.out]
        exact hd)
      have HR := Lib.hid (HR.out.trans hb)
      clear hd hb ho c1 HX
      go_wp2
      go_roundw
      case rel => exact ⟨k + 1, hlt, by go_num, HD, HR⟩
      case measure => simp [intOf]; omega
    · obtain rfl : k = l.length := by omega
      rw [List.take_length] at HD
      go_wp2_with fail
      refine (Sb.text_any w.heap.size g _ wr HD.out HR.out.size).mono ?_
      rintro e w4 ⟨rfl, hb⟩
      have HR := Lib.hid (HR.out.trans hb)
      clear hb HD
      go_wp2
      go_ret2
      exact ⟨pair_eq HP.out.symm HK.out.symm, HR.out⟩
end Go.Proofs.Ytlelfapmleopaaa.Xp
