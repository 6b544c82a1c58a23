/-
  The bytes of Subs: the program's Put. Condition: at most 2000 Subs.
-/
import Derived.Test.YtkhdllhlhpkekaaDoorS2
import Derived.Test.YtkhdllhlhpkekaaDoorP5
import Derived.Test.YtkhdllhlhpkekaaDoorP9
import Derived.Test.YtkhdllhlhpkekaaDoorF6
namespace Go.Proofs.YtkhdllhlhpkekaaDoor.S3
open Go.ChangeShapes Go.WideShapes Go.ChangeAt Go.RowKit
open Go.Proofs.YtkhdllhlhpkekaaDoor.Ms
open Go.Proofs.YtkhdllhlhpkekaaDoor.Cnt
open Go.Proofs.YtkhdllhlhpkekaaDoor.S1
open Go.Proofs.YtkhdllhlhpkekaaDoor.S2
open Go.Proofs.YtkhdllhlhpkekaaDoor.F1 (enc1 encT encT_append encT_snoc enc1_len putB putO put_ok)
open Go.Proofs.YtkhdllhlhpkekaaDoor.F6 (PutIs)
open Go.Proofs.YtkhdllhlhpkekaaDoor.Sx (cellsS)
open Go.Proofs.YtkhdllhlhpkekaaDoor.Sb (Bld)
open Go.Proofs.YtkhdllhlhpkekaaDoor.Bk (Bk)
set_option linter.unusedVariables false
set_option maxRecDepth 100000
set_option maxRecDepth 100000

theorem pair_eq {s t : ByteArray} {b c : Bool} (h : s = t) (k : b = c) : Ending.returned (.tuple #[.string s, .bool b]) = .returned (.tuple #[.string t, .bool c]) := by rw [h, k]
theorem enc_take (l : List El) (k : Nat) (h : k < l.length) : encT (l.take (k + 1)) = encT (l.take k) ++ enc1 l[k] := by
  rw [List.take_succ_eq_append_getElem h, encT_snoc]
theorem enc_most {l : List El} (h : okS l = true) (k : Nat) : (encT (l.take k)).length ≤ 200 := by
  have h2 := okS_take h k
  rw [enc_len (okS_may h2)]
  exact okS_size h2
theorem Bld.lt {B b : Nat} {l : List UInt8} {w : World} (h : Bld B b l w) : b < w.heap.size := by
  rcases h with ⟨_, v, h, _⟩ | ⟨_, v, h, _⟩
  · exact Sb.lt_of_some h
  · exact Sb.lt_of_some h
theorem Bld.below {B b : Nat} {l : List UInt8} {w w' : World} (h : Bld B b l w) (hb : Below w.heap.size w w') : Bld B b l w' := Sb.bld_kept h hb
/-- What layer 18's Put says of a Sub that may be. -/
theorem tlv_of {x : El} (h0 : 2 ≤ x.2) (h1 : x.2 ≤ 127) (h2 : x.1.size ≤ 255) {w w' : World} {e : Ending} (h : PutIs x.2 x.1 w e w') :
    e = .returned (.tuple #[.string ⟨(enc1 x).toArray⟩, .bool true]) ∧ Below w.heap.size w w' := by
  obtain ⟨h3, h4⟩ := h
  obtain ⟨a, b⟩ := put_ok (x := x) ⟨by omega, by omega, h2, fun h => by omega⟩ (by omega)
  rw [a, b] at h3
  exact ⟨h3, h4⟩

set_option maxHeartbeats 3200000 in
theorem put_any (a : Option Addr) (c : Nat) (l : List El) (w : World) (hl : SRow w a l) (ln : l.length ≤ 2000) (lb : ∀ x ∈ l, x.1.size ≤ 1099511627776) :
    Calls Tryd.prog 26 #[.slice a l.length c] w fun e w' => e = .returned (.tuple #[.string (putS l), .bool (okS l)]) ∧ Below w.heap.size w w' := by
  have P := Lib.hid (right_any a c l w hl (by omega) lb)
  have HL := Lib.hid hl
  clear lb hl
  by_cases hok : okS l = true
  rotate_left
  · have hok : okS l = false := by simpa using hok
    have HP := Lib.hid (putS_no hok)
    rw [hok] at P
    have HK := Lib.hid hok
    clear hok
    go_enter Tryd.func26, Tryd.ntmps26
    go_wp2_with fail
    refine P.out.mono ?_
    rintro e w1 ⟨rfl, hb⟩
    go_wp2
    go_ret2
    exact ⟨pair_eq HP.out.symm HK.out.symm, hb⟩
  have HP := Lib.hid (putS_yes hok)
  have HM := Lib.hid (may_mem (okS_may hok))
  have HN := Lib.hid (enc_most hok)
  have HS := Lib.hid (okS_size hok)
  rw [hok] at P
  have HK := Lib.hid hok
  have HLn := Lib.hid ln
  clear hok ln
  go_enter Tryd.func26, Tryd.ntmps26
  go_wp2_with fail
  refine P.out.mono ?_
  rintro e w1 ⟨rfl, hb⟩
  have HB := Lib.hid hb
  clear hb P
  go_upto_region 4 with fail
  have HG := Lib.hid (Bk.Bk.new 97 w1 #[.pointer none, .slice none 0 0])
  have HSz : Hid (w.heap.size ≤ w1.heap.size) := Lib.hid HB.out.size
  have HB := Lib.hid (HB.out.alloc HB.out.size (.cells #[.pointer none, .slice none 0 0] 97))
  generalize w1.alloc (.cells #[.pointer none, .slice none 0 0] 97) = W at *
  generalize w1.heap.size = g at *
  have PB := Lib.hid (bytes_any a c l W (HL.out.below HB.out) (by have := HLn.out; omega) (by have := HS.out; omega))
  go_wp2_with fail
  refine PB.out.mono ?_
  rintro e w2 ⟨rfl, hb⟩
  have HG := Lib.hid (HG.out.below hb)
  have HB := Lib.hid (bcall HB.out hb)
  clear hb PB
  go_wp2_with fail
  refine (Tryd.Builder_Grow_fresh w.heap.size g (bytesN l) w2 HSz.out HG.out HB.out.size (by have := HS.out; omega)).mono ?_
  rintro e w3 ⟨rfl, hg, hb⟩
  have HW : Hid (Bld w.heap.size g (encT (l.take 0)) w3) := Lib.hid (.inr hg)
  have HB := Lib.hid (HB.out.trans hb)
  clear hb hg HG HSz
  go_wp2
  go_loopw [17] (fun i wr => ∃ k : Nat, k ≤ l.length ∧ i = .int .i64 k ∧ Hid (Bld w.heap.size g (encT (l.take k)) wr) ∧ Hid (Below w.heap.size w wr)) (fun i _ => l.length - (intOf i).toNat)
  case atStart => exact ⟨0, Nat.zero_le _, rfl, HW, HB⟩
  case round =>
    obtain ⟨k, hk, rfl, HD, HR⟩ := hrel
    clear HW HB
    by_cases hlt : k < l.length
    · obtain ⟨p, rfl, hp, c0, c1⟩ := (HL.out.below HR.out) k hlt
      have HT := Lib.hid (enc_take l k hlt)
      have hk2 : (k : Int) ≤ 2000 := by have := HLn.out; omega
      have hm := HM.out _ (List.getElem_mem hlt)
      have HL1 := Lib.hid (HN.out k)
      have HL2 := Lib.hid (HN.out (k + 1))
      rw [add_one] at c1
      generalize l[k] = u at *
      generalize encT (l.take k) = bs at *
      obtain ⟨d, n⟩ := u
      obtain ⟨h0, h1, h2⟩ := hm
      simp only [] at h0 h1 h2 c0 c1
      have PP := Lib.hid (fun V => (F6.put_any n d V (by omega)).mono fun e w' h => tlv_of (x := (d, n)) h0 h1 h2 h)
      generalize hz : (⟨(enc1 (d, n)).toArray⟩ : ByteArray) = z at *
      have HT : Hid (encT (l.take (k + 1)) = bs ++ z.data.toList) := Lib.hid (by rw [HT.out, ← hz])
      have HL2 : Hid (bs.length + z.size ≤ 200) := Lib.hid (by
        have := HL2.out
        rw [HT.out, List.length_append] at this
        simpa using this)
      clear hz h0 h1 h2
      have HDo := HD
      have HX := Lib.hid (Bk.Bk.new 58 wr (cellsS (d, n)))
      have HD := Lib.hid (Bld.below HD.out (balloc (Below.refl _ wr) (.cells (cellsS (d, n)) 58)))
      have HR := Lib.hid (HR.out.alloc HR.out.size (.cells (cellsS (d, n)) 58))
      clear HDo
      go_upto_region 8 with fail
      change Code.wp _ _ _ _ (wr.alloc (.cells (cellsS (d, n)) 58))
      generalize wr.alloc (.cells (cellsS (d, n)) 58) = W at *
      generalize wr.heap.size = q at *
      clear c0 c1 hp
      have c0 := HX.out.cell 0 (.int .i64 n) rfl
      have c1 := HX.out.cell 1 (.string d) rfl
      go_wp2_with fail
      refine (PP.out _).mono ?_
      rintro e w4 ⟨rfl, hb⟩
      have HD := Lib.hid (Bld.below HD.out hb)
      have HR := Lib.hid (bcall HR.out hb)
      clear hb c0 c1 HX PP
      go_wp2_with fail
      refine (Sb.str_any w.heap.size g bs z _ HD.out (by have := HL2.out; omega) HR.out.size).mono ?_
      rintro e w6 ⟨rfl, hd, hb, ho⟩
      have HD : Hid (Bld w.heap.size g (encT (l.take (k + 1))) w6) := Lib.hid (by
        rw [HT.out]
        exact hd)
      have HR := Lib.hid (HR.out.trans hb)
      clear hd hb ho
      go_wp2
      go_roundw
      case rel => exact ⟨k + 1, hlt, by go_num, HD, HR⟩
      case measure => simp [intOf]; omega
    · obtain rfl : k = l.length := by omega
      rw [List.take_length] at HD
      go_wp2_with fail
      refine (Sb.text_any w.heap.size g _ wr HD.out HR.out.size).mono ?_
      rintro e w4 ⟨rfl, hb⟩
      have HR := Lib.hid (HR.out.trans hb)
      clear hb HD
      go_wp2
      go_ret2
      exact ⟨pair_eq HP.out.symm HK.out.symm, HR.out⟩
end Go.Proofs.YtkhdllhlhpkekaaDoor.S3
