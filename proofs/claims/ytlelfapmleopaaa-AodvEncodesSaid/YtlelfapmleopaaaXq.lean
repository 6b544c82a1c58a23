/-
  The document's bytes of extensions. Condition: at most 2000 extensions.
-/
import Derived.Test.YtlelfapmleopaaaXp
namespace Go.Proofs.Ytlelfapmleopaaa.Xq
open Go.ChangeShapes Go.WideShapes Go.ChangeAt Go.RowKit
open Go.Proofs.Ytlelfapmleopaaa.Ms
open Go.Proofs.Ytlelfapmleopaaa.Xv
open Go.Proofs.Ytlelfapmleopaaa.Sx
open Go.Proofs.Ytlelfapmleopaaa.Xp
open Go.Proofs.Ytlelfapmleopaaa.Hs
open Go.Proofs.Ytlelfapmleopaaa.Hx
open Go.Proofs.Ytlelfapmleopaaa.Cnt
set_option linter.unusedVariables false
set_option maxRecDepth 100000
set_option maxRecDepth 100000

theorem build_two (c d : Int) (w : World) : (Instr.buildSlice 59 2 #[(0, .int .u8 c), (1, .int .u8 d)]).run Try.prog w = .ok (.slice (some ⟨w.heap.size, 0, none⟩) 2 2) (w.alloc (.cells #[.int .u8 c, .int .u8 d] 5)) := by
  kernel_rfl
theorem ex_bsB {o : Oper} {ρ : Operand → Value} {x y : Operand} {c d : Int} {w : World} (ho : o.op = .buildSlice 59 2 #[(0, x), (1, y)]) (hx : ρ x = .int .u8 c) (h1 : ρ y = .int .u8 d) :
    (execOp ρ o).run Try.prog w = .ok (.value (.slice (some ⟨w.heap.size, 0, none⟩) 2 2)) (w.alloc (.cells #[.int .u8 c, .int .u8 d] 5)) := by
  have e : ((#[(0, x), (1, y)] : Array (Nat × Operand)).map fun (i, x) => (i, ρ x)) = #[(0, .int .u8 c), (1, .int .u8 d)] := by simp [hx, h1]
  unfold execOp
  simp only [ho, Sem.run_bind, e, build_two, Result.andThen_ok, Sem.run_pure]
theorem conv_two (c d : UInt8) (w : World) : (convert 59 9 (.slice (some ⟨w.heap.size, 0, none⟩) 2 2)).run Try.prog (w.alloc (.cells #[.int .u8 (c.toNat : Int), .int .u8 (d.toNat : Int)] 5)) = .ok (.string ⟨#[c, d]⟩) (w.alloc (.cells #[.int .u8 (c.toNat : Int), .int .u8 (d.toNat : Int)] 5)) := by
  refine run_convert_bytes_back _ 59 9 5 ⟨w.heap.size, 0, none⟩ 2 [c, d] Try.underlying59 Try.underlying5 Try.underlying9 fun j hj => ?_
  have hB := Bk.Bk.new 5 w #[.int .u8 (c.toNat : Int), .int .u8 (d.toNat : Int)]
  rw [add_at, Nat.zero_add]
  match j, hj with
  | 0, _ => exact hB.cell 0 _ rfl
  | 1, _ => exact hB.cell 1 _ rfl
theorem ex_conv {o : Oper} {ρ : Operand → Value} {x : Operand} {v u : Value} {w : World} (ho : o.op = .convert 59 9 x) (hx : ρ x = v) (h : (convert 59 9 v).run Try.prog w = .ok u w) :
    (execOp ρ o).run Try.prog w = .ok (.value u) w := by
  unfold execOp
  simp only [ho, hx, Sem.run_bind, h, Result.andThen_ok, Sem.run_pure]
theorem cat_at (x y z : List UInt8) (hx : x.length ≤ 1000000) (hy : y.length ≤ 1000000) (e : x ++ y = z) (W : World) : (Op.stringOp .add ⟨x.toArray⟩ ⟨y.toArray⟩).run Try.prog W = .ok (.string ⟨z.toArray⟩) W := by
  subst e
  rw [run_string_add_sum W _ _ (by show x.toArray.size + y.toArray.size ≤ _; simp; omega)]
  have : (⟨x.toArray⟩ : ByteArray) ++ ⟨y.toArray⟩ = ⟨(x ++ y).toArray⟩ := ByteArray.ext (by simp)
  rw [this]

section
variable {P : Program} {ops : Array Oper} {Q : Exit → Act → World → Prop} {md : Region.Mode} {S : World → Prop}
theorem H.val {i d : Nat} {o : Oper} {fuel : Nat} {listed : Array Bool} {a : Act} {w : World} {v : Value} {w' : World}
    (ho : ops[i]? = some o) (hw : Region.wanted o (yielded ops a.tmps) = true) (hr : Region.ready md ops listed = [i]) (hd : o.dst = some d)
    (hy : (execOp a.eval o).run P w = .ok (.value v) w') (hS : S w')
    (h : wpAnyH P md ops Q S fuel (listed.setIfInBounds i true) (a.put (some d) v) w') : wpAnyH P md ops Q S (fuel + 1) listed a w := by
  refine H.one ho hw hr (fun K hK => ?_)
  unfold Oper.wp
  rw [hy]
  simp only [Oper.upon, hd]
  exact hK.out _ _ hS h
end

/-- What the loads read. -/
def Sl (p : Addr) (k : Nat) (d : ByteArray) (n : Int) (W : World) : Prop := W.cell? (p.add (k * 2)) = some (.int .i64 n) ∧ W.cell? ⟨(p.add (k * 2)).block, (p.add (k * 2)).off + 1, none⟩ = some (.string d)
theorem Sl.below {p : Addr} {k : Nat} {d : ByteArray} {n : Int} {w w' : World} (h : Sl p k d n w) (hb : Below w.heap.size w w') (hp : p.block < w.heap.size) : Sl p k d n w' :=
  ⟨by rw [hb.cell (by rw [add_block]; exact hp)]; exact h.1, by rw [hb.cell (by show (p.add (k * 2)).block < _; rw [add_block]; exact hp)]; exact h.2⟩

set_option maxHeartbeats 6400000 in
theorem rput_any (a : Option Addr) (c : Nat) (l : List El) (w : World) (hl : SRow w a l) (ln : l.length ≤ 2000) (lb : ∀ x ∈ l, x.1.size ≤ 1099511627776) :
    Calls Try.prog 52 #[.slice a l.length c] w fun e w' => e = .returned (.tuple #[.string (putS l), .bool (okX l)]) ∧ Below w.heap.size w w' := by
  have P := Lib.hid (rright_any a c l w hl (by omega) lb)
  have HL := Lib.hid hl
  clear lb hl
  by_cases hok : okX l = true
  rotate_left
  · have hok : okX l = false := by simpa using hok
    have HP := Lib.hid (putS_no hok)
    rw [hok] at P
    have HK := Lib.hid hok
    clear hok
    go_enter Try.func52, Try.ntmps52
    go_wp2_with fail
    refine P.out.mono ?_
    rintro e w1 ⟨rfl, hb⟩
    go_wp2
    go_ret2
    exact ⟨pair_eq HP.out.symm HK.out.symm, hb⟩
  have HP := Lib.hid (putS_yes hok)
  have HM := Lib.hid (okX_mem hok)
  have HN : Hid (bytesN l ≤ 514000) := Lib.hid (by have := bytes_most hok; omega)
  rw [hok] at P
  have HK := Lib.hid hok
  have HLn := Lib.hid ln
  clear hok ln
  go_enter Try.func52, Try.ntmps52
  go_wp2_with fail
  refine P.out.mono ?_
  rintro e w1 ⟨rfl, hb⟩
  have HB := Lib.hid hb
  clear hb P
  go_wp2
  go_loopw [4, 5] (fun s i wr => ∃ k : Nat, k ≤ l.length ∧ i = .int .i64 k ∧ s = .string ⟨(encX (l.take k)).toArray⟩ ∧ Hid (Below w.heap.size w wr)) (fun _ i _ => l.length - (intOf i).toNat)
  case atStart => exact ⟨0, Nat.zero_le _, rfl, rfl, HB⟩
  case round =>
    obtain ⟨k, hk, rfl, rfl, HR⟩ := hrel
    clear HB
    have hk2 : (k : Int) ≤ 2000 := by have := HLn.out; omega
    by_cases hlt : k < l.length
    · obtain ⟨p, rfl, hp, c0, c1⟩ := (HL.out.below HR.out) k hlt
      have HT := Lib.hid (enc_take l k hlt)
      have hm := HM.out _ (List.getElem_mem hlt)
      have hlen : (encX (l.take k)).length + 257 ≤ 1000000 := by
        rw [encX_len]
        have := bytes_le l k
        have := HN.out
        omega
      have ix := fun W => indexS p l.length c k hlt W
      rw [add_one] at c1
      generalize l[k] = u at *
      generalize encX (l.take k) = bs at *
      obtain ⟨d, n⟩ := u
      obtain ⟨h0, h1, h2⟩ := hm
      simp only [] at h0 h1 h2 c0 c1
      have v0 := to8 n h0 h1
      have v1 := to8 (d.size : Int) (by omega) (by omega)
      have HT : Hid (encX (l.take (k + 1)) = (bs ++ [UInt8.ofNat n.toNat, UInt8.ofNat (d.size : Int).toNat]) ++ d.data.toList) := Lib.hid (by
        rw [HT.out, List.append_assoc]
        rfl)
      generalize UInt8.ofNat n.toNat = cn at *
      generalize UInt8.ofNat (d.size : Int).toNat = cd at *
      have cat1 := cat_at bs [cn, cd] (bs ++ [cn, cd]) (by omega) (by simp) rfl
      have cat2 := cat_at (bs ++ [cn, cd]) d.data.toList _ (by simp; omega) (by simp; omega) HT.out.symm
      have ed : (⟨d.data.toList.toArray⟩ : ByteArray) = d := by cases d; simp
      rw [ed] at cat2
      have HS0 : Hid (Sl p k d n wr) := Lib.hid ⟨c0, c1⟩
      have HH := Lib.hid hp
      have hkl : (k : Int) < (l.length : Int) := by omega
      clear hlen ed c0 c1 hp
      generalize hz2 : (⟨(encX (l.take (k + 1))).toArray⟩ : ByteArray) = z2 at *
      have HZ2 := Lib.hid hz2
      clear hz2
      generalize (⟨bs.toArray⟩ : ByteArray) = z0 at *
      generalize (⟨(bs ++ [cn, cd]).toArray⟩ : ByteArray) = z1 at *
      have cv := conv_two cn cd
      generalize (⟨[cn, cd].toArray⟩ : ByteArray) = z at *
      go_upto_region 7 with fail
      refine wp_region_held_drew (S := Sl p k d n) (by kernel_rfl) HS0.out (fun hS => ?_)
      have HR := Lib.hid HR.out.drew
      have HH : Hid (p.block < wr.drew.heap.size) := HH
      clear HS0
      generalize wr.drew = V at *
      refine H.tk (i := 0) (v := ?v0) ?h0 hS ?_
      case h0 => (intro w hw; go_simp; first | done | (with_reducible rfl))
      try simp only [Act.put, List.setIfInBounds_toArray, List.set_cons_zero, List.set_cons_succ]
      refine H.tk (i := 1) (v := ?v1) ?h1 hS ?_
      case h1 => (intro w hw; go_simp; first | done | (with_reducible rfl))
      try simp only [Act.put, List.setIfInBounds_toArray, List.set_cons_zero, List.set_cons_succ]
      refine H.tk (i := 2) (v := ?v2) ?h2 hS ?_
      case h2 => (intro w hw; go_simp; first | done | (with_reducible rfl))
      try simp only [Act.put, List.setIfInBounds_toArray, List.set_cons_zero, List.set_cons_succ]
      refine H.tk (i := 3) (v := ?v3) ?h3 hS ?_
      case h3 => (intro w hw; go_simp; first | done | (with_reducible rfl))
      try simp only [Act.put, List.setIfInBounds_toArray, List.set_cons_zero, List.set_cons_succ]
      refine H.tk (i := 4) (v := ?v4) ?h4 hS ?_
      case h4 => (intro w hw; go_simp; first | done | (with_reducible rfl))
      try simp only [Act.put, List.setIfInBounds_toArray, List.set_cons_zero, List.set_cons_succ]
      refine H.tk (i := 5) (v := ?v5) ?h5 hS ?_
      case h5 => (intro w hw; obtain ⟨c0, c1⟩ := hw; go_simp; first | done | (with_reducible rfl))
      try simp only [Act.put, List.setIfInBounds_toArray, List.set_cons_zero, List.set_cons_succ]
      refine H.tk (i := 6) (v := ?v6) ?h6 hS ?_
      case h6 => (intro w hw; go_simp; first | done | (with_reducible rfl))
      try simp only [Act.put, List.setIfInBounds_toArray, List.set_cons_zero, List.set_cons_succ]
      refine H.tk (i := 7) (v := ?v7) ?h7 hS ?_
      case h7 => (intro w hw; go_simp; first | done | (with_reducible rfl))
      try simp only [Act.put, List.setIfInBounds_toArray, List.set_cons_zero, List.set_cons_succ]
      refine H.tk (i := 8) (v := ?v8) ?h8 hS ?_
      case h8 => (intro w hw; go_simp; first | done | (with_reducible rfl))
      try simp only [Act.put, List.setIfInBounds_toArray, List.set_cons_zero, List.set_cons_succ]
      refine H.tk (i := 9) (v := ?v9) ?h9 hS ?_
      case h9 => (intro w hw; go_simp; first | done | (with_reducible rfl))
      try simp only [Act.put, List.setIfInBounds_toArray, List.set_cons_zero, List.set_cons_succ]
      refine H.tk (i := 10) (v := ?v10) ?h10 hS ?_
      case h10 => (intro w hw; go_simp; first | done | (with_reducible rfl))
      try simp only [Act.put, List.setIfInBounds_toArray, List.set_cons_zero, List.set_cons_succ]
      refine H.tk (i := 11) (v := ?v11) ?h11 hS ?_
      case h11 => (intro w hw; obtain ⟨c0, c1⟩ := hw; go_simp; first | done | (with_reducible rfl))
      try simp only [Act.put, List.setIfInBounds_toArray, List.set_cons_zero, List.set_cons_succ]
      refine H.tk (i := 12) (v := ?v12) ?h12 hS ?_
      case h12 => (intro w hw; go_simp; first | done | (with_reducible rfl))
      try simp only [Act.put, List.setIfInBounds_toArray, List.set_cons_zero, List.set_cons_succ]
      refine H.tk (i := 13) (v := ?v13) ?h13 hS ?_
      case h13 => (intro w hw; go_simp; first | done | (with_reducible rfl))
      try simp only [Act.put, List.setIfInBounds_toArray, List.set_cons_zero, List.set_cons_succ]
      refine H.tk (i := 17) (v := ?v17) ?h17 hS ?_
      case h17 => (intro w hw; go_simp; first | done | (with_reducible rfl))
      try simp only [Act.put, List.setIfInBounds_toArray, List.set_cons_zero, List.set_cons_succ]
      refine H.tk (i := 18) (v := ?v18) ?h18 hS ?_
      case h18 => (intro w hw; go_simp; first | done | (with_reducible rfl))
      try simp only [Act.put, List.setIfInBounds_toArray, List.set_cons_zero, List.set_cons_succ]
      refine H.tk (i := 19) (v := ?v19) ?h19 hS ?_
      case h19 => (intro w hw; go_simp; first | done | (with_reducible rfl))
      try simp only [Act.put, List.setIfInBounds_toArray, List.set_cons_zero, List.set_cons_succ]
      refine H.tk (i := 20) (v := ?v20) ?h20 hS ?_
      case h20 => (intro w hw; go_simp; first | done | (with_reducible rfl))
      try simp only [Act.put, List.setIfInBounds_toArray, List.set_cons_zero, List.set_cons_succ]
      refine H.tk (i := 21) (v := ?v21) ?h21 hS ?_
      case h21 => (intro w hw; obtain ⟨c0, c1⟩ := hw; go_simp; first | done | (with_reducible rfl))
      try simp only [Act.put, List.setIfInBounds_toArray, List.set_cons_zero, List.set_cons_succ]
      refine H.val (i := 14) (d := 29) (by simp only [List.getElem?_toArray, List.getElem?_cons_succ, List.getElem?_cons_zero]; rfl) (by kernel_rfl) (by kernel_rfl) rfl (ex_bsB (c := (cn.toNat : Int)) (d := (cd.toNat : Int)) rfl rfl rfl) (hS.below (balloc (Below.refl _ V) _) HH.out) ?_
      try simp only [Act.put, List.setIfInBounds_toArray, List.set_cons_zero, List.set_cons_succ]
      have hS := hS.below (balloc (Below.refl _ V) (.cells #[.int .u8 (cn.toNat : Int), .int .u8 (cd.toNat : Int)] 5)) HH.out
      have HR := Lib.hid (HR.out.alloc HR.out.size (.cells #[.int .u8 (cn.toNat : Int), .int .u8 (cd.toNat : Int)] 5))
      have cv := cv V
      generalize V.alloc (.cells #[.int .u8 (cn.toNat : Int), .int .u8 (cd.toNat : Int)] 5) = V2 at *
      refine H.val (i := 15) (d := 30) (by simp only [List.getElem?_toArray, List.getElem?_cons_succ, List.getElem?_cons_zero]; rfl) (by kernel_rfl) (by kernel_rfl) rfl (ex_conv (x := .tmp 29) rfl rfl cv) hS ?_
      try simp only [Act.put, List.setIfInBounds_toArray, List.set_cons_zero, List.set_cons_succ]
      refine H.tk (i := 16) (v := ?v16) ?h16 hS ?_
      case h16 => (intro w hw; go_simp; first | done | (with_reducible rfl))
      try simp only [Act.put, List.setIfInBounds_toArray, List.set_cons_zero, List.set_cons_succ]
      refine H.tk (i := 22) (v := ?v22) ?h22 hS ?_
      case h22 => (intro w hw; go_simp; first | done | (with_reducible rfl))
      try simp only [Act.put, List.setIfInBounds_toArray, List.set_cons_zero, List.set_cons_succ]
      refine H.tk (i := 23) (v := ?v23) ?h23 hS ?_
      case h23 => (intro w hw; go_simp; first | done | (with_reducible rfl))
      try simp only [Act.put, List.setIfInBounds_toArray, List.set_cons_zero, List.set_cons_succ]
      refine wpAnyH_done (by kernel_rfl) ?_ _
      clear cv cat1 cat2 v0 v1 ix hS
      go_wp2
      go_roundw
      case rel => exact ⟨k + 1, hlt, by go_num, by rw [HZ2.out], HR⟩
      case measure => simp [intOf]; omega
    · obtain rfl : k = l.length := by omega
      rw [List.take_length]
      go_wp2
      go_ret2
      exact ⟨pair_eq HP.out.symm HK.out.symm, HR.out⟩
end Go.Proofs.Ytlelfapmleopaaa.Xq
