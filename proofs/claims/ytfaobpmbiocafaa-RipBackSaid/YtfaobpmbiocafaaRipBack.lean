/-
  The statement RipBack, of any list of messages, cut off anywhere. No conditions.
-/
import Derived.Test.YtfaobpmbiocafaaOpen
import Derived.Test.YtfaobpmbiocafaaAw
import Derived.Test.YtfaobpmbiocafaaMb
namespace Go.Proofs.Ytfaobpmbiocafaa.ripBack
open Go.ChangeShapes Go.WideShapes Go.ChangeAt Go.RowKit
open Go.ChangeMaps (open_string shut_string)
open Go.Proofs.Ytfaobpmbiocafaa.Ms
open Go.Proofs.Ytfaobpmbiocafaa.Rp
open Go.Proofs.Ytfaobpmbiocafaa.Ps
open Go.Proofs.Ytfaobpmbiocafaa.Es
open Go.Proofs.Ytfaobpmbiocafaa.Rr
open Go.Proofs.Ytfaobpmbiocafaa.Hs
open Go.Proofs.Ytfaobpmbiocafaa.Few
open Go.Proofs.Ytfaobpmbiocafaa.All
open Go.Proofs.Ytfaobpmbiocafaa.Ec
open Go.Proofs.Ytfaobpmbiocafaa.Mb
open Go.Proofs.Ytfaobpmbiocafaa.Aw
open Go.Proofs.Ytfaobpmbiocafaa.Open
open Go.Proofs.Ytfaobpmbiocafaa.Or
set_option linter.unusedVariables false

section
open Go.ChangeShapes Go.WideShapes Go.ChangeAt Go.RowKit Go.Deep
open Go.Proofs.Ytfaobpmbiocafaa.Box
set_option maxRecDepth 100000
variable {H : Type} {enc : TypeId × Value → H} {W : World}
theorem by_list2 {base : Nat} {v : Value} {d : DataW H} {p : List MemPlace} (hv : Value.okWide Try.prog W .any base 23 v) (h : DataW.Trod enc Try.prog W 0 (fun _ => true) true 23 v d p) :
    ∃ (a : Option Addr) (l : List M) (c : Nat), v = .slice a l.length c ∧ MRow W a l ∧ l.length ≤ 9223372036854775807 ∧ l.length ≤ c := by
  obtain ⟨fuel, hf⟩ := h
  have hvc := okWide_slice Try.underlying23 hv
  obtain ⟨va, vn, vc, rfl⟩ := hvc
  rcases open_slice Try.underlying23 hf with h0 | ⟨a, len, cap, m, n, D, Pl, hcs, hb, hl, hm, hmm, hx, hi⟩
  · have e := h0.1
    simp [Value.cells] at e
    obtain ⟨rfl, rfl, rfl⟩ := e
    exact ⟨none, [], 0, rfl, MRow.nil _ _, by simp, Nat.le_refl _⟩
  · simp [Value.cells] at hcs
    obtain ⟨rfl, rfl, rfl⟩ := hcs
    obtain ⟨l, hll, hr⟩ := els (n := vn) (R := fun i (u : M) => (∀ j v, (u.cells.toList)[j]? = some v → W.cell? ((a.add (i * 25)).add j) = some v) ∧ DRow W u.la u.ll ∧ SRow W u.sa u.sl) (fun i hin => by
      obtain ⟨cs', hc, ht'⟩ := hi i (by rw [hmm]; split <;> omega)
      rw [cellsM] at hc
      obtain ⟨u, rfl, hd, hs⟩ := open_msg ht'
      obtain ⟨_, hcl, hat⟩ := World.cells?_some hc
      refine ⟨u, fun j v hv => ?_, hd, hs⟩
      have hj : j < 25 := by
        have := (List.getElem?_eq_some_iff.1 hv).1
        simpa [M.cells] using this
      rw [hat j hj]; exact hv)
    refine ⟨some a, l, vc, by rw [hll], fun i hin => ⟨a, rfl, ?_, (hr i hin).1, (hr i hin).2⟩, by unfold maxLen at hm; omega, by omega⟩
    have := block_lt_of_cell ((hr i hin).1 0 _ rfl)
    rwa [add_block, add_block] at this
end
theorem few_short {m : M} (h : fewB m = true) : Short m := by
  unfold fewB at h
  simp only [Bool.and_eq_true, decide_eq_true_eq] at h
  exact ⟨Nat.le_trans h.1.1.1.1.1.1.1 (by decide), Nat.le_trans h.1.1.1.1.1.1.2 (by decide)⟩
theorem few_all {l : List M} {n : Int} (h : fewL l n = true) : (l.length : Int) ≤ n ∧ ∀ m ∈ l, Short m := by
  unfold fewL at h
  simp only [Bool.and_eq_true, decide_eq_true_eq] at h
  exact ⟨h.1, fun m hm => few_short (List.all_eq_true.1 h.2 m hm)⟩
theorem flat_short {l : List M} (h : Ap.Flat l) : ∀ m ∈ l, Short m := fun m hm => ⟨by rw [(h m hm).1]; exact Nat.zero_le _, by rw [(h m hm).2]; exact Nat.zero_le _⟩
theorem same_comm (a b : M) : M.same a b = M.same b a := Bare.same_comm a b
theorem sameL_symm {x y : List M} (h : sameL x y = true) : sameL y x = true := by
  unfold sameL at h ⊢
  rw [decide_eq_true_iff] at h ⊢
  exact ⟨h.1.symm, fun i h1 h2 => by rw [same_comm]; exact h.2 i h2 h1⟩
theorem MRow.take {w : World} {a : Option Addr} {l : List M} (h : MRow w a l) (k : Nat) : MRow w a (l.take k) := by
  intro i hi
  have hil : i < l.length := by simp at hi; omega
  have := h i hil
  rw [List.getElem_take]
  exact this
theorem slice_to (p : Addr) (n c k : Nat) (h : k ≤ c) (W : World) : (Instr.slice 23 (.slice (some p) n c) none (some (.int .i64 (k : Int))) none).run Try.prog W = .ok (.slice (some p) k c) W := by
  refine (run_slice_h W 23 (some p) n c (by kernel_rfl) .i64 (k : Int) (by omega) (by omega)).trans ?_
  rw [show (Go.sizeOf (Try.prog.elem 23)).run Try.prog W = .ok 25 W from by kernel_rfl]
  have : p.add 0 = p := by cases p; rfl
  simp [Result.andThen, sliced, this]
theorem not_empty {s : ByteArray} (h : s.size ≠ 0) : ¬ s.toList = [] := by
  intro hh
  apply h
  have := congrArg List.length hh
  rw [ByteArray.toList_eq] at this
  simpa using this
/-- What stays: the list. -/
def SR (w : World) (a : Option Addr) (l : List M) (W : World) : Prop := MRow W a l ∧ Below w.heap.size w W
theorem SR.keep {w : World} {a : Option Addr} {l : List M} (W w1 : World) (h : SR w a l W) (hb : Below W.heap.size W w1) : SR w a l w1 := ⟨h.1.below hb, bcall h.2 hb⟩

set_option maxHeartbeats 12800000 in
set_option maxRecDepth 100000 in
theorem walk (a : Option Addr) (c : Nat) (l : List M) (cu : Int) (w : World) (hl : MRow w a l) (hn : l.length ≤ 9223372036854775807) (hc : l.length ≤ c) (hcu : (Lit.int .u16 cu).wf = true) :
    Calls Try.prog 6 #[.slice a l.length c, .int .u16 cu] w fun e w' => e = .returned (.bool true) ∧ Below w.heap.size w w' := by
  have hcu2 : 0 ≤ cu ∧ cu ≤ 65535 := by
    have h : IntKind.u16.min ≤ cu ∧ cu ≤ IntKind.u16.max := by simpa [Lit.wf] using hcu
    rwa [show IntKind.u16.min = 0 by decide, show IntKind.u16.max = 65535 by decide] at h
  clear hcu
  obtain ⟨cN, rfl⟩ := Int.eq_ofNat_of_zero_le hcu2.1
  have hcN : cN ≤ 65535 := by omega
  clear hcu2
  have PA := Lib.hid (fun W (h : SR w a l W) => heldP (SR w a l) SR.keep (fewAll_any a c l 30 W h.1 hn) h)
  have P0 := Lib.hid (fun W (h : SR w a l W) => heldP (SR w a l) SR.keep (awake_any W) h)
  have H0 : SR w a l w := ⟨hl, Below.refl _ _⟩
  clear hl hn
  go_enter Try.func6, Try.ntmps6
  cases hfa : fewL l 30
  · rw [hfa] at PA
    clear hfa
    go_wp2_with fail
    refine (PA.out _ H0).mono ?_
    rintro e w1 ⟨rfl, H0⟩
    go_wp2_with fail
    refine (P0.out _ H0).mono ?_
    rintro e w1 ⟨rfl, H0⟩
    go_wp2
    go_ret
    exact ⟨rfl, H0.2⟩
  have HFA := Lib.hid (few_all hfa)
  have hn : l.length ≤ 30 := by have := HFA.out.1; omega
  rw [hfa] at PA
  clear hfa
  have P1 := Lib.hid (fun W (h : SR w a l W) => encode_any a c l W h.1 HFA.out.2 (by omega))
  go_wp2_with fail
  refine (PA.out _ H0).mono ?_
  rintro e w1 ⟨rfl, H0⟩
  clear PA
  rcases enc_two l with ⟨q1, q2, q3, q4⟩ | ⟨W, hE⟩
  · rcases hq : enc l with ⟨b, x, y⟩
    rw [hq] at P1 q1 q2 q3 q4
    dsimp only at q1 q2 q3 q4
    subst q2
    have e1 : (y == 0) = false := by simpa using q1
    have e2 : (y != 0) = true := by rw [bne, e1]; rfl
    clear hq q1
    go_wp2_with fail
    refine (P1.out _ H0).mono ?_
    rintro e w2 ⟨rfl, hb⟩
    have H0 := SR.keep _ _ H0 hb
    clear hb P1
    dsimp only
    go_wp2_with fail
    refine (P0.out _ H0).mono ?_
    rintro e w3 ⟨rfl, H0⟩
    go_wp2
    go_ret
    exact ⟨rfl, H0.2⟩
  rw [hE] at P1
  obtain ⟨l', o1, o2, o3, o4⟩ := wrt_out W
  obtain ⟨p0, s1, s2⟩ := wrt_size W
  have h1 := W.n1
  have hbz : (ByteArray.mk (wrtL l).toArray).size = (wrtL l).length := by show (wrtL l).toArray.size = _; simp
  have hlo : 24 ≤ (ByteArray.mk (wrtL l).toArray).size := by omega
  have hhi : (ByteArray.mk (wrtL l).toArray).size ≤ 504 := by omega
  have HY := Lib.hid (fun (n : Nat) (h : n < (wrtL l).length) => cut_yes W h)
  have HN := Lib.hid (fun (n : Nat) (h : n < (wrtL l).length) => cut_no W h)
  have HT := Lib.hid (fun (k : Nat) (h1 : 1 ≤ k) (h2 : k ≤ l.length) => wrt_out (W.take h1 h2))
  have HZ := Lib.hid hbz
  have HO := Lib.hid o1
  have HSm := Lib.hid o2
  have HL3 := Lib.hid o3
  have HFl := Lib.hid o4
  clear o1 o2 o3 o4 s1 s2 hE W hbz p0
  generalize ByteArray.mk (wrtL l).toArray = b at *
  have P2 := Lib.hid (fun W => Pa.parse_any b W (by omega))
  rw [HO.out] at P2
  go_wp2_with fail
  refine (P1.out _ H0).mono ?_
  rintro e w2 ⟨rfl, hb⟩
  have H0 := SR.keep _ _ H0 hb
  clear hb P1
  dsimp only
  go_wp2_with fail
  refine (P2.out _).mono ?_
  rintro e w3 ⟨a2, k2, rfl, m2, hb⟩
  have HQ := Lib.hid (SR.keep _ _ H0 hb)
  have P3 := Lib.hid (rsameAll_any a a2 c k2 l l' w3 HQ.out.1 m2 HFA.out.2 (flat_short HFl.out) (by omega) (by have := HL3.out; omega))
  rw [HSm.out] at P3
  clear hb P2 H0 m2
  dsimp only
  go_wp2_with fail
  refine P3.out.mono ?_
  rintro e w4 ⟨rfl, hb⟩
  have HQ := Lib.hid (SR.keep _ _ HQ.out hb)
  clear hb P3
  have hlo2 : (24 : Int) ≤ (b.size : Int) := by omega
  have hhi2 : (b.size : Int) ≤ 504 := by omega
  go_upto_region 10 with fail
  have hnl : cN % b.size < (wrtL l).length := by have := HZ.out; rw [← this]; exact Nat.mod_lt _ (by omega)
  rw [show ((cN : Int) % (b.size : Int)) = ((cN % b.size : Nat) : Int) by omega]
  generalize cN % b.size = n at hnl ⊢
  have hnb : n ≤ b.size := by have := HZ.out; omega
  have hl0 : 0 < l.length := h1
  obtain ⟨p, hpx, hrx⟩ := HQ.out.1 0 hl0
  clear hrx
  subst hpx
  have SL := fun W => Ent.sl_h b (n : Int) n rfl hnb W
  have hsz : (b.extract 0 n).size ≤ 1048576 := by rw [ByteArray.size_extract]; omega
  have P4 := Lib.hid (fun W => Pa.parse_any (b.extract 0 n) W hsz)
  clear hsz
  have HBN := Lib.hid hnb
  by_cases he : (out (b.extract 0 n)).2.2 = 0
  · obtain ⟨n24, n20, nA⟩ := HN.out n hnl he
    obtain ⟨k, k1, k2, kb⟩ := HY.out n hnl n24 n20 nA
    obtain ⟨l2, o1, o2, o3, o4⟩ := HT.out k k1 (by omega)
    have ho : out (b.extract 0 n) = (l2, 0, 0) := by rw [kb]; exact o1
    have hk : l2.length = k := by rw [o3, List.length_take]; omega
    subst hk
    have hlen : (l.take l2.length).length = l2.length := by rw [List.length_take]; omega
    rw [ho] at P4
    have SM := fun W => slice_to p l.length c l2.length (by omega) W
    have P5 := Lib.hid (fun (a5 : Option Addr) (k5 : Nat) W (h5 : MRow W a5 l2) (h6 : MRow W (some p) l) => rsameAll_any a5 (some p) k5 c l2 (l.take l2.length) W h5 (MRow.take h6 _) (flat_short o4) (fun m hm => HFA.out.2 m (List.mem_of_mem_take hm)) (by omega) (by rw [hlen]; omega))
    rw [hlen, sameL_symm o2] at P5
    have f1 : (24 : Int) ≤ (n : Int) := by omega
    have f2 : ((n : Int) % 20 == 4) = true := by rw [beq_iff_eq]; omega
    have f3 : ((n : Int) % 20) = 4 := by omega
    have f4 : (l2.length : Int) < (l.length : Int) := by omega
    clear HN HY HT nA kb o1 o2 o3 o4 ho he HFA HL3 HFl HSm HO hlen n24 n20 hnl hnb hn k1 k2 hc HZ h1 hl0 hlo2 hhi2 f3 hcN
    generalize b.extract 0 n = s at SL P4
    go_wp2_with fail
    refine (P4.out _).mono ?_
    rintro e w5 ⟨a5, k5, rfl, m5, hb⟩
    have HQ := Lib.hid (SR.keep _ _ HQ.out hb)
    have M5 := Lib.hid m5
    clear hb P4 m5
    dsimp only
    go_wp2_with fail
    refine (awake_any _).mono ?_
    rintro e w6 ⟨rfl, hb⟩
    have M5 := Lib.hid (M5.out.below hb)
    have HQ := Lib.hid (SR.keep _ _ HQ.out hb)
    clear hb P0
    go_wp2_with fail
    refine (P5.out _ _ _ M5.out HQ.out.1).mono ?_
    rintro e w7 ⟨rfl, hb⟩
    have HQ := Lib.hid (SR.keep _ _ HQ.out hb)
    clear hb P5 M5
    go_wp2
    go_ret
    exact ⟨rfl, HQ.out.2⟩
  have hN : ¬ (24 ≤ n ∧ n % 20 = 4 ∧ ¬ ((at0 l 0).auth.size ≠ 0 ∧ n = 24)) := by
    rintro ⟨n24, n20, nA⟩
    obtain ⟨k, k1, k2, kb⟩ := HY.out n hnl n24 n20 nA
    obtain ⟨l2, o1, o2, o3, o4⟩ := HT.out k k1 (by omega)
    apply he
    rw [kb, o1]
  rcases hq : out (b.extract 0 n) with ⟨l2, x, y⟩
  rw [hq] at P4 he
  dsimp only at he
  have e1 : (y == 0) = false := by simpa using he
  have e2 : (y != 0) = true := by rw [bne, e1]; rfl
  clear HN HY HT hq he HFA HL3 HFl HSm HO hnl hnb hn hc HZ h1 hlo2 hhi2 hcN
  generalize b.extract 0 n = s at SL P4
  go_wp2_with fail
  refine (P4.out _).mono ?_
  rintro e w5 ⟨a5, k5, rfl, m5, hb⟩
  have HQ := Lib.hid (SR.keep _ _ HQ.out hb)
  clear hb P4 m5
  dsimp only
  go_wp2_with fail
  refine (awake_any _).mono ?_
  rintro e w6 ⟨rfl, hb⟩
  have HQ := Lib.hid (SR.keep _ _ HQ.out hb)
  clear hb P0 SL
  have ix0 : ∀ W, (Instr.indexAt 23 (.slice (some p) l.length c) (.int .i64 0)).run Try.prog W = .ok (.pointer (some p)) W := fun W => indexM p l.length c 0 hl0 W
  have c3 : w6.cell? ⟨p.block, p.off + 3, none⟩ = some (.string (at0 l 0).auth) := Tg.row_first HQ.out.1 hl0 3 _ rfl
  generalize (at0 l 0).auth = u at *
  by_cases g1 : n < 24
  · have f1 : (n : Int) < 24 := by omega
    clear hN g1 ix0 c3 hl0
    go_wp2_with fail
    go_ret
    exact ⟨rfl, HQ.out.2⟩
  by_cases g2 : n % 20 = 4
  rotate_left
  · have f1 : ¬ (n : Int) < 24 := by omega
    have f2 : ((n : Int) % 20 == 4) = false := by rw [beq_eq_false_iff_ne]; omega
    have f3 : ((n : Int) % 20 != 4) = true := by rw [bne, f2]; rfl
    clear hN g1 g2 ix0 c3 hl0
    go_wp2_with fail
    go_ret
    exact ⟨rfl, HQ.out.2⟩
  have g3 : u.size ≠ 0 ∧ n = 24 := by
    by_cases g3 : u.size ≠ 0 ∧ n = 24
    · exact g3
    · exact absurd ⟨by omega, g2, g3⟩ hN
  have f1 : ¬ (n : Int) < 24 := by omega
  have f2 : ((n : Int) % 20 == 4) = true := by rw [beq_iff_eq]; omega
  have f3 : ((n : Int) % 20 != 4) = false := by rw [bne, f2]; rfl
  have f4 : ((n : Int) == 24) = true := by rw [beq_iff_eq]; omega
  have f5 : ¬ u.toList = [] := not_empty g3.1
  have f6 : (u.toList == []) = false := by simpa using f5
  have f7 : u.toList.isEmpty = false := by simpa using f5
  clear hN g1 g2 g3
  go_wp2_with fail
  go_ret
  exact ⟨rfl, HQ.out.2⟩

theorem own : ownKnob Try.prog.godebug = none := by kernel_rfl

set_option maxRecDepth 100000 in
theorem lifted (os : Os) (started : os.Started) (H : Type) (enc : TypeId × Value → H) :
    ReturnsInHanded {} Try.checked os 6 .any (Rows.ripBackSpec.pre6 enc Try.prog Try.f6 Rows.ripBackRow.domain false) (Rows.ripBackSpec.post enc Try.prog Try.f6 false true false false) := by
  refine returnsInHanded_of_change (C := Try.checked) own started (by kernel_rfl) Try.func6
    (ChangeSpec.witness6 (enc := enc) (C := Try.checked) false ⟨#[], #[.slice none 0 0, .int .u16 0], []⟩ 8 (by kernel_rfl) (by kernel_rfl) (by kernel_rfl) (by kernel_rfl)) ?_
  intro W base args ds gs before hval0 hW hcnd _
  have hval : ∀ (j : Nat) t v, Try.f6.params[j]? = some t → args[j]? = some v → Value.okWide Try.prog W .any base t v := hval0
  have hW' := hW
  have hlt := fun x hx => hW'.lt x hx
  obtain ⟨p, q, hA0, hV, rfl, hfz, hnd⟩ := hW
  have hA : DataW.TrodAll enc Try.prog W 0 (fun _ => true) true Try.f6.params.toList args.toList ds p := hA0
  rw [Try.params6] at hA hval
  obtain ⟨v0, vs0, d0, ds0, p0, q0, hargs, rfl, rfl, h0, r0⟩ := trodAll_cons hA
  obtain ⟨v1, vs1, d1, ds1, p1, q1, rfl, rfl, rfl, h1, r1⟩ := trodAll_cons r0
  obtain ⟨rfl, rfl, rfl⟩ := trodAll_nil r1
  obtain rfl : args = #[v0, v1] := by cases args; simp_all
  obtain ⟨rfl, rfl⟩ := trodVars_none hV
  obtain ⟨a, l, c, rfl, hl, ln, lc⟩ := by_list2 (hval 0 23 v0 rfl rfl) h0
  have k1 := h1
  obtain ⟨cu, rfl, rfl, rfl, wf⟩ := open_int Try.underlying38 (hval 1 38 v1 rfl rfl) k1
  clear hA0 hval0
  simp only [List.append_nil] at hW' hlt
  refine (walk a c l cu W hl ln lc wf).mono fun e W' ⟨he, hg⟩ => ?_
  subst he
  exact ⟨_, rfl, _, _, _, [], _, [], hW', trodAll_mk1 (shut_bool Try.underlying4 _), (trodAll_cons_mk (again (by kernel_rfl) (of_decide_eq_true (by kernel_rfl)) h0 hg fun x hx => hlt x (by first | exact absurd hx (by simp) | simp [hx])) (trodAll_cons_mk (again (by kernel_rfl) (of_decide_eq_true (by kernel_rfl)) h1 hg fun x hx => hlt x (by first | exact absurd hx (by simp) | simp [hx])) trodAll_mk0)), rfl, hg.frame _, fun h => by cases h⟩

theorem over : Rows.ripBackRow.holds Try.pinned (OpenSpec.ofChange Rows.ripBackSpec) :=
  OpenClaim.holds_of_wide 6 Try.f6 rfl rfl rfl rfl rfl rfl rfl ⟨rfl, rfl, rfl, rfl, rfl⟩ rfl rfl rfl rfl rfl (by kernel_rfl) Try.func6 (by kernel_rfl)
    (of_decide_eq_true (by kernel_rfl)) (by unfold Func.isWrapper; first | (rw [if_pos (by decide +kernel)]; kernel_rfl) | (rw [if_neg (by decide +kernel)]; exact ⟨rfl, rfl⟩))
    (fun os started H enc _ => lifted os started H enc)

theorem proved : Rows.RipBackSaid :=
  over
#print axioms proved
end Go.Proofs.Ytfaobpmbiocafaa.ripBack
