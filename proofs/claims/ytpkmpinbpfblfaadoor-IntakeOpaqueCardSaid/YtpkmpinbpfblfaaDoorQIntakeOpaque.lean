/-
  The statement IntakeOpaque, of any TLVs, a place among them and one more. Condition: the listed variables have what the program's text lays them with (the tied card).
-/
import Derived.Test.YtpkmpinbpfblfaaDoorQ12
import Derived.Test.YtpkmpinbpfblfaaDoorCards
import Derived.Test.YtpkmpinbpfblfaaDoorTie
import Derived.Lay
import Derived.SevenTiedAt
import Derived.Stop.Joined
namespace Go.Proofs.YtpkmpinbpfblfaaDoor.intakeOpaque
open Go.ChangeShapes Go.WideShapes Go.ChangeAt Go.RowKit
open Go.ChangeMaps (open_string shut_string)
open Go.Proofs.YtpkmpinbpfblfaaDoor.Ms
open Go.Proofs.YtpkmpinbpfblfaaDoor.Box
open Go.Proofs.YtpkmpinbpfblfaaDoor.All
open Go.Proofs.YtpkmpinbpfblfaaDoor.An
open Go.Proofs.YtpkmpinbpfblfaaDoor.Tc
open Go.Proofs.YtpkmpinbpfblfaaDoor.K1
open Go.Proofs.YtpkmpinbpfblfaaDoor.Kb
open Go.Proofs.YtpkmpinbpfblfaaDoor.I1
open Go.Proofs.YtpkmpinbpfblfaaDoor.I2
open Go.Proofs.YtpkmpinbpfblfaaDoor.Fq
open Go.Proofs.YtpkmpinbpfblfaaDoor.I9
open Go.Proofs.YtpkmpinbpfblfaaDoor.Hs
open Go.Proofs.YtpkmpinbpfblfaaDoor.Open
set_option linter.unusedVariables false

open Go.Proofs.YtpkmpinbpfblfaaDoor.Tl (cellsT TRow indexT)
open Go.Proofs.YtpkmpinbpfblfaaDoor.Or (st_yes)
open Go.Proofs.YtpkmpinbpfblfaaDoor.Hx (ex_built)
open Go.Proofs.YtpkmpinbpfblfaaDoor.Hy (H.one H.two wp_valW)
open Go.Proofs.YtpkmpinbpfblfaaDoor.Bk (Bk wpList_builtK run_loadK alloc_size)
open Go.Proofs.YtpkmpinbpfblfaaDoor.F1 (outT outB trail okT encT placed)
open Go.Proofs.YtpkmpinbpfblfaaDoor.K9 (int_same)
open Go.Proofs.YtpkmpinbpfblfaaDoor.Su
open Go.Joins
open Go.Proofs.YtpkmpinbpfblfaaDoor.Lm (LM lm_made wp_list)
open Go.Proofs.YtpkmpinbpfblfaaDoor.Bk (Sh)
/-- What came in: TLVs, a place, a type, bytes. -/
def oneR (a : Option Addr) (n c : Nat) (x y : Int) (d : ByteArray) : Array Value := #[.slice a n c, .int .u8 x, .int .u8 y, .string d]
theorem split4 {cs : List Value} (h : cs.length = 4) : ∃ a b c d, cs = [a, b, c, d] := by
  match cs, h with
  | [a, b, c, d], _ => exact ⟨a, b, c, d, rfl⟩
section
variable {H : Type} {enc : TypeId × Value → H} {W : World}
set_option maxRecDepth 100000 in
theorem by_one {base : Nat} {v : Value} {d : DataW H} {p : List MemPlace} (hv : Value.okWide Tryd.prog W .any base 49 v) (h : DataW.Trod enc Tryd.prog W 0 (fun _ => true) true 49 v d p) :
    ∃ a l c x y d, v = .agg (oneR a (List.length (α := F1.T) l) c x y d) ∧ TRow W a l ∧ l.length ≤ 9223372036854775807 ∧ l.length ≤ c ∧ (Lit.int .u8 x).wf = true ∧ (Lit.int .u8 y).wf = true ∧ d.size ≤ maxLen := by
  obtain ⟨cs, rfl, hsz⟩ := okWide_struct Tryd.underlying49 hv
  obtain ⟨fuel, hf⟩ := h
  obtain ⟨y0, y1, y2, y3, n, _, hlen, h0, h1, h2, h3⟩ := trod_struct4 Tryd.underlying49 hf
  rw [show Tryd.prog.cellsOf 49 = 4 by kernel_rfl] at hlen
  obtain ⟨c0, c1, c2, c3, hcs⟩ := split4 hlen
  have hL : Tryd.prog.cellsOf 30 = 1 := by kernel_rfl
  have hi : Tryd.prog.cellsOf 5 = 1 := by kernel_rfl
  have hst : Tryd.prog.cellsOf 9 = 1 := by kernel_rfl
  have h0 : DataW.trod enc Tryd.prog W 0 (fun _ => true) true n 30 [c0] = some y0 := by
    have := h0
    rw [hL, hcs] at this
    exact this
  have h1 : DataW.trod enc Tryd.prog W 0 (fun _ => true) true n 5 [c1] = some y1 := by
    have := h1
    rw [hi, hcs] at this
    exact this
  have h2 : DataW.trod enc Tryd.prog W 0 (fun _ => true) true n 5 [c2] = some y2 := by
    have := h2
    rw [hi, hcs] at this
    exact this
  have h3 : DataW.trod enc Tryd.prog W 0 (fun _ => true) true n 9 [c3] = some y3 := by
    have := h3
    rw [hst, hcs] at this
    exact this
  obtain ⟨a, l, c, e0, hl, hn, hc⟩ := open_tlvs h0
  obtain rfl := (List.cons.inj e0).1
  obtain ⟨k1, e1, _, w1⟩ := DataW.trod_int Tryd.underlying5 h1
  obtain rfl := (List.cons.inj e1).1
  obtain ⟨k2, e2, _, w2⟩ := DataW.trod_int Tryd.underlying5 h2
  obtain rfl := (List.cons.inj e2).1
  obtain ⟨k3, e3, _, z3⟩ := DataW.trod_string Tryd.underlying9 h3
  obtain rfl := (List.cons.inj e3).1
  exact ⟨a, l, c, k1, k2, k3, by rw [show cs = oneR a l.length c k1 k2 k3 from Array.ext' hcs], hl, hn, hc, w1, w2, z3⟩
end
theorem cut_is {r s : List M} {l1 l2 : List M} {x : M} (h1 : PlL l1 r) (h2 : PlL l2 (r ++ s)) : PlL (l2.take l1.length ++ [x] ++ l2.drop l1.length) (r ++ [x] ++ s) := by
  have ht := PlL.take h2 l1.length
  rw [h1.1, List.take_left] at ht
  have hd : PlL (l2.drop r.length) s := by
    refine ⟨by rw [List.length_drop, h2.1, List.length_append]; omega, fun i hi hi' => ?_⟩
    rw [List.getElem_drop]
    have := h2.2 (r.length + i) (by simp at hi; omega) (by rw [List.length_append]; omega)
    rw [List.getElem_append_right (by omega)] at this
    simpa only [Nat.add_sub_cancel_left] using this
  rw [h1.1]
  exact PlL.app (PlL.app ht (PlL.refl [x])) hd

set_option maxHeartbeats 51200000 in
set_option maxRecDepth 100000 in
theorem walk (a : Option Addr) (l : List F1.T) (kc : Nat) (cu ty : Int) (d : ByteArray) (w : World) (hl : TRow w a l) (hn : l.length ≤ 9223372036854775807) (hkc : l.length ≤ kc) (wf : (Lit.int .u8 cu).wf = true) (wg : (Lit.int .u8 ty).wf = true) (hz : d.size ≤ maxLen) (ht : Tab w) :
    Calls Tryd.prog 5 #[.agg (oneR a l.length kc cu ty d)] w fun r w' => r = .returned (.bool true) ∧ Below w.heap.size w w' := by
  unfold maxLen at hz
  have HT := Lib.hid ht
  have h1 := ht.pos
  clear ht
  have HL := Lib.hid hl
  clear hl
  have hcu : 0 ≤ cu ∧ cu ≤ 255 := by
    have h : IntKind.u8.min ≤ cu ∧ cu ≤ IntKind.u8.max := by simpa [Lit.wf] using wf
    exact h
  clear wf
  have hty : 0 ≤ ty ∧ ty ≤ 255 := by
    have h : IntKind.u8.min ≤ ty ∧ ty ≤ IntKind.u8.max := by simpa [Lit.wf] using wg
    exact h
  clear wg
  go_enter Tryd.func5, Tryd.ntmps5
  go_upto_region 1 with fail
  change Code.wp _ _ _ _ (w.alloc (.cells (oneR a l.length kc cu ty d) 49))
  have bel := balloc (Below.refl _ w) (.cells (oneR a l.length kc cu ty d) 49)
  have O0 := Lib.hid (Bk.Bk.new 49 w (oneR a l.length kc cu ty d))
  have HB := Lib.hid bel.drew
  clear bel
  refine wp_region_held_drew (S := fun W => Bk 49 W w.heap.size (oneR a l.length kc cu ty d)) (by kernel_rfl) O0.out (fun hS => ?_)
  clear O0
  generalize (w.alloc (.cells (oneR a l.length kc cu ty d) 49)).drew = V at *
  refine H.tk (i := 0) (v := ?v0x1) ?h0x1 hS ?_
  case h0x1 => (intro w hw; go_simp; first | done | (with_reducible rfl))
  try simp only [Act.put, List.setIfInBounds_toArray, List.set_cons_zero, List.set_cons_succ]
  refine H.tk (i := 1) (v := .slice a l.length kc) ?h1x2 hS ?_
  case h1x2 => exact (fun w hw => by have c := hw.cell 0 (.slice a l.length kc) rfl; go_simp)
  try simp only [Act.put, List.setIfInBounds_toArray, List.set_cons_zero, List.set_cons_succ]
  refine H.tk (i := 2) (v := ?v2x3) ?h2x3 hS ?_
  case h2x3 => (intro w hw; go_simp; first | done | (with_reducible rfl))
  try simp only [Act.put, List.setIfInBounds_toArray, List.set_cons_zero, List.set_cons_succ]
  refine H.tk (i := 3) (v := .int .u8 cu) ?h3x4 hS ?_
  case h3x4 => exact (fun w hw => by have c := hw.cell 1 (.int .u8 cu) rfl; go_simp)
  try simp only [Act.put, List.setIfInBounds_toArray, List.set_cons_zero, List.set_cons_succ]
  refine H.tk (i := 4) (v := ?v4x5) ?h4x5 hS ?_
  case h4x5 => (intro w hw; go_simp; first | done | (with_reducible rfl))
  try simp only [Act.put, List.setIfInBounds_toArray, List.set_cons_zero, List.set_cons_succ]
  refine H.tk (i := 5) (v := .int .u8 ty) ?h5x6 hS ?_
  case h5x6 => exact (fun w hw => by have c := hw.cell 2 (.int .u8 ty) rfl; go_simp)
  try simp only [Act.put, List.setIfInBounds_toArray, List.set_cons_zero, List.set_cons_succ]
  refine H.tk (i := 6) (v := ?v6x7) ?h6x7 hS ?_
  case h6x7 => (intro w hw; go_simp; first | done | (with_reducible rfl))
  try simp only [Act.put, List.setIfInBounds_toArray, List.set_cons_zero, List.set_cons_succ]
  refine H.tk (i := 7) (v := .string d) ?h7x8 hS ?_
  case h7x8 => exact (fun w hw => by have c := hw.cell 3 (.string d) rfl; go_simp)
  try simp only [Act.put, List.setIfInBounds_toArray, List.set_cons_zero, List.set_cons_succ]
  refine H.tk (i := 8) (v := .slice a l.length kc) ?h8x9 hS ?_
  case h8x9 => exact (fun w hw => by go_simp)
  try simp only [Act.put, List.setIfInBounds_toArray, List.set_cons_zero, List.set_cons_succ]
  refine H.tk (i := 9) (v := .int .u8 cu) ?h9x10 hS ?_
  case h9x10 => exact (fun w hw => by go_simp)
  try simp only [Act.put, List.setIfInBounds_toArray, List.set_cons_zero, List.set_cons_succ]
  refine H.tk (i := 10) (v := .int .u8 ty) ?h10x11 hS ?_
  case h10x11 => exact (fun w hw => by go_simp)
  try simp only [Act.put, List.setIfInBounds_toArray, List.set_cons_zero, List.set_cons_succ]
  refine H.tk (i := 11) (v := .string d) ?h11x12 hS ?_
  case h11x12 => exact (fun w hw => by go_simp)
  try simp only [Act.put, List.setIfInBounds_toArray, List.set_cons_zero, List.set_cons_succ]
  refine wpAnyH_done (by kernel_rfl) ?_ _
  clear hS
  by_cases h40 : 40 < l.length
  · have h40' : (40 : Int) < (l.length : Int) := by omega
    go_wp2_with fail
    refine (awake_any _ (HT.out.below HB.out)).mono ?_
    rintro r w1 ⟨rfl, hb⟩
    have HB := Lib.hid (bcall HB.out hb)
    clear hb
    go_wp2
    go_ret
    exact ⟨rfl, HB.out⟩
  have h40' : ¬ (40 : Int) < (l.length : Int) := by omega
  by_cases hz255 : 255 < d.size
  · have hz255' : (255 : Int) < (d.size : Int) := by omega
    go_wp2_with fail
    refine (awake_any _ (HT.out.below HB.out)).mono ?_
    rintro r w1 ⟨rfl, hb⟩
    have HB := Lib.hid (bcall HB.out hb)
    clear hb
    go_wp2
    go_ret
    exact ⟨rfl, HB.out⟩
  have hz255' : ¬ (255 : Int) < (d.size : Int) := by omega
  go_wp2
  go_loopw [7] (fun i wr => ∃ (k : Nat), k ≤ l.length ∧ i = .int .i64 k ∧ Hid (∀ j (h : j < l.length), j < k → 0 ≤ l[j].2.2 ∧ l[j].2.2 ≤ 255 ∧ l[j].2.1.size ≤ 255) ∧ Hid (Below w.heap.size w wr)) (fun i _ => l.length - (intOf i).toNat)
  case atStart => exact ⟨0, Nat.zero_le _, rfl, Lib.hid (fun j _ hj => absurd hj (Nat.not_lt_zero j)), HB⟩
  case round =>
    obtain ⟨k, hk, rfl, HK, HB⟩ := hrel
    by_cases hlt : k < l.length
    rotate_left
    · obtain rfl : k = l.length := by omega
      have hok : okL l := fun x hx => by
        obtain ⟨j, hj, rfl⟩ := List.getElem_of_mem hx
        exact HK.out j hj hj
      clear HK hlt hk
      have q1 : IntKind.i64.wrap ((l.length : Int) + 1) = (l.length : Int) + 1 := IntWalk.i64_in _ (by omega)
      have q2 : wrap64 ((l.length : Int) + 1) = (l.length : Int) + 1 := IntWalk.wrap64_in _ (by omega)
      have htm : cu.tmod ((l.length : Int) + 1) = cu % ((l.length : Int) + 1) := Int.tmod_eq_emod_of_nonneg hcu.1
      have htn : ty.tmod 245 = ty % 245 := Int.tmod_eq_emod_of_nonneg hty.1
      have q3 : IntKind.i64.wrap (11 + ty % 245) = 11 + ty % 245 := IntWalk.i64_in _ (by omega)
      have q4 : wrap64 (11 + ty % 245) = 11 + ty % 245 := IntWalk.wrap64_in _ (by omega)
      go_upto_region 10 with fail
      clear q1 q2 q3 q4 htm htn
      have em1 := Int.emod_nonneg cu (b := (l.length : Int) + 1) (by omega)
      have em2 := Int.emod_lt_of_pos cu (b := (l.length : Int) + 1) (by omega)
      obtain ⟨k, hk, hle⟩ : ∃ k : Nat, cu % ((l.length : Int) + 1) = k ∧ k ≤ l.length := ⟨(cu % ((l.length : Int) + 1)).toNat, by omega, by omega⟩
      rw [hk]
      obtain ⟨nn, hnn, hnr⟩ : ∃ nn : Int, 11 + ty % 245 = nn ∧ 11 ≤ nn ∧ nn ≤ 255 := ⟨11 + ty % 245, rfl, by omega, by omega⟩
      rw [hnn]
      have SL := fun W => slT_hi a l.length kc k (Nat.le_trans hle hkc) W
      have SM := fun W => slT_lo a l.length kc k hle W
      have hlk : (l.take k).length = k := by rw [List.length_take]; omega
      have hld : (l.drop k).length = l.length - k := List.length_drop
      have HLK := Lib.hid hlk
      have HLD := Lib.hid hld
      have hokw : okL (l.take k ++ [(0, (d, nn))] ++ l.drop k) := fun x hx => by
        rcases List.mem_append.1 hx with hx | hx
        · rcases List.mem_append.1 hx with hx | hx
          · exact hok x (List.mem_of_mem_take hx)
          · rw [List.mem_singleton] at hx; subst hx; exact ⟨by show (0 : Int) ≤ nn; omega, hnr.2, by show d.size ≤ 255; omega⟩
        · exact hok x (List.mem_of_mem_drop hx)
      have hlw : (l.take k ++ [(0, (d, nn))] ++ l.drop k).length ≤ 41 := by rw [List.length_append, List.length_append, hlk, hld]; simp only [List.length_cons, List.length_nil]; omega
      have P1 := Lib.hid (fun V (h : TRow V a l) (y : Tab V) => I8.fold_any a (l.take k) kc V (tr_take h k) (by omega) (fun x hx => hok x (List.mem_of_mem_take hx)) y)
      rw [hlk] at P1
      have P2 := Lib.hid (fun V (h : TRow V a l) (y : Tab V) => I8.fold_any a l kc V h (by omega) hok y)
      have P3 := Lib.hid (fun za zc zn V (hq : zn = (l.take k ++ [(0, (d, nn))] ++ l.drop k).length) (h : TRow V za (l.take k ++ [(0, (d, nn))] ++ l.drop k)) (y : Tab V) => by have := I8.fold_any za (l.take k ++ [(0, (d, nn))] ++ l.drop k) zc V h (by omega) hokw y; rw [← hq] at this; exact this)
      have HS1 := Lib.hid (out_sml (l.take k))
      have HS2 := Lib.hid (out_sml l)
      have HS3 := Lib.hid (out_sml (l.take k ++ [(0, (d, nn))] ++ l.drop k))
      have HOP := Lib.hid (between (l.take k) (l.drop k) (0, (d, nn)) (.inr (by show 10 < nn; omega)))
      rw [List.take_append_drop, show l.take k ++ (0, (d, nn)) :: l.drop k = l.take k ++ [(0, (d, nn))] ++ l.drop k by rw [List.append_assoc]; rfl] at HOP
      have RL := Lib.hid (Nat.le_trans (outI_len (l.take k)) (by rw [List.length_take]; omega : (l.take k).length ≤ 40))
      have RM := Lib.hid (Nat.le_trans (outI_len l) (by omega : l.length ≤ 40))
      have RN := Lib.hid (Nat.le_trans (outI_len (l.take k ++ [(0, (d, nn))] ++ l.drop k)) hlw)
      have HL := Lib.hid (HL.out.below HB.out)
      have h40k : (l.take k).length ≤ 40 := by omega
      have h40d : [((0 : Int), (d, nn))].length + (l.take k).length ≤ 41 := by rw [hlk]; simp only [List.length_cons, List.length_nil]; omega
      have h40l : l.length ≤ 40 := by omega
      clear hok hokw em1 em2 hk hcu hty hnn hlw h40 h40' hz255 hz255' hn hz hlk hld
      generalize hqa : outI (l.take k) = qa at *
      generalize hqb : outI l = qb at *
      generalize hqc : outI (l.take k ++ [(0, (d, nn))] ++ l.drop k) = qc at *
      clear hqa hqb hqc
      go_upto_region 10 with fail
      go_cut [10] (fun m wx => ∃ (za : Option Addr) (zc zn : Nat), m = .slice za zn zc ∧ zn = (l.take k ++ [(0, (d, nn))] ++ l.drop k).length ∧ TRow wx za (l.take k ++ [(0, (d, nn))] ++ l.drop k) ∧ Below wr.heap.size wr wx)
      case first =>
        refine wp_region_held_drew (S := fun W => Below wr.heap.size wr W) (by kernel_rfl) (Below.refl _ wr).drew (fun hS => ?_)
        generalize wr.drew = X0 at *
        refine H.tk (i := 1) (v := .slice a l.length kc) ?h1x1p hS ?_
        case h1x1p => exact (fun w hw => by go_simp)
        try simp only [Act.put, List.setIfInBounds_toArray, List.set_cons_zero, List.set_cons_succ]
        refine H.tk (i := 2) (v := .int .i64 (k : Int)) ?h2x2p hS ?_
        case h2x2p => exact (fun w hw => by go_simp)
        try simp only [Act.put, List.setIfInBounds_toArray, List.set_cons_zero, List.set_cons_succ]
        refine H.tk (i := 3) (v := .slice a k kc) ?h3x3p hS ?_
        case h3x3p => exact (fun w hw => by go_simp)
        try simp only [Act.put, List.setIfInBounds_toArray, List.set_cons_zero, List.set_cons_succ]
        refine H.tk (i := 5) (v := .int .i64 nn) ?h5x4p hS ?_
        case h5x4p => exact (fun w hw => by go_simp)
        try simp only [Act.put, List.setIfInBounds_toArray, List.set_cons_zero, List.set_cons_succ]
        refine H.tk (i := 6) (v := .string d) ?h6x5p hS ?_
        case h6x5p => exact (fun w hw => by go_simp)
        try simp only [Act.put, List.setIfInBounds_toArray, List.set_cons_zero, List.set_cons_succ]
        refine H.tk (i := 7) (v := .agg (cellsT (0, (d, nn)))) ?h7x6p hS ?_
        case h7x6p => exact (fun w hw => ex_built rfl (by kernel_rfl))
        try simp only [Act.put, List.setIfInBounds_toArray, List.set_cons_zero, List.set_cons_succ]
        refine H.tk (i := 10) (v := .slice a l.length kc) ?h10x7p hS ?_
        case h10x7p => exact (fun w hw => by go_simp)
        try simp only [Act.put, List.setIfInBounds_toArray, List.set_cons_zero, List.set_cons_succ]
        refine H.tk (i := 11) (v := .int .i64 (k : Int)) ?h11x8p hS ?_
        case h11x8p => exact (fun w hw => by go_simp)
        try simp only [Act.put, List.setIfInBounds_toArray, List.set_cons_zero, List.set_cons_succ]
        refine H.tk (i := 12) (v := .slice (subA a kc k 3) (l.length - k) (kc - k)) ?h12x9p hS ?_
        case h12x9p => exact (fun w hw => by go_simp)
        try simp only [Act.put, List.setIfInBounds_toArray, List.set_cons_zero, List.set_cons_succ]
        refine H.two (i := 0) (j := 8) (by simp only [List.getElem?_toArray, List.getElem?_cons_zero]; rfl) (by kernel_rfl) (by simp only [List.getElem?_toArray, List.getElem?_cons_succ, List.getElem?_cons_zero]; rfl) (by kernel_rfl) (by kernel_rfl) (fun K hK => ?wa10p) (fun K hK => ?wb10p)
        case wa10p =>
          refine wp_valW rfl (ex_bs0T rfl) ?_
          refine hK.out _ _ (hS.alloc hS.size (.cells #[] 35)) ?_
          clear hK K
          have hzz := hS.size
          have LA := Lib.hid (tl_made (B := wr.heap.size) hzz (.cells #[] 35) rfl)
          have hS' := hS.alloc hS.size (.cells #[] 35)
          clear hS
          have hS := hS'
          clear hS' hzz
          generalize hYX1 : X0.alloc (.cells #[] 35) = X1 at *
          clear hYX1
          generalize hg0 : X0.heap.size = g0 at *
          clear hg0
          try simp only [Act.put, List.setIfInBounds_toArray, List.set_cons_zero, List.set_cons_succ]
          refine H.two (i := 4) (j := 8) (by simp only [List.getElem?_toArray, List.getElem?_cons_succ, List.getElem?_cons_zero]; rfl) (by kernel_rfl) (by simp only [List.getElem?_toArray, List.getElem?_cons_succ, List.getElem?_cons_zero]; rfl) (by kernel_rfl) (by kernel_rfl) (fun K hK => ?wa11p) (fun K hK => ?wb11p)
          case wa11p =>
            have hzz := hS.size
            refine wp_tlvs _ _ rfl (wr.heap.size) _ ([]) (l.take k) (a) (kc) rfl LA.out (by rw [HLK.out]; rfl) (tr_take (HL.out.below hS) k) (by rw [HLK.out]; simp only [List.length_nil]; omega) hzz ?_
            intro v1 X2 ha hb hg
            refine hK.out _ _ (hS.trans hb) ?_
            clear hK K
            have hS' := hS.trans hb
            clear hS LA
            have hS := hS'
            have LA := Lib.hid ha
            clear hS' ha hb hg hzz
            rw [List.nil_append] at LA
            try simp only [Act.put, List.setIfInBounds_toArray, List.set_cons_zero, List.set_cons_succ]
            refine H.one (i := 8) (by simp only [List.getElem?_toArray, List.getElem?_cons_succ, List.getElem?_cons_zero]; rfl) (by kernel_rfl) (by kernel_rfl) (fun K hK => ?_)
            refine wp_valW rfl (Tl.ex_bs (m := (0, (d, nn))) rfl rfl) ?_
            refine hK.out _ _ (hS.alloc hS.size (.cells (cellsT (0, (d, nn))) 35)) ?_
            clear hK K
            have hzz := hS.size
            have R8 := Lib.hid (tr_new (0, (d, nn)) X2)
            have LA' := Lib.hid (LA.out.below (balloc (Below.refl _ X2) (.cells (cellsT (0, (d, nn))) 35)))
            clear LA
            have LA := LA'
            clear LA'
            have hS' := hS.alloc hS.size (.cells (cellsT (0, (d, nn))) 35)
            clear hS
            have hS := hS'
            clear hS' hzz
            generalize hYX3 : X2.alloc (.cells (cellsT (0, (d, nn))) 35) = X3 at *
            clear hYX3
            generalize hg8 : X2.heap.size = g8 at *
            clear hg8
            try simp only [Act.put, List.setIfInBounds_toArray, List.set_cons_zero, List.set_cons_succ]
            refine H.one (i := 9) (by simp only [List.getElem?_toArray, List.getElem?_cons_succ, List.getElem?_cons_zero]; rfl) (by kernel_rfl) (by kernel_rfl) (fun K hK => ?_)
            have hzz := hS.size
            refine wp_tlvs _ _ rfl (wr.heap.size) _ (l.take k) ([(0, (d, nn))]) (some ⟨g8, 0, none⟩) (1) rfl LA.out (rfl) (R8.out) (by rw [HLK.out]; simp only [List.length_cons, List.length_nil]; omega) hzz ?_
            intro v2 X4 ha hb hg
            refine hK.out _ _ (hS.trans hb) ?_
            clear hK K
            have hS' := hS.trans hb
            clear hS LA
            have hS := hS'
            have LA := Lib.hid ha
            clear hS' ha hb hg hzz
            try simp only [Act.put, List.setIfInBounds_toArray, List.set_cons_zero, List.set_cons_succ]
            refine H.one (i := 13) (by simp only [List.getElem?_toArray, List.getElem?_cons_succ, List.getElem?_cons_zero]; rfl) (by kernel_rfl) (by kernel_rfl) (fun K hK => ?_)
            have hzz := hS.size
            refine wp_tlvs _ _ rfl (wr.heap.size) _ (l.take k ++ [(0, (d, nn))]) (l.drop k) (subA a kc k 3) (kc - k) rfl LA.out (by rw [HLD.out]; rfl) (tr_drop (HL.out.below hS) hkc k) (by rw [List.length_append, HLK.out, HLD.out]; simp only [List.length_cons, List.length_nil]; omega) hzz ?_
            intro v3 X5 ha hb hg
            refine hK.out _ _ (hS.trans hb) ?_
            clear hK K
            have hS' := hS.trans hb
            clear hS LA
            have hS := hS'
            have LA := Lib.hid ha
            clear hS' ha hb hg hzz
            try simp only [Act.put, List.setIfInBounds_toArray, List.set_cons_zero, List.set_cons_succ]
            refine H.tk (i := 14) (v := v3) ?h14x12p hS ?_
            case h14x12p => exact (fun w hw => by go_simp)
            try simp only [Act.put, List.setIfInBounds_toArray, List.set_cons_zero, List.set_cons_succ]
            refine wpAnyH_done (by kernel_rfl) ?_ _
            obtain ⟨za, zc, rfl⟩ := LA.out.slice
            go_wp2_with fail
            go_meet
            exact ⟨za, zc, _, rfl, by rw [List.length_append, List.length_append, HLK.out, HLD.out]; simp only [List.length_cons, List.length_nil]; omega, LA.out.row, hS⟩
          case wb11p =>
            refine wp_valW rfl (Tl.ex_bs (m := (0, (d, nn))) rfl rfl) ?_
            refine hK.out _ _ (hS.alloc hS.size (.cells (cellsT (0, (d, nn))) 35)) ?_
            clear hK K
            have hzz := hS.size
            have R8 := Lib.hid (tr_new (0, (d, nn)) X1)
            have hgl := (World.ownsRow.lt LA.out g0 rfl).2
            have LA' := Lib.hid (LA.out.below (balloc (Below.refl _ X1) (.cells (cellsT (0, (d, nn))) 35)))
            clear LA
            have LA := LA'
            clear LA'
            have hS' := hS.alloc hS.size (.cells (cellsT (0, (d, nn))) 35)
            clear hS
            have hS := hS'
            clear hS' hzz
            generalize hYX2 : X1.alloc (.cells (cellsT (0, (d, nn))) 35) = X2 at *
            clear hYX2
            generalize hg8 : X1.heap.size = g8 at *
            clear hg8
            have NE := Lib.hid (show ∀ p : Addr, some (⟨g8, 0, none⟩ : Addr) = some p → some p.block ≠ Value.ownBlock (.slice (some ⟨g0, 0, none⟩) 0 0) from fun p hp => by obtain rfl := Option.some.inj hp; simp [Value.ownBlock]; omega)
            clear hgl
            try simp only [Act.put, List.setIfInBounds_toArray, List.set_cons_zero, List.set_cons_succ]
            refine H.one (i := 4) (by simp only [List.getElem?_toArray, List.getElem?_cons_succ, List.getElem?_cons_zero]; rfl) (by kernel_rfl) (by kernel_rfl) (fun K hK => ?_)
            have hzz := hS.size
            refine wp_tlvs _ _ rfl (wr.heap.size) _ ([]) (l.take k) (a) (kc) rfl LA.out (by rw [HLK.out]; rfl) (tr_take (HL.out.below hS) k) (by rw [HLK.out]; simp only [List.length_nil]; omega) hzz ?_
            intro v1 X3 ha hb hg
            refine hK.out _ _ (hS.trans hb) ?_
            clear hK K
            have hS' := hS.trans hb
            have R8' := Lib.hid (tr_grown R8.out hg NE.out)
            clear NE R8
            have R8 := R8'
            clear R8'
            clear hS LA
            have hS := hS'
            have LA := Lib.hid ha
            clear hS' ha hb hg hzz
            rw [List.nil_append] at LA
            try simp only [Act.put, List.setIfInBounds_toArray, List.set_cons_zero, List.set_cons_succ]
            refine H.one (i := 9) (by simp only [List.getElem?_toArray, List.getElem?_cons_succ, List.getElem?_cons_zero]; rfl) (by kernel_rfl) (by kernel_rfl) (fun K hK => ?_)
            have hzz := hS.size
            refine wp_tlvs _ _ rfl (wr.heap.size) _ (l.take k) ([(0, (d, nn))]) (some ⟨g8, 0, none⟩) (1) rfl LA.out (rfl) (R8.out) (by rw [HLK.out]; simp only [List.length_cons, List.length_nil]; omega) hzz ?_
            intro v2 X4 ha hb hg
            refine hK.out _ _ (hS.trans hb) ?_
            clear hK K
            have hS' := hS.trans hb
            clear hS LA
            have hS := hS'
            have LA := Lib.hid ha
            clear hS' ha hb hg hzz
            try simp only [Act.put, List.setIfInBounds_toArray, List.set_cons_zero, List.set_cons_succ]
            refine H.one (i := 13) (by simp only [List.getElem?_toArray, List.getElem?_cons_succ, List.getElem?_cons_zero]; rfl) (by kernel_rfl) (by kernel_rfl) (fun K hK => ?_)
            have hzz := hS.size
            refine wp_tlvs _ _ rfl (wr.heap.size) _ (l.take k ++ [(0, (d, nn))]) (l.drop k) (subA a kc k 3) (kc - k) rfl LA.out (by rw [HLD.out]; rfl) (tr_drop (HL.out.below hS) hkc k) (by rw [List.length_append, HLK.out, HLD.out]; simp only [List.length_cons, List.length_nil]; omega) hzz ?_
            intro v3 X5 ha hb hg
            refine hK.out _ _ (hS.trans hb) ?_
            clear hK K
            have hS' := hS.trans hb
            clear hS LA
            have hS := hS'
            have LA := Lib.hid ha
            clear hS' ha hb hg hzz
            try simp only [Act.put, List.setIfInBounds_toArray, List.set_cons_zero, List.set_cons_succ]
            refine H.tk (i := 14) (v := v3) ?h14x13p hS ?_
            case h14x13p => exact (fun w hw => by go_simp)
            try simp only [Act.put, List.setIfInBounds_toArray, List.set_cons_zero, List.set_cons_succ]
            refine wpAnyH_done (by kernel_rfl) ?_ _
            obtain ⟨za, zc, rfl⟩ := LA.out.slice
            go_wp2_with fail
            go_meet
            exact ⟨za, zc, _, rfl, by rw [List.length_append, List.length_append, HLK.out, HLD.out]; simp only [List.length_cons, List.length_nil]; omega, LA.out.row, hS⟩
        case wb10p =>
          refine wp_valW rfl (Tl.ex_bs (m := (0, (d, nn))) rfl rfl) ?_
          refine hK.out _ _ (hS.alloc hS.size (.cells (cellsT (0, (d, nn))) 35)) ?_
          clear hK K
          have hzz := hS.size
          have R8 := Lib.hid (tr_new (0, (d, nn)) X0)
          have hS' := hS.alloc hS.size (.cells (cellsT (0, (d, nn))) 35)
          clear hS
          have hS := hS'
          clear hS' hzz
          have hlt8 : X0.heap.size < (X0.alloc (.cells (cellsT (0, (d, nn))) 35)).heap.size := by rw [alloc_size]; exact Nat.lt_succ_self _
          generalize hYX1 : X0.alloc (.cells (cellsT (0, (d, nn))) 35) = X1 at *
          clear hYX1
          generalize hg8 : X0.heap.size = g8 at *
          clear hg8
          have R8' := Lib.hid (And.intro hlt8 R8.out)
          clear R8
          have R8 := R8'
          clear R8' hlt8
          try simp only [Act.put, List.setIfInBounds_toArray, List.set_cons_zero, List.set_cons_succ]
          refine H.one (i := 0) (by simp only [List.getElem?_toArray, List.getElem?_cons_zero]; rfl) (by kernel_rfl) (by kernel_rfl) (fun K hK => ?_)
          refine wp_valW rfl (ex_bs0T rfl) ?_
          refine hK.out _ _ (hS.alloc hS.size (.cells #[] 35)) ?_
          clear hK K
          have hzz := hS.size
          have LA := Lib.hid (tl_made (B := wr.heap.size) hzz (.cells #[] 35) rfl)
          have hgl := R8.out.1
          have R8' := Lib.hid (R8.out.2.below (balloc (Below.refl _ X1) (.cells #[] 35)))
          clear R8
          have R8 := R8'
          clear R8'
          have hS' := hS.alloc hS.size (.cells #[] 35)
          clear hS
          have hS := hS'
          clear hS' hzz
          generalize hYX2 : X1.alloc (.cells #[] 35) = X2 at *
          clear hYX2
          generalize hg0 : X1.heap.size = g0 at *
          clear hg0
          have NE := Lib.hid (show ∀ p : Addr, some (⟨g8, 0, none⟩ : Addr) = some p → some p.block ≠ Value.ownBlock (.slice (some ⟨g0, 0, none⟩) 0 0) from fun p hp => by obtain rfl := Option.some.inj hp; simp [Value.ownBlock]; omega)
          clear hgl
          try simp only [Act.put, List.setIfInBounds_toArray, List.set_cons_zero, List.set_cons_succ]
          refine H.one (i := 4) (by simp only [List.getElem?_toArray, List.getElem?_cons_succ, List.getElem?_cons_zero]; rfl) (by kernel_rfl) (by kernel_rfl) (fun K hK => ?_)
          have hzz := hS.size
          refine wp_tlvs _ _ rfl (wr.heap.size) _ ([]) (l.take k) (a) (kc) rfl LA.out (by rw [HLK.out]; rfl) (tr_take (HL.out.below hS) k) (by rw [HLK.out]; simp only [List.length_nil]; omega) hzz ?_
          intro v1 X3 ha hb hg
          refine hK.out _ _ (hS.trans hb) ?_
          clear hK K
          have hS' := hS.trans hb
          have R8' := Lib.hid (tr_grown R8.out hg NE.out)
          clear NE R8
          have R8 := R8'
          clear R8'
          clear hS LA
          have hS := hS'
          have LA := Lib.hid ha
          clear hS' ha hb hg hzz
          rw [List.nil_append] at LA
          try simp only [Act.put, List.setIfInBounds_toArray, List.set_cons_zero, List.set_cons_succ]
          refine H.one (i := 9) (by simp only [List.getElem?_toArray, List.getElem?_cons_succ, List.getElem?_cons_zero]; rfl) (by kernel_rfl) (by kernel_rfl) (fun K hK => ?_)
          have hzz := hS.size
          refine wp_tlvs _ _ rfl (wr.heap.size) _ (l.take k) ([(0, (d, nn))]) (some ⟨g8, 0, none⟩) (1) rfl LA.out (rfl) (R8.out) (by rw [HLK.out]; simp only [List.length_cons, List.length_nil]; omega) hzz ?_
          intro v2 X4 ha hb hg
          refine hK.out _ _ (hS.trans hb) ?_
          clear hK K
          have hS' := hS.trans hb
          clear hS LA
          have hS := hS'
          have LA := Lib.hid ha
          clear hS' ha hb hg hzz
          try simp only [Act.put, List.setIfInBounds_toArray, List.set_cons_zero, List.set_cons_succ]
          refine H.one (i := 13) (by simp only [List.getElem?_toArray, List.getElem?_cons_succ, List.getElem?_cons_zero]; rfl) (by kernel_rfl) (by kernel_rfl) (fun K hK => ?_)
          have hzz := hS.size
          refine wp_tlvs _ _ rfl (wr.heap.size) _ (l.take k ++ [(0, (d, nn))]) (l.drop k) (subA a kc k 3) (kc - k) rfl LA.out (by rw [HLD.out]; rfl) (tr_drop (HL.out.below hS) hkc k) (by rw [List.length_append, HLK.out, HLD.out]; simp only [List.length_cons, List.length_nil]; omega) hzz ?_
          intro v3 X5 ha hb hg
          refine hK.out _ _ (hS.trans hb) ?_
          clear hK K
          have hS' := hS.trans hb
          clear hS LA
          have hS := hS'
          have LA := Lib.hid ha
          clear hS' ha hb hg hzz
          try simp only [Act.put, List.setIfInBounds_toArray, List.set_cons_zero, List.set_cons_succ]
          refine H.tk (i := 14) (v := v3) ?h14x14p hS ?_
          case h14x14p => exact (fun w hw => by go_simp)
          try simp only [Act.put, List.setIfInBounds_toArray, List.set_cons_zero, List.set_cons_succ]
          refine wpAnyH_done (by kernel_rfl) ?_ _
          obtain ⟨za, zc, rfl⟩ := LA.out.slice
          go_wp2_with fail
          go_meet
          exact ⟨za, zc, _, rfl, by rw [List.length_append, List.length_append, HLK.out, HLD.out]; simp only [List.length_cons, List.length_nil]; omega, LA.out.row, hS⟩
      case rest =>
        obtain ⟨za, zc, zn, rfl, hzn, hza, hbz⟩ := hcut
        have HZN := Lib.hid hzn
        have HB := Lib.hid (bcall HB.out hbz)
        have HL := Lib.hid (HL.out.below hbz)
        have HZ := Lib.hid hza
        clear hza hbz hzn
        generalize wc = V0 at *
        go_wp2_with fail
        refine (P1.out _ HL.out (HT.out.below HB.out)).mono ?_
        rintro e w2 ⟨qa1, qk1, l1, rfl, hp1, hm1, hb, -⟩
        have HL := Lib.hid (HL.out.below hb)
        have HZ := Lib.hid (HZ.out.below hb)
        have hws := HB.out.size
        have HB := Lib.hid (bcall HB.out hb)
        clear hb
        go_upto_region 12 with (refine wpList_storeX (b := w2.heap.size) (m := Kx.zero) (m' := qa.2.1) rfl _ _ rfl rfl rfl (Bk.Bk.new 44 w2 Kx.zero.cells) ?_)
        change Code.wp _ _ _ _ ((w2.alloc (.cells Kx.zero.cells 44)).setRow w2.heap.size qa.2.1.cells)
        rw [World.setRow_alloc_new]
        have bel := balloc (Below.refl w2.heap.size w2) (.cells qa.2.1.cells 44)
        have HL := Lib.hid (HL.out.below bel)
        have HZ := Lib.hid (HZ.out.below bel)
        have HB := Lib.hid (bcall HB.out bel)
        have XS1 := Lib.hid (Bk.Bk.new 44 w2 qa.2.1.cells)
        have HM1 := Lib.hid ((hm1.mono hws).below bel)
        have HP1 := Lib.hid hp1
        clear bel hm1 hp1 hws
        generalize w2.alloc (.cells qa.2.1.cells 44) = V2 at *
        generalize w2.heap.size = g1 at *
        clear P1 SL SM XS1
        go_wp2_with fail
        refine (P2.out _ HL.out (HT.out.below HB.out)).mono ?_
        rintro e w3 ⟨qa2, qk2, l2, rfl, hp2, hm2, hb, hk2⟩
        have HM1 := Lib.hid (HM1.out.below hb)
        have HZ := Lib.hid (HZ.out.below hb)
        have hws := HB.out.size
        have HB := Lib.hid (bcall HB.out hb)
        clear hb
        go_upto_region 13 with (refine wpList_storeX (b := w3.heap.size) (m := Kx.zero) (m' := qb.2.1) rfl _ _ rfl rfl rfl (Bk.Bk.new 44 w3 Kx.zero.cells) ?_)
        change Code.wp _ _ _ _ ((w3.alloc (.cells Kx.zero.cells 44)).setRow w3.heap.size qb.2.1.cells)
        rw [World.setRow_alloc_new]
        have bel := balloc (Below.refl w3.heap.size w3) (.cells qb.2.1.cells 44)
        have HM1 := Lib.hid (HM1.out.below bel)
        have HZ := Lib.hid (HZ.out.below bel)
        have HB := Lib.hid (bcall HB.out bel)
        have XS2 := Lib.hid (Bk.Bk.new 44 w3 qb.2.1.cells)
        have HM2 := Lib.hid ((hm2.mono hws).below bel)
        have HP2 := Lib.hid hp2
        clear bel hm2 hp2 hws
        generalize w3.alloc (.cells qb.2.1.cells 44) = V3 at *
        generalize w3.heap.size = g2 at *
        clear P2 HL
        go_wp2_with fail
        refine (P3.out _ _ _ _ HZN.out HZ.out (HT.out.below HB.out)).mono ?_
        rintro e w4 ⟨qa3, qk3, l3, rfl, hp3, hm3, hb, -⟩
        have HM1 := Lib.hid (HM1.out.below hb)
        have HM2 := Lib.hid (HM2.out.below hb)
        have XS2 := Lib.hid (XS2.out.below hb)
        have hws := HB.out.size
        have HB := Lib.hid (bcall HB.out hb)
        clear hb
        go_upto_region 14 with (refine wpList_storeX (b := w4.heap.size) (m := Kx.zero) (m' := qc.2.1) rfl _ _ rfl rfl rfl (Bk.Bk.new 44 w4 Kx.zero.cells) ?_)
        change Code.wp _ _ _ _ ((w4.alloc (.cells Kx.zero.cells 44)).setRow w4.heap.size qc.2.1.cells)
        rw [World.setRow_alloc_new]
        have bel := balloc (Below.refl w4.heap.size w4) (.cells qc.2.1.cells 44)
        have HM1 := Lib.hid (HM1.out.below bel)
        have HM2 := Lib.hid (HM2.out.below bel)
        have XS2 := Lib.hid (XS2.out.below bel)
        have HB := Lib.hid (bcall HB.out bel)
        have XS3 := Lib.hid (Bk.Bk.new 44 w4 qc.2.1.cells)
        have HM3 := Lib.hid ((hm3.mono hws).below bel)
        have HP3 := Lib.hid hp3
        clear bel hm3 hp3 hws
        generalize w4.alloc (.cells qc.2.1.cells 44) = V4 at *
        generalize w4.heap.size = g3 at *
        clear P3 HZ HZN HLK HLD
        rcases HOP.out with ⟨p, e, he, h1, h3⟩ | ⟨r, c, h1, ⟨p, e, he, h2, h3⟩ | ⟨s, c', h2, h3⟩⟩
        · subst h1 h3
          dsimp only at HP1 HP3 ⊢
          obtain rfl := HP1.out.at_nil
          have e1 : (e == 0) = false := by simpa using he
          have e2 : (e != 0) = true := by rw [bne, e1]; rfl
          clear he HOP HP1 HP2 HP3 HM1 HM2 HM3 HS1 HS2 HS3 hk2 RL RM RN XS2 XS3
          go_wp2_with fail
          refine (awake_any _ (HT.out.below HB.out)).mono ?_
          rintro r w5 ⟨rfl, hb⟩
          have HB := Lib.hid (bcall HB.out hb)
          clear hb
          go_wp2
          go_ret
          exact ⟨rfl, HB.out⟩
        · subst h1 h2 h3
          dsimp only at HP1 HP2 HP3 ⊢
          obtain rfl := HP2.out.at_nil
          have e1 : (e == 0) = false := by simpa using he
          have e2 : (e != 0) = true := by rw [bne, e1]; rfl
          clear he HOP HP1 HP2 HP3 HM1 HM2 HM3 HS1 HS2 HS3 hk2 RL RM RN XS2 XS3
          go_wp2_with fail
          refine (awake_any _ (HT.out.below HB.out)).mono ?_
          rintro r w5 ⟨rfl, hb⟩
          have HB := Lib.hid (bcall HB.out hb)
          clear hb
          go_wp2
          go_ret
          exact ⟨rfl, HB.out⟩
        · subst h1 h2 h3
          dsimp only at HP1 HP2 HP3 HS1 HS2 HS3 RL RM RN XS2 XS3 ⊢
          have y0 : l1.length ≤ l2.length := by rw [HP1.out.1, HP2.out.1, List.length_append]; omega
          have y0' : ¬ (l2.length : Int) < (l1.length : Int) := by omega
          have y1 : l1.length ≤ 40 := by rw [HP1.out.1]; exact RL.out
          have y2 : l2.length ≤ 40 := by rw [HP2.out.1]; exact RM.out
          have y3 : l3.length ≤ 41 := by rw [HP3.out.1]; exact RN.out
          have HCP := Lib.hid (cut_is (x := opM nn d) HP1.out HP2.out)
          have HLK := Lib.hid (show (l2.take l1.length).length = l1.length by rw [List.length_take]; omega)
          have HLD := Lib.hid (show (l2.drop l1.length).length = l2.length - l1.length from List.length_drop)
          have hlw : (l2.take l1.length ++ [opM nn d] ++ l2.drop l1.length).length ≤ 41 := by rw [HCP.out.1]; exact RN.out
          have HSC := Lib.hid (HCP.out.short HS3.out)
          have hse : sameL l3 (l2.take l1.length ++ [opM nn d] ++ l2.drop l1.length) = true := by rw [HP3.out.same HCP.out]; exact sameL_refl _
          have HSL := Lib.hid (HP3.out.short HS3.out)
          have PS := Lib.hid (fun za zc zn V (hq : zn = (l2.take l1.length ++ [opM nn d] ++ l2.drop l1.length).length) h h' => by have := rsameAll_any qa3 za qk3 zc l3 (l2.take l1.length ++ [opM nn d] ++ l2.drop l1.length) V h h' HSL.out HSC.out (by omega) (by omega); rw [hse, ← hq] at this; exact this)
          have SL := fun W => slM_hi qa2 l2.length qk2 l1.length (Nat.le_trans y0 hk2) W
          have SM := fun W => slM_lo qa2 l2.length qk2 l1.length y0 W
          clear HOP HP1 HP2 HP3 HS1 HS2 HS3 RL RM RN HCP HSC HSL hse hlw y3 HM1
          have hBZ : w.heap.size ≤ V4.heap.size := HB.out.size
          go_upto_region 16 with fail
          go_cut [23] (fun m wx => ∃ (za : Option Addr) (zc zn : Nat), m = .slice za zn zc ∧ zn = (l2.take l1.length ++ [opM nn d] ++ l2.drop l1.length).length ∧ MOwn w.heap.size wx za (l2.take l1.length ++ [opM nn d] ++ l2.drop l1.length) ∧ Below V4.heap.size V4 wx)
          case first =>
            refine wp_region_held_drew (S := fun W => Below V4.heap.size V4 W) (by kernel_rfl) (Below.refl _ V4).drew (fun hS => ?_)
            generalize V4.drew = X0 at *
            refine H.tk (i := 1) (v := .slice qa2 l2.length qk2) ?h1x1q hS ?_
            case h1x1q => exact (fun w hw => by go_simp)
            try simp only [Act.put, List.setIfInBounds_toArray, List.set_cons_zero, List.set_cons_succ]
            refine H.tk (i := 2) (v := .slice qa1 l1.length qk1) ?h2x2q hS ?_
            case h2x2q => exact (fun w hw => by go_simp)
            try simp only [Act.put, List.setIfInBounds_toArray, List.set_cons_zero, List.set_cons_succ]
            refine H.tk (i := 3) (v := .int .i64 (l1.length : Int)) ?h3x3q hS ?_
            case h3x3q => exact (fun w hw => by go_simp)
            try simp only [Act.put, List.setIfInBounds_toArray, List.set_cons_zero, List.set_cons_succ]
            refine H.tk (i := 4) (v := .slice qa2 l1.length qk2) ?h4x4q hS ?_
            case h4x4q => exact (fun w hw => by go_simp)
            try simp only [Act.put, List.setIfInBounds_toArray, List.set_cons_zero, List.set_cons_succ]
            refine H.tk (i := 6) (v := .int .i64 nn) ?h6x5q hS ?_
            case h6x5q => exact (fun w hw => by go_simp)
            try simp only [Act.put, List.setIfInBounds_toArray, List.set_cons_zero, List.set_cons_succ]
            refine H.tk (i := 7) (v := .string d) ?h7x6q hS ?_
            case h7x6q => exact (fun w hw => by go_simp)
            try simp only [Act.put, List.setIfInBounds_toArray, List.set_cons_zero, List.set_cons_succ]
            refine H.tk (i := 8) (v := .agg (M.cells (opM nn d))) ?h8x7q hS ?_
            case h8x7q => exact (fun w hw => ex_built rfl (by kernel_rfl))
            try simp only [Act.put, List.setIfInBounds_toArray, List.set_cons_zero, List.set_cons_succ]
            refine H.tk (i := 11) (v := .slice qa2 l2.length qk2) ?h11x8q hS ?_
            case h11x8q => exact (fun w hw => by go_simp)
            try simp only [Act.put, List.setIfInBounds_toArray, List.set_cons_zero, List.set_cons_succ]
            refine H.tk (i := 12) (v := .slice qa1 l1.length qk1) ?h12x9q hS ?_
            case h12x9q => exact (fun w hw => by go_simp)
            try simp only [Act.put, List.setIfInBounds_toArray, List.set_cons_zero, List.set_cons_succ]
            refine H.tk (i := 13) (v := .int .i64 (l1.length : Int)) ?h13x10q hS ?_
            case h13x10q => exact (fun w hw => by go_simp)
            try simp only [Act.put, List.setIfInBounds_toArray, List.set_cons_zero, List.set_cons_succ]
            refine H.tk (i := 14) (v := .slice (subA qa2 qk2 l1.length 25) (l2.length - l1.length) (qk2 - l1.length)) ?h14x11q hS ?_
            case h14x11q => exact (fun w hw => by go_simp)
            try simp only [Act.put, List.setIfInBounds_toArray, List.set_cons_zero, List.set_cons_succ]
            refine H.two (i := 0) (j := 9) (by simp only [List.getElem?_toArray, List.getElem?_cons_zero]; rfl) (by kernel_rfl) (by simp only [List.getElem?_toArray, List.getElem?_cons_succ, List.getElem?_cons_zero]; rfl) (by kernel_rfl) (by kernel_rfl) (fun K hK => ?wa12q) (fun K hK => ?wb12q)
            case wa12q =>
              refine wp_valW rfl (ex_bs0M rfl) ?_
              refine hK.out _ _ (hS.alloc hS.size (.cells #[] 53)) ?_
              clear hK K
              have hzz := hS.size
              have LA := Lib.hid (lm_made (S := w.heap.size) (B := V4.heap.size) hzz (.cells #[] 53) rfl)
              have hS' := hS.alloc hS.size (.cells #[] 53)
              clear hS
              have hS := hS'
              clear hS' hzz
              generalize hYX1 : X0.alloc (.cells #[] 53) = X1 at *
              clear hYX1
              generalize hg0 : X0.heap.size = g0 at *
              clear hg0
              try simp only [Act.put, List.setIfInBounds_toArray, List.set_cons_zero, List.set_cons_succ]
              refine H.two (i := 5) (j := 9) (by simp only [List.getElem?_toArray, List.getElem?_cons_succ, List.getElem?_cons_zero]; rfl) (by kernel_rfl) (by simp only [List.getElem?_toArray, List.getElem?_cons_succ, List.getElem?_cons_zero]; rfl) (by kernel_rfl) (by kernel_rfl) (fun K hK => ?wa13q) (fun K hK => ?wb13q)
              case wa13q =>
                have hzz := hS.size
                refine wp_list _ _ rfl (V4.heap.size) w.heap.size _ ([]) (l2.take l1.length) (qa2) (qk2) rfl LA.out (by rw [HLK.out]; rfl) (mo_take (HM2.out.below hS) _) (by rw [HLK.out]; simp only [List.length_nil]; omega) hzz ?_
                intro v1 X2 ha hb hg
                refine hK.out _ _ (hS.trans hb) ?_
                clear hK K
                have hS' := hS.trans hb
                clear hS LA
                have hS := hS'
                have LA := Lib.hid ha
                clear hS' ha hb hg hzz
                rw [List.nil_append] at LA
                try simp only [Act.put, List.setIfInBounds_toArray, List.set_cons_zero, List.set_cons_succ]
                refine H.one (i := 9) (by simp only [List.getElem?_toArray, List.getElem?_cons_succ, List.getElem?_cons_zero]; rfl) (by kernel_rfl) (by kernel_rfl) (fun K hK => ?_)
                refine wp_valW rfl (Ap.ex_bs (m := opM nn d) rfl rfl) ?_
                refine hK.out _ _ (hS.alloc hS.size (.cells (M.cells (opM nn d)) 53)) ?_
                clear hK K
                have hzz := hS.size
                have R8 := Lib.hid (one_new (n := opM nn d) rfl (Sx.Lst.nil w.heap.size _) (Nat.le_trans hBZ hzz))
                have LA' := Lib.hid (LA.out.below (balloc (Below.refl _ X2) (.cells (M.cells (opM nn d)) 53)))
                clear LA
                have LA := LA'
                clear LA'
                have hS' := hS.alloc hS.size (.cells (M.cells (opM nn d)) 53)
                clear hS
                have hS := hS'
                clear hS' hzz
                generalize hYX3 : X2.alloc (.cells (M.cells (opM nn d)) 53) = X3 at *
                clear hYX3
                generalize hg8 : X2.heap.size = g8 at *
                clear hg8
                try simp only [Act.put, List.setIfInBounds_toArray, List.set_cons_zero, List.set_cons_succ]
                refine H.one (i := 10) (by simp only [List.getElem?_toArray, List.getElem?_cons_succ, List.getElem?_cons_zero]; rfl) (by kernel_rfl) (by kernel_rfl) (fun K hK => ?_)
                have hzz := hS.size
                refine wp_list _ _ rfl (V4.heap.size) w.heap.size _ (l2.take l1.length) ([opM nn d]) (some ⟨g8, 0, none⟩) (1) rfl LA.out (rfl) (R8.out) (by rw [HLK.out]; simp only [List.length_cons, List.length_nil]; omega) hzz ?_
                intro v2 X4 ha hb hg
                refine hK.out _ _ (hS.trans hb) ?_
                clear hK K
                have hS' := hS.trans hb
                clear hS LA
                have hS := hS'
                have LA := Lib.hid ha
                clear hS' ha hb hg hzz
                try simp only [Act.put, List.setIfInBounds_toArray, List.set_cons_zero, List.set_cons_succ]
                refine H.one (i := 15) (by simp only [List.getElem?_toArray, List.getElem?_cons_succ, List.getElem?_cons_zero]; rfl) (by kernel_rfl) (by kernel_rfl) (fun K hK => ?_)
                have hzz := hS.size
                refine wp_list _ _ rfl (V4.heap.size) w.heap.size _ (l2.take l1.length ++ [opM nn d]) (l2.drop l1.length) (subA qa2 qk2 l1.length 25) (qk2 - l1.length) rfl LA.out (by rw [HLD.out]; rfl) (mo_drop (HM2.out.below hS) hk2 _) (by rw [List.length_append, HLK.out, HLD.out]; simp only [List.length_cons, List.length_nil]; omega) hzz ?_
                intro v3 X5 ha hb hg
                refine hK.out _ _ (hS.trans hb) ?_
                clear hK K
                have hS' := hS.trans hb
                clear hS LA
                have hS := hS'
                have LA := Lib.hid ha
                clear hS' ha hb hg hzz
                try simp only [Act.put, List.setIfInBounds_toArray, List.set_cons_zero, List.set_cons_succ]
                refine H.tk (i := 16) (v := v3) ?h16x14q hS ?_
                case h16x14q => exact (fun w hw => by go_simp)
                try simp only [Act.put, List.setIfInBounds_toArray, List.set_cons_zero, List.set_cons_succ]
                refine wpAnyH_done (by kernel_rfl) ?_ _
                obtain ⟨za, zc, rfl⟩ := LA.out.slice
                go_wp2_with fail
                go_meet
                exact ⟨za, zc, _, rfl, by rw [List.length_append, List.length_append, HLK.out, HLD.out]; simp only [List.length_cons, List.length_nil]; omega, LA.out.own hBZ, hS⟩
              case wb13q =>
                refine wp_valW rfl (Ap.ex_bs (m := opM nn d) rfl rfl) ?_
                refine hK.out _ _ (hS.alloc hS.size (.cells (M.cells (opM nn d)) 53)) ?_
                clear hK K
                have hzz := hS.size
                have R8 := Lib.hid (one_new (n := opM nn d) rfl (Sx.Lst.nil w.heap.size _) (Nat.le_trans hBZ hzz))
                have hgl := (World.ownsRow.lt LA.out.1 g0 rfl).2
                have LA' := Lib.hid (LA.out.below (balloc (Below.refl _ X1) (.cells (M.cells (opM nn d)) 53)))
                clear LA
                have LA := LA'
                clear LA'
                have hS' := hS.alloc hS.size (.cells (M.cells (opM nn d)) 53)
                clear hS
                have hS := hS'
                clear hS' hzz
                generalize hYX2 : X1.alloc (.cells (M.cells (opM nn d)) 53) = X2 at *
                clear hYX2
                generalize hg8 : X1.heap.size = g8 at *
                clear hg8
                have NE := Lib.hid (show ∀ p : Addr, some (⟨g8, 0, none⟩ : Addr) = some p → some p.block ≠ Value.ownBlock (.slice (some ⟨g0, 0, none⟩) 0 0) from fun p hp => by obtain rfl := Option.some.inj hp; simp [Value.ownBlock]; omega)
                clear hgl
                try simp only [Act.put, List.setIfInBounds_toArray, List.set_cons_zero, List.set_cons_succ]
                refine H.one (i := 5) (by simp only [List.getElem?_toArray, List.getElem?_cons_succ, List.getElem?_cons_zero]; rfl) (by kernel_rfl) (by kernel_rfl) (fun K hK => ?_)
                have hzz := hS.size
                refine wp_list _ _ rfl (V4.heap.size) w.heap.size _ ([]) (l2.take l1.length) (qa2) (qk2) rfl LA.out (by rw [HLK.out]; rfl) (mo_take (HM2.out.below hS) _) (by rw [HLK.out]; simp only [List.length_nil]; omega) hzz ?_
                intro v1 X3 ha hb hg
                refine hK.out _ _ (hS.trans hb) ?_
                clear hK K
                have hS' := hS.trans hb
                have R8' := Lib.hid (mo_grown R8.out LA.out hg NE.out)
                clear NE R8
                have R8 := R8'
                clear R8'
                clear hS LA
                have hS := hS'
                have LA := Lib.hid ha
                clear hS' ha hb hg hzz
                rw [List.nil_append] at LA
                try simp only [Act.put, List.setIfInBounds_toArray, List.set_cons_zero, List.set_cons_succ]
                refine H.one (i := 10) (by simp only [List.getElem?_toArray, List.getElem?_cons_succ, List.getElem?_cons_zero]; rfl) (by kernel_rfl) (by kernel_rfl) (fun K hK => ?_)
                have hzz := hS.size
                refine wp_list _ _ rfl (V4.heap.size) w.heap.size _ (l2.take l1.length) ([opM nn d]) (some ⟨g8, 0, none⟩) (1) rfl LA.out (rfl) (R8.out) (by rw [HLK.out]; simp only [List.length_cons, List.length_nil]; omega) hzz ?_
                intro v2 X4 ha hb hg
                refine hK.out _ _ (hS.trans hb) ?_
                clear hK K
                have hS' := hS.trans hb
                clear hS LA
                have hS := hS'
                have LA := Lib.hid ha
                clear hS' ha hb hg hzz
                try simp only [Act.put, List.setIfInBounds_toArray, List.set_cons_zero, List.set_cons_succ]
                refine H.one (i := 15) (by simp only [List.getElem?_toArray, List.getElem?_cons_succ, List.getElem?_cons_zero]; rfl) (by kernel_rfl) (by kernel_rfl) (fun K hK => ?_)
                have hzz := hS.size
                refine wp_list _ _ rfl (V4.heap.size) w.heap.size _ (l2.take l1.length ++ [opM nn d]) (l2.drop l1.length) (subA qa2 qk2 l1.length 25) (qk2 - l1.length) rfl LA.out (by rw [HLD.out]; rfl) (mo_drop (HM2.out.below hS) hk2 _) (by rw [List.length_append, HLK.out, HLD.out]; simp only [List.length_cons, List.length_nil]; omega) hzz ?_
                intro v3 X5 ha hb hg
                refine hK.out _ _ (hS.trans hb) ?_
                clear hK K
                have hS' := hS.trans hb
                clear hS LA
                have hS := hS'
                have LA := Lib.hid ha
                clear hS' ha hb hg hzz
                try simp only [Act.put, List.setIfInBounds_toArray, List.set_cons_zero, List.set_cons_succ]
                refine H.tk (i := 16) (v := v3) ?h16x15q hS ?_
                case h16x15q => exact (fun w hw => by go_simp)
                try simp only [Act.put, List.setIfInBounds_toArray, List.set_cons_zero, List.set_cons_succ]
                refine wpAnyH_done (by kernel_rfl) ?_ _
                obtain ⟨za, zc, rfl⟩ := LA.out.slice
                go_wp2_with fail
                go_meet
                exact ⟨za, zc, _, rfl, by rw [List.length_append, List.length_append, HLK.out, HLD.out]; simp only [List.length_cons, List.length_nil]; omega, LA.out.own hBZ, hS⟩
            case wb12q =>
              refine wp_valW rfl (Ap.ex_bs (m := opM nn d) rfl rfl) ?_
              refine hK.out _ _ (hS.alloc hS.size (.cells (M.cells (opM nn d)) 53)) ?_
              clear hK K
              have hzz := hS.size
              have R8 := Lib.hid (one_new (n := opM nn d) rfl (Sx.Lst.nil w.heap.size _) (Nat.le_trans hBZ hzz))
              have hS' := hS.alloc hS.size (.cells (M.cells (opM nn d)) 53)
              clear hS
              have hS := hS'
              clear hS' hzz
              have hlt8 : X0.heap.size < (X0.alloc (.cells (M.cells (opM nn d)) 53)).heap.size := by rw [alloc_size]; exact Nat.lt_succ_self _
              generalize hYX1 : X0.alloc (.cells (M.cells (opM nn d)) 53) = X1 at *
              clear hYX1
              generalize hg8 : X0.heap.size = g8 at *
              clear hg8
              have R8' := Lib.hid (And.intro hlt8 R8.out)
              clear R8
              have R8 := R8'
              clear R8' hlt8
              try simp only [Act.put, List.setIfInBounds_toArray, List.set_cons_zero, List.set_cons_succ]
              refine H.one (i := 0) (by simp only [List.getElem?_toArray, List.getElem?_cons_zero]; rfl) (by kernel_rfl) (by kernel_rfl) (fun K hK => ?_)
              refine wp_valW rfl (ex_bs0M rfl) ?_
              refine hK.out _ _ (hS.alloc hS.size (.cells #[] 53)) ?_
              clear hK K
              have hzz := hS.size
              have LA := Lib.hid (lm_made (S := w.heap.size) (B := V4.heap.size) hzz (.cells #[] 53) rfl)
              have hgl := R8.out.1
              have R8' := Lib.hid (R8.out.2.below (balloc (Below.refl _ X1) (.cells #[] 53)))
              clear R8
              have R8 := R8'
              clear R8'
              have hS' := hS.alloc hS.size (.cells #[] 53)
              clear hS
              have hS := hS'
              clear hS' hzz
              generalize hYX2 : X1.alloc (.cells #[] 53) = X2 at *
              clear hYX2
              generalize hg0 : X1.heap.size = g0 at *
              clear hg0
              have NE := Lib.hid (show ∀ p : Addr, some (⟨g8, 0, none⟩ : Addr) = some p → some p.block ≠ Value.ownBlock (.slice (some ⟨g0, 0, none⟩) 0 0) from fun p hp => by obtain rfl := Option.some.inj hp; simp [Value.ownBlock]; omega)
              clear hgl
              try simp only [Act.put, List.setIfInBounds_toArray, List.set_cons_zero, List.set_cons_succ]
              refine H.one (i := 5) (by simp only [List.getElem?_toArray, List.getElem?_cons_succ, List.getElem?_cons_zero]; rfl) (by kernel_rfl) (by kernel_rfl) (fun K hK => ?_)
              have hzz := hS.size
              refine wp_list _ _ rfl (V4.heap.size) w.heap.size _ ([]) (l2.take l1.length) (qa2) (qk2) rfl LA.out (by rw [HLK.out]; rfl) (mo_take (HM2.out.below hS) _) (by rw [HLK.out]; simp only [List.length_nil]; omega) hzz ?_
              intro v1 X3 ha hb hg
              refine hK.out _ _ (hS.trans hb) ?_
              clear hK K
              have hS' := hS.trans hb
              have R8' := Lib.hid (mo_grown R8.out LA.out hg NE.out)
              clear NE R8
              have R8 := R8'
              clear R8'
              clear hS LA
              have hS := hS'
              have LA := Lib.hid ha
              clear hS' ha hb hg hzz
              rw [List.nil_append] at LA
              try simp only [Act.put, List.setIfInBounds_toArray, List.set_cons_zero, List.set_cons_succ]
              refine H.one (i := 10) (by simp only [List.getElem?_toArray, List.getElem?_cons_succ, List.getElem?_cons_zero]; rfl) (by kernel_rfl) (by kernel_rfl) (fun K hK => ?_)
              have hzz := hS.size
              refine wp_list _ _ rfl (V4.heap.size) w.heap.size _ (l2.take l1.length) ([opM nn d]) (some ⟨g8, 0, none⟩) (1) rfl LA.out (rfl) (R8.out) (by rw [HLK.out]; simp only [List.length_cons, List.length_nil]; omega) hzz ?_
              intro v2 X4 ha hb hg
              refine hK.out _ _ (hS.trans hb) ?_
              clear hK K
              have hS' := hS.trans hb
              clear hS LA
              have hS := hS'
              have LA := Lib.hid ha
              clear hS' ha hb hg hzz
              try simp only [Act.put, List.setIfInBounds_toArray, List.set_cons_zero, List.set_cons_succ]
              refine H.one (i := 15) (by simp only [List.getElem?_toArray, List.getElem?_cons_succ, List.getElem?_cons_zero]; rfl) (by kernel_rfl) (by kernel_rfl) (fun K hK => ?_)
              have hzz := hS.size
              refine wp_list _ _ rfl (V4.heap.size) w.heap.size _ (l2.take l1.length ++ [opM nn d]) (l2.drop l1.length) (subA qa2 qk2 l1.length 25) (qk2 - l1.length) rfl LA.out (by rw [HLD.out]; rfl) (mo_drop (HM2.out.below hS) hk2 _) (by rw [List.length_append, HLK.out, HLD.out]; simp only [List.length_cons, List.length_nil]; omega) hzz ?_
              intro v3 X5 ha hb hg
              refine hK.out _ _ (hS.trans hb) ?_
              clear hK K
              have hS' := hS.trans hb
              clear hS LA
              have hS := hS'
              have LA := Lib.hid ha
              clear hS' ha hb hg hzz
              try simp only [Act.put, List.setIfInBounds_toArray, List.set_cons_zero, List.set_cons_succ]
              refine H.tk (i := 16) (v := v3) ?h16x16q hS ?_
              case h16x16q => exact (fun w hw => by go_simp)
              try simp only [Act.put, List.setIfInBounds_toArray, List.set_cons_zero, List.set_cons_succ]
              refine wpAnyH_done (by kernel_rfl) ?_ _
              obtain ⟨za, zc, rfl⟩ := LA.out.slice
              go_wp2_with fail
              go_meet
              exact ⟨za, zc, _, rfl, by rw [List.length_append, List.length_append, HLK.out, HLD.out]; simp only [List.length_cons, List.length_nil]; omega, LA.out.own hBZ, hS⟩
          case rest =>
            obtain ⟨za, zc, zn, rfl, hzn, hza, hbz⟩ := hcut
            have HZN := Lib.hid hzn
            have HB := Lib.hid (bcall HB.out hbz)
            have HM3 := Lib.hid (HM3.out.below hbz)
            have XS2 := Lib.hid (XS2.out.below hbz)
            have XS3 := Lib.hid (XS3.out.below hbz)
            have HZ := Lib.hid hza
            clear hza hbz hzn HM2 SL SM HLK HLD
            generalize wc = V5 at *
            go_wp2_with fail
            refine (awake_any _ (HT.out.below HB.out)).mono ?_
            rintro r w5 ⟨rfl, hb⟩
            have HB := Lib.hid (bcall HB.out hb)
            have HM3 := Lib.hid (HM3.out.below hb)
            have HZ := Lib.hid (HZ.out.below hb)
            have XS2 := Lib.hid (XS2.out.below hb)
            have XS3 := Lib.hid (XS3.out.below hb)
            clear hb
            go_wp2_with (first | (refine st_yes (v := .agg c'.cells) (by rfl) rfl (run_loadK shX (x := .tmp 16) rfl rfl XS2.out rfl) ?_) | (refine st_yes (v := .agg c'.cells) (by rfl) rfl (run_loadK shX (x := .tmp 20) rfl rfl XS3.out rfl) ?_) | (refine st_yes (v := .bool true) (by rfl) rfl (ex_eqX (c := c') (x := .tmp 166) (y := .tmp 167) rfl rfl rfl) ?_))
            refine (PS.out _ _ _ _ HZN.out HM3.out.row HZ.out.row).mono ?_
            rintro r w6 ⟨rfl, hb⟩
            have HB := Lib.hid (bcall HB.out hb)
            clear hb
            go_wp2
            go_ret
            exact ⟨rfl, HB.out⟩
    obtain ⟨p, rfl, hat⟩ := tl_at HL.out k hlt
    have ix := fun W => indexT p l.length kc k hlt W
    obtain ⟨c0, c1, c2⟩ := hat _ HB.out
    have HU := Lib.hid (show l[k] = l[k] from rfl)
    rw [show ∀ q : Addr, q.add 2 = ⟨q.block, q.off + 2, none⟩ from Tl.add_two] at c2
    clear c1 hat
    have HN := Lib.hid (fun (h : 0 ≤ l[k].2.2 ∧ l[k].2.2 ≤ 255 ∧ l[k].2.1.size ≤ 255) j (hj : j < l.length) (hjk : j < k + 1) => show 0 ≤ l[j].2.2 ∧ l[j].2.2 ≤ 255 ∧ l[j].2.1.size ≤ 255 from by
      by_cases hjk2 : j < k
      · exact HK.out j hj hjk2
      · obtain rfl : j = k := by omega
        exact h)
    clear HK HU
    generalize l[k].2.2 = n at *
    generalize l[k].2.1 = d at *
    by_cases h0 : n < 0
    · clear HN
      go_wp2_with fail
      refine (awake_any _ (HT.out.below HB.out)).mono ?_
      rintro r w2 ⟨rfl, hb⟩
      have HB := Lib.hid (bcall HB.out hb)
      clear hb
      go_wp2
      go_ret
      exact ⟨rfl, HB.out⟩
    by_cases h255 : 255 < n
    · clear HN
      go_wp2_with fail
      refine (awake_any _ (HT.out.below HB.out)).mono ?_
      rintro r w2 ⟨rfl, hb⟩
      have HB := Lib.hid (bcall HB.out hb)
      clear hb
      go_wp2
      go_ret
      exact ⟨rfl, HB.out⟩
    by_cases hd255 : 255 < d.size
    · have hd255' : (255 : Int) < (d.size : Int) := by omega
      clear HN
      go_wp2_with fail
      refine (awake_any _ (HT.out.below HB.out)).mono ?_
      rintro r w2 ⟨rfl, hb⟩
      have HB := Lib.hid (bcall HB.out hb)
      clear hb
      go_wp2
      go_ret
      exact ⟨rfl, HB.out⟩
    have hd255' : ¬ (255 : Int) < (d.size : Int) := by omega
    have HK := Lib.hid (HN.out ⟨by omega, by omega, by omega⟩)
    clear HN
    go_wp2
    go_roundw
    case rel => exact ⟨k + 1, hlt, by go_num, HK, HB⟩
    case measure => simp [intOf]; omega

theorem own : ownKnob Tryd.prog.godebug = none := by kernel_rfl

set_option maxRecDepth 100000 in
theorem lifted (os : Os) (started : os.Started) (H : Type) (enc : TypeId × Value → H) :
    ReturnsInHanded {} Tryd.checked os 5 .any (fun w args => (Rows.intakeOpaqueSpec.pre enc Tryd.prog Tryd.f5 Rows.intakeOpaqueRow.domain false w args ∧ laidMetH Tryd.prog Rows.intakeOpaqueRow.laid w) ∧ sizedMet enc Tryd.prog Tryd.f5 (OpenSpec.ofChange Rows.intakeOpaqueSpec) false w args)
      (Rows.intakeOpaqueSpec.post enc Tryd.prog Tryd.f5 false true false false) := by
  refine returnsInHanded_of_change_and (C := Tryd.checked) (X := fun w _ => laidMetH Tryd.prog Rows.intakeOpaqueRow.laid w) (fun _ _ _ hh h => h.of_heap hh) own started (by kernel_rfl) Tryd.func5
    (ChangeSpec.witness_shaped (enc := enc) (C := Tryd.checked) (os := os) (X := fun w _ => laidMetH Tryd.prog Rows.intakeOpaqueRow.laid w) false (World.laidAll Tryd.prog os Rows.intakeOpaqueRow.laid) #[.agg (oneR none 0 0 0 0 ByteArray.empty)] 8 (World.laidAll_os _ _ _)
      (World.shaped_of_ZipB (by kernel_rfl) (by kernel_rfl)) (by kernel_rfl) (by kernel_rfl) (by kernel_rfl)
      (by rw [MakeChecks.laidMetH_plain _ _ _ (by kernel_rfl)]; exact laidMet_laidAll _ (by kernel_rfl) (by kernel_rfl))) ?_
  intro W base args ds gs before hval0 hW _ _ hL0 _
  have hMet := of_laid hL0
  have hval : ∀ (j : Nat) t v, Tryd.f5.params[j]? = some t → args[j]? = some v → Value.okWide Tryd.prog W .any base t v := hval0
  have hW' := hW
  have hlt := fun x hx => hW'.lt x hx
  obtain ⟨p, q, hA0, hV, rfl, hfz, hnd⟩ := hW
  have hA : DataW.TrodAll enc Tryd.prog W 0 (fun _ => true) true Tryd.f5.params.toList args.toList ds p := hA0
  rw [Tryd.params5] at hA hval
  obtain ⟨v0, vs0, d0, ds0, p0, q0, hargs, rfl, rfl, h0, r0⟩ := trodAll_cons hA
  obtain ⟨rfl, rfl, rfl⟩ := trodAll_nil r0
  obtain rfl : args = #[v0] := by cases args; simp_all
  obtain ⟨rfl, rfl⟩ := trodVars_none hV
  obtain ⟨a, l, c, x, y, d, rfl, hl, hn, hc, w1, w2, z3⟩ := by_one (hval 0 49 v0 rfl rfl) h0
  clear hA0 hval0
  simp only [List.append_nil] at hW' hlt
  refine (walk a l c x y d W hl hn hc w1 w2 z3 hMet).mono fun e W' ⟨he, hg⟩ => ?_
  subst he
  exact ⟨_, rfl, _, _, _, [], _, [], hW', trodAll_mk1 (shut_bool Tryd.underlying4 _), (trodAll_cons_mk (again (by kernel_rfl) (of_decide_eq_true (by kernel_rfl)) h0 hg fun x hx => hlt x (by first | exact absurd hx (by simp) | simp [hx])) trodAll_mk0), rfl, hg.frame _, fun h => by cases h⟩

theorem over : Rows.IntakeOpaqueSaid :=
  OpenClaim.holds_of_wide 5 Tryd.f5 rfl rfl rfl rfl rfl rfl rfl ⟨rfl, rfl, rfl, rfl, rfl⟩ rfl rfl rfl rfl rfl (by kernel_rfl) Tryd.func5 (by kernel_rfl)
    (of_decide_eq_true (by kernel_rfl)) (by unfold Func.isWrapper; first | (rw [if_pos (by decide +kernel)]; kernel_rfl) | (rw [if_neg (by decide +kernel)]; exact ⟨rfl, rfl⟩))
    (fun os started H enc _ => lifted os started H enc)

theorem proved : Rows.IntakeOpaqueCardSaid :=
  Claim7.holds_tied_plain_at .later [] _ true _ _
    over (fun _ h => by cases h) (by kernel_rfl) (fun _ h => by cases h) intakeOpaque_row_tie rfl ⟨rfl, rfl⟩ (by kernel_rfl) rfl
    (fun f fn hf hfn => by
      obtain rfl : f = 5 := Option.some.inj ((show Tryd.prog.funcNamed "roadbook/roadbooklaw23.IntakeOpaque" = some 5 by kernel_rfl).symm.trans hf) |>.symm
      obtain rfl : fn = Tryd.f5 := (Option.some.inj (Tryd.func5.symm.trans hfn)).symm
      exact ⟨by kernel_rfl, fun j t ht => by
        rw [Tryd.params5] at ht
        have hm : t ∈ [49] := by simpa using Array.mem_of_getElem? ht
        have hall : ([49].all fun u => !Tryd.prog.wantsStandIn u) = true := by kernel_rfl
        exact (show Tryd.prog.wantsStandIn t = false by simpa using List.all_eq_true.1 hall t hm)⟩)
    (by kernel_rfl)
#print axioms proved
end Go.Proofs.YtpkmpinbpfblfaaDoor.intakeOpaque
