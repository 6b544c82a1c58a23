/-
  The statement RipngBack, of any list of messages. No conditions.
-/
import Derived.Test.YthfdcmijciclkaaOpen
import Derived.Test.YthfdcmijciclkaaAw
import Derived.Test.YthfdcmijciclkaaFew
namespace Go.Proofs.Ythfdcmijciclkaa.ripngBack
open Go.ChangeShapes Go.WideShapes Go.ChangeAt Go.RowKit
open Go.ChangeMaps (open_string shut_string)
open Go.Proofs.Ythfdcmijciclkaa.Ms
open Go.Proofs.Ythfdcmijciclkaa.Rp
open Go.Proofs.Ythfdcmijciclkaa.Pa
open Go.Proofs.Ythfdcmijciclkaa.Hs
open Go.Proofs.Ythfdcmijciclkaa.Few
open Go.Proofs.Ythfdcmijciclkaa.All
open Go.Proofs.Ythfdcmijciclkaa.Ec
open Go.Proofs.Ythfdcmijciclkaa.Aw
open Go.Proofs.Ythfdcmijciclkaa.Open
set_option linter.unusedVariables false

open Go.Proofs.Ythfdcmijciclkaa.Oct (cellsL info5 conv_row)
theorem few_short {m : M} (h : fewB m = true) : Short m := by
  unfold fewB at h
  simp only [Bool.and_eq_true, decide_eq_true_eq] at h
  exact ⟨Nat.le_trans h.1.1.1.1.1.1.1 (by decide), Nat.le_trans h.1.1.1.1.1.1.2 (by decide)⟩
theorem few_all {l : List M} {n : Int} (h : fewL l n = true) : (l.length : Int) ≤ n ∧ ∀ m ∈ l, Short m := by
  unfold fewL at h
  simp only [Bool.and_eq_true, decide_eq_true_eq] at h
  exact ⟨h.1, fun m hm => few_short (List.all_eq_true.1 h.2 m hm)⟩
theorem flat_short {l : List M} (h : Ap.Flat l) : ∀ m ∈ l, Short m := fun m hm => ⟨by rw [(h m hm).1]; exact Nat.zero_le _, by rw [(h m hm).2]; exact Nat.zero_le _⟩
/-- What stays: the list. -/
def SR (w : World) (a : Option Addr) (l : List M) (W : World) : Prop := MRow W a l ∧ Below w.heap.size w W
theorem SR.keep {w : World} {a : Option Addr} {l : List M} (W w1 : World) (h : SR w a l W) (hb : Below W.heap.size W w1) : SR w a l w1 := ⟨h.1.below hb, bcall h.2 hb⟩

set_option maxHeartbeats 12800000 in
set_option maxRecDepth 100000 in
theorem walk (a : Option Addr) (c : Nat) (l : List M) (w : World) (hl : MRow w a l) (hn : l.length ≤ 9223372036854775807) :
    Calls Try.prog 6 #[.slice a l.length c] w fun e w' => e = .returned (.bool true) ∧ Below w.heap.size w w' := by
  have PA := Lib.hid (fun W (h : SR w a l W) => heldP (SR w a l) SR.keep (fewAll_any a c l 40 W h.1 hn) h)
  have P0 := Lib.hid (fun W (h : SR w a l W) => heldP (SR w a l) SR.keep (awake_any W) h)
  have H0 : SR w a l w := ⟨hl, Below.refl _ _⟩
  clear hl hn
  go_enter Try.func6, Try.ntmps6
  cases hfa : fewL l 40
  · rw [hfa] at PA
    clear hfa
    go_wp2_with fail
    refine (PA.out _ H0).mono ?_
    rintro e w1 ⟨rfl, H0⟩
    go_wp2_with fail
    refine (P0.out _ H0).mono ?_
    rintro e w1 ⟨rfl, H0⟩
    go_wp2
    go_ret
    exact ⟨rfl, H0.2⟩
  have HFA := Lib.hid (few_all hfa)
  have hn : l.length ≤ 40 := by have := HFA.out.1; omega
  rw [hfa] at PA
  clear hfa
  have P1 := Lib.hid (fun W (h : SR w a l W) => encode_any a c l W h.1 HFA.out.2 (by omega))
  go_wp2_with fail
  refine (PA.out _ H0).mono ?_
  rintro e w1 ⟨rfl, H0⟩
  clear PA
  rcases Ma.enc_two l with ⟨q1, q2, q3, q4⟩ | ⟨W, hE⟩
  · rcases hq : enc l with ⟨b, x, y⟩
    rw [hq] at P1 q1 q2 q3 q4
    dsimp only at q1 q2 q3 q4
    subst q2
    have e1 : (y == 0) = false := by simpa using q1
    have e2 : (y != 0) = true := by rw [bne, e1]; rfl
    clear hq q1
    go_wp2_with fail
    refine (P1.out _ H0).mono ?_
    rintro e w2 ⟨rfl, hb⟩
    have H0 := SR.keep _ _ H0 hb
    clear hb P1
    dsimp only
    go_wp2_with fail
    refine (P0.out _ H0).mono ?_
    rintro e w3 ⟨rfl, H0⟩
    go_wp2
    go_ret
    exact ⟨rfl, H0.2⟩
  rw [hE] at P1
  obtain ⟨o1, _⟩ := Ma.wrt_out W (by omega)
  have hsz := Ma.sz_all W (by omega)
  have hsm := Ma.wrt_same W
  have hfl := Ma.norm_flat (at0 l 0).cmd l
  have hll : (l.map (Ma.norm (at0 l 0).cmd)).length = l.length := by simp
  have hbz : (ByteArray.mk (wrtL l).toArray).size = Ma.szK l l.length := by rw [← hsz]; show (wrtL l).toArray.size = _; simp
  have hle := Ma.sz_le l l.length (Nat.le_refl _)
  clear hE hsz
  generalize l.map (Ma.norm (at0 l 0).cmd) = l' at *
  generalize ByteArray.mk (wrtL l).toArray = b at *
  have P2 := Lib.hid (fun W => Pa.parse_any b W (by omega))
  rw [o1] at P2
  have HSm := Lib.hid hsm
  have HFl := Lib.hid hfl
  have HLl := Lib.hid hll
  have HBz := Lib.hid hbz
  have HN := Lib.hid hn
  have HSz := Lib.hid (fun k (h : k < l.length) => Ma.sz_succ l k h)
  have HLa := Lib.hid (fun k (h : k < l.length) => la_succ l k h)
  have HLe := Lib.hid (fun k (h : k ≤ l.length) => Ma.sz_le l k h)
  clear o1 hsm hfl hll hbz hle W hn
  go_wp2_with fail
  refine (P1.out _ H0).mono ?_
  rintro e w2 ⟨rfl, hb⟩
  have HQ := Lib.hid (SR.keep _ _ H0 hb)
  clear hb P1 H0
  dsimp only
  obtain ⟨i0, hi, hz0, hz1, hz2⟩ := info_parts info5
  go_wp2_with (at_make; refine wpList_make_full _ rfl _ _ 38 rfl w2.heap.size 5 i0 (.int .u8 0) 1 Try.underlying38 hi hz0 hz1 _ _ _ _ 16 rfl rfl rfl rfl (by rw [hz2]; omega) (by unfold maxLen; omega) (by simp) ?_)
  intro w3 hown hgrow
  have hc := conv_row w3 w2.heap.size 16 w2.heap.size (List.replicate 16 0) 16 (by simp) (by
    have e : cellsL (List.replicate 16 (0 : UInt8)) = (madeCells #[Value.int .u8 0] 16).toList := by
      rw [toList_madeCells_one]; simp [cellsL]
    rw [e]; exact hown)
  have HQ := Lib.hid (SR.keep _ _ HQ.out ((Below.refl w2.heap.size w2).grown hgrow (Nat.le_refl _) (fun k hk => by cases hk)))
  have hc2 : (convert 38 9 (.slice (some ⟨w2.heap.size, 0, none⟩) 16 16)).run Try.prog w3 = .ok (.string (laK l 0)) w3 := hc
  clear hi hz0 hz1 hz2 hown hgrow hc
  generalize hla0 : laK l 0 = la0 at *
  have HLa0 := Lib.hid hla0
  clear hla0
  go_wp2
  clear hc2
  go_loopw [6, 7, 8] (fun n nx i wr => ∃ k : Nat, k ≤ l.length ∧ n = .int .i64 ((Ma.szK l k : Nat) : Int) ∧ nx = .string (laK l k) ∧ i = .int .i64 k ∧ Hid (SR w a l wr)) (fun _ _ i _ => l.length - (intOf i).toNat)
  case atStart => exact ⟨0, Nat.zero_le _, rfl, by rw [HLa0.out], rfl, HQ⟩
  case round =>
    obtain ⟨k, hk, rfl, rfl, rfl, HQ⟩ := hrel
    clear HLa0
    by_cases hlt : k < l.length
    · obtain ⟨p, rfl, _, hc, _, _⟩ := HQ.out.1 k hlt
      have hn40 := HN.out
      have ixk := indexM p l.length c k hlt
      have hs := HSz.out k hlt
      have hla := HLa.out k hlt
      have hle : Ma.szK l k ≤ 2000 := by have := HLe.out k (by omega); have := HN.out; omega
      generalize l[k] = u at *
      generalize p.add (k * 25) = q at *
      have c9 : wr.cell? ⟨q.block, q.off + 9, none⟩ = some (.string u.next) := hc 9 _ rfl
      clear hc hk
      generalize Ma.szK l k = z at *
      generalize laK l k = la at *
      by_cases hnx : u.next = la
      · have e1 : (u.next.toList == la.toList) = true := by rw [hnx]; exact beq_self_eq_true _
        have e2 : (u.next.toList != la.toList) = false := by rw [bne, e1]; rfl
        rw [if_pos hnx] at hs
        have HS := Lib.hid hs
        have HA := Lib.hid hla
        clear hs hla hnx
        go_wp2
        go_roundw
        case rel => exact ⟨k + 1, hlt, by rw [HS.out]; go_num, by rw [HA.out], by go_num, HQ⟩
        case measure => simp [intOf]; omega
      · have e1 : (u.next.toList == la.toList) = false := by
          rw [beq_eq_false_iff_ne]
          intro h
          rw [ByteArray.toList_eq, ByteArray.toList_eq] at h
          exact hnx (Rte.text_eq h)
        have e2 : (u.next.toList != la.toList) = true := by rw [bne, e1]; rfl
        rw [if_neg hnx] at hs
        have HS := Lib.hid hs
        have HA := Lib.hid hla
        clear hs hla hnx
        go_wp2
        go_roundw
        case rel => exact ⟨k + 1, hlt, by rw [HS.out]; go_num, by rw [HA.out], by go_num, HQ⟩
        case measure => simp [intOf]; omega
    · obtain rfl : k = l.length := by omega
      clear hk hlt
      have HB := Lib.hid (show ((b.size : Int) == ((Ma.szK l l.length : Nat) : Int)) = true by rw [HBz.out]; simp)
      generalize Ma.szK l l.length = z at *
      generalize laK l l.length = la at *
      go_wp2_with fail
      refine (P2.out _).mono ?_
      rintro e w4 ⟨a2, k2, rfl, m2, hb⟩
      have HQ := Lib.hid (SR.keep _ _ HQ.out hb)
      have M2 := Lib.hid m2
      clear hb P2 m2
      dsimp only
      go_wp2_with fail
      refine (awake_any _).mono ?_
      rintro e w5 ⟨rfl, hb⟩
      have HQ := Lib.hid (SR.keep _ _ HQ.out hb)
      have M2 := Lib.hid (M2.out.below hb)
      clear hb P0
      have P3 := Lib.hid (rsameAll_any a a2 c k2 l l' w5 HQ.out.1 M2.out HFA.out.2 (flat_short HFl.out) (by have := HN.out; omega) (by have := HLl.out; have := HN.out; omega))
      rw [HSm.out] at P3
      clear M2
      go_wp2_with fail
      refine P3.out.mono ?_
      rintro e w6 ⟨rfl, hb⟩
      have HQ := Lib.hid (SR.keep _ _ HQ.out hb)
      clear hb P3
      have hz := HB.out
      go_wp2
      go_ret
      exact ⟨rfl, HQ.out.2⟩

theorem own : ownKnob Try.prog.godebug = none := by kernel_rfl

set_option maxRecDepth 100000 in
theorem lifted (os : Os) (started : os.Started) (H : Type) (enc : TypeId × Value → H) :
    ReturnsInHanded {} Try.checked os 6 .any (Rows.ripngBackSpec.pre6 enc Try.prog Try.f6 Rows.ripngBackRow.domain false) (Rows.ripngBackSpec.post enc Try.prog Try.f6 false true false false) := by
  refine returnsInHanded_of_change (C := Try.checked) own started (by kernel_rfl) Try.func6
    (ChangeSpec.witness6 (enc := enc) (C := Try.checked) false ⟨#[], #[.slice none 0 0], []⟩ 8 (by kernel_rfl) (by kernel_rfl) (by kernel_rfl) (by kernel_rfl)) ?_
  intro W base args ds gs before hval0 hW hcnd _
  have hval : ∀ (j : Nat) t v, Try.f6.params[j]? = some t → args[j]? = some v → Value.okWide Try.prog W .any base t v := hval0
  have hW' := hW
  have hlt := fun x hx => hW'.lt x hx
  obtain ⟨p, q, hA0, hV, rfl, hfz, hnd⟩ := hW
  have hA : DataW.TrodAll enc Try.prog W 0 (fun _ => true) true Try.f6.params.toList args.toList ds p := hA0
  rw [Try.params6] at hA hval
  obtain ⟨v0, vs0, d0, ds0, p0, q0, hargs, rfl, rfl, h0, r0⟩ := trodAll_cons hA
  obtain ⟨rfl, rfl, rfl⟩ := trodAll_nil r0
  obtain rfl : args = #[v0] := by cases args; simp_all
  obtain ⟨rfl, rfl⟩ := trodVars_none hV
  obtain ⟨a, l, c, rfl, hl, ln⟩ := by_list (hval 0 23 v0 rfl rfl) h0
  clear hA0 hval0
  simp only [List.append_nil] at hW' hlt
  refine (walk a c l W hl ln).mono fun e W' ⟨he, hg⟩ => ?_
  subst he
  exact ⟨_, rfl, _, _, _, [], _, [], hW', trodAll_mk1 (shut_bool Try.underlying4 _), (trodAll_cons_mk (again (by kernel_rfl) (of_decide_eq_true (by kernel_rfl)) h0 hg fun x hx => hlt x (by first | exact absurd hx (by simp) | simp [hx])) trodAll_mk0), rfl, hg.frame _, fun h => by cases h⟩

theorem over : Rows.ripngBackRow.holds Try.pinned (OpenSpec.ofChange Rows.ripngBackSpec) :=
  OpenClaim.holds_of_wide 6 Try.f6 rfl rfl rfl rfl rfl rfl rfl ⟨rfl, rfl, rfl, rfl, rfl⟩ rfl rfl rfl rfl rfl (by kernel_rfl) Try.func6 (by kernel_rfl)
    (of_decide_eq_true (by kernel_rfl)) (by unfold Func.isWrapper; first | (rw [if_pos (by decide +kernel)]; kernel_rfl) | (rw [if_neg (by decide +kernel)]; exact ⟨rfl, rfl⟩))
    (fun os started H enc _ => lifted os started H enc)

theorem proved : Rows.RipngBackSaid :=
  over
#print axioms proved
end Go.Proofs.Ythfdcmijciclkaa.ripngBack
