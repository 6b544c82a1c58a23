/-
  The statement OutletFirst, of any messages and any cut. Condition: the listed variables have what the program's text lays them with (the tied card).
-/
import Derived.Test.YtjhfpobjbijcpaaDoorA13
import Derived.Test.YtjhfpobjbijcpaaDoorA29
import Derived.Test.YtjhfpobjbijcpaaDoorCards
import Derived.Test.YtjhfpobjbijcpaaDoorTie
import Derived.Lay
import Derived.SevenTiedAt
import Derived.Stop.Joined
namespace Go.Proofs.YtjhfpobjbijcpaaDoor.outletFirst
open Go.ChangeShapes Go.WideShapes Go.ChangeAt Go.RowKit
open Go.ChangeMaps (open_string shut_string)
open Go.Proofs.YtjhfpobjbijcpaaDoor.Ms
open Go.Proofs.YtjhfpobjbijcpaaDoor.Box
open Go.Proofs.YtjhfpobjbijcpaaDoor.All
open Go.Proofs.YtjhfpobjbijcpaaDoor.Tc
open Go.Proofs.YtjhfpobjbijcpaaDoor.L2
open Go.Proofs.YtjhfpobjbijcpaaDoor.O1
open Go.Proofs.YtjhfpobjbijcpaaDoor.O3
open Go.Proofs.YtjhfpobjbijcpaaDoor.Ol
open Go.Proofs.YtjhfpobjbijcpaaDoor.O6
open Go.Proofs.YtjhfpobjbijcpaaDoor.Open
set_option linter.unusedVariables false

open Go.Proofs.YtjhfpobjbijcpaaDoor.F1 (encT encT_append wrap wrap_back wrap_size outB)
open Go.Proofs.YtjhfpobjbijcpaaDoor.F2 (rbody_any BodyIs)
theorem slM_hi (a : Option Addr) (n c k : Nat) (h : k ≤ c) (W : World) : (Instr.slice 22 (.slice a n c) none (some (.int .i64 (k : Int))) none).run Tryd.prog W = .ok (.slice a k c) W := by
  refine (run_slice_h W 22 a n c (by kernel_rfl) .i64 (k : Int) (by omega) (by omega)).trans ?_
  rw [show (Go.sizeOf (Tryd.prog.elem 22)).run Tryd.prog W = .ok 25 W from by kernel_rfl]
  simp only [Result.andThen, sliced, Int.toNat_natCast, Nat.sub_zero]
  congr 1
  split
  · rfl
  · cases a with
    | none => rfl
    | some p => cases p; rfl
/-- A datagram's body. -/
theorem body_back {s : ByteArray} (h : s.size ≤ 65531) : outB (wrap s) = (s, 0, 0) := by
  have hw := wrap_back (s := s) (t := ⟨#[]⟩) (by show 4 + s.size + 0 ≤ 65535; omega)
  have he : wrap s ++ (⟨#[]⟩ : ByteArray) = wrap s := by
    apply Nu.text_eq; simp
  rw [he] at hw
  exact hw.1
theorem ext_pre (a b : List UInt8) : (⟨(a ++ b).toArray⟩ : ByteArray).extract 0 a.length = ⟨a.toArray⟩ := by
  apply Nu.text_eq
  rw [ByteArray.data_extract]
  simp
/-- What the whole list's datagram says of the first messages'. -/
theorem first_of (l : List M) (k : Nat) (hk : k ≤ l.length) : (∃ s t, outE l = (wrap s, 0, 0) ∧ outE (l.take k) = (wrap t, 0, 0) ∧ s.size ≤ 65531 ∧ t.size ≤ s.size ∧ s.extract 0 t.size = t) ∨ (∃ (b : ByteArray) (j e : Int), ¬ e = 0 ∧ outE l = (b, j, e)) := by
  rcases enc_cases l with ⟨_, a, c, h1, h2, h3, _, _, _, _, _, h8⟩ | ⟨_, j, e, he, _, _, h⟩ | ⟨_, _, j, _, _, h⟩
  · obtain ⟨a1, a2, e1, e2⟩ := h8 k hk
    have z1 : (⟨(encT a).toArray⟩ : ByteArray).size = (encT a).length := mk_len _
    have z2 : (⟨(encT a1).toArray⟩ : ByteArray).size = (encT a1).length := mk_len _
    have ea : encT a = encT a1 ++ encT a2 := by rw [e1, encT_append]
    refine .inl ⟨_, _, h3, e2, by omega, by rw [z1, z2, ea, List.length_append]; omega, ?_⟩
    rw [z2, ea]
    exact ext_pre _ _
  · exact .inr ⟨_, j, e, by omega, h⟩
  · exact .inr ⟨_, j, 1, by decide, h⟩
theorem sl_str (b : ByteArray) (n : Nat) (hn : n ≤ b.size) (W : World) : (Instr.slice 9 (.string b) none (some (.int .i64 (n : Int))) none).run Tryd.prog W = .ok (.string (b.extract 0 n)) W := by
  have := run_slice_string_h (P := Tryd.prog) (t := 9) (s := b) W Tryd.underlying9 .i64 (n : Int) (by omega) (by omega)
  simpa using this

set_option maxHeartbeats 12800000 in
set_option maxRecDepth 100000 in
theorem walk (a : Option Addr) (l : List M) (c : Nat) (cu : Int) (w : World) (hl : MRow w a l) (hn : l.length ≤ 9223372036854775807) (hc : l.length ≤ c) (hp : ∀ m ∈ l, m.pfx.size ≤ maxLen) (wf : (Lit.int .u8 cu).wf = true) (ht : Tab w) :
    Calls Tryd.prog 3 #[.slice a l.length c, .int .u8 cu] w fun e w' => e = .returned (.bool true) ∧ Below w.heap.size w w' := by
  have hcu : 0 ≤ cu ∧ cu ≤ 255 := by
    have h : IntKind.u8.min ≤ cu ∧ cu ≤ IntKind.u8.max := by simpa [Lit.wf] using wf
    exact h
  have HT := Lib.hid ht
  have HL := Lib.hid hl
  have PA := Lib.hid (fun W (h : MRow W a l) => fewAll_any a c l 40 W h hn)
  clear ht hl wf
  go_enter Tryd.func3, Tryd.ntmps3
  cases hfa : fewL l 40
  · rw [hfa] at PA
    clear hfa
    go_wp2_with fail
    refine (PA.out _ HL.out).mono ?_
    rintro e w1 ⟨rfl, hb⟩
    have HB := Lib.hid hb
    clear hb PA
    go_wp2_with fail
    refine (awake_any _ (HT.out.below HB.out)).mono ?_
    rintro e w2 ⟨rfl, hb⟩
    have HB := Lib.hid (bcall HB.out hb)
    clear hb
    go_wp2
    go_ret
    exact ⟨rfl, HB.out⟩
  have hfs := few_all hfa hp
  have hn40 : l.length ≤ 40 := by have := hfs.1; omega
  have HS := Lib.hid hfs.2
  rw [hfa] at PA
  clear hfa hfs hp hn
  go_wp2_with fail
  refine (PA.out _ HL.out).mono ?_
  rintro e w1 ⟨rfl, hb⟩
  have HB := Lib.hid hb
  have HL := Lib.hid (HL.out.below hb)
  clear hb PA
  have q1 : IntKind.i64.wrap ((l.length : Int) + 1) = (l.length : Int) + 1 := IntWalk.i64_in _ (by omega)
  have q2 : wrap64 ((l.length : Int) + 1) = (l.length : Int) + 1 := IntWalk.wrap64_in _ (by omega)
  have htm : cu.tmod ((l.length : Int) + 1) = cu % ((l.length : Int) + 1) := Int.tmod_eq_emod_of_nonneg hcu.1
  go_upto_region 4 with fail
  clear q1 q2 htm
  have em1 := Int.emod_nonneg cu (b := (l.length : Int) + 1) (by omega)
  have em2 := Int.emod_lt_of_pos cu (b := (l.length : Int) + 1) (by omega)
  obtain ⟨k, hk, hle⟩ : ∃ k : Nat, cu % ((l.length : Int) + 1) = k ∧ k ≤ l.length := ⟨(cu % ((l.length : Int) + 1)).toNat, by omega, by omega⟩
  rw [hk]
  have SL := fun W => slM_hi a l.length c k (by omega) W
  have hlk : (l.take k).length = k := by rw [List.length_take]; omega
  have P1 := Lib.hid (fun V (h : MRow V a l) (y : Tab V) => O5.encode_any a c l V h HS.out (by omega) y)
  have P2 := fun V (h : MRow V a l) (y : Tab V) => O5.encode_any a c (l.take k) V (row_take h k) (fun m hm => HS.out m (List.mem_of_mem_take hm)) (by omega) y
  rw [hlk] at P2
  have P2 := Lib.hid P2
  have hf := first_of l k hle
  clear em1 em2 hk hcu hlk
  rcases hf with ⟨s, t, e1, e2, hs, ht, hx⟩ | ⟨b, j, e, he, e1⟩
  rotate_left
  · rw [e1] at P1
    obtain ⟨b2, j2, e2, h2⟩ : ∃ x y z, outE (l.take k) = (x, y, z) := ⟨_, _, _, rfl⟩
    rw [h2] at P2
    have z1 : (e == 0) = false := by simpa using he
    have z2 : (e != 0) = true := by rw [bne, z1]; rfl
    clear h2 e1 he
    go_wp2_with fail
    refine (P1.out _ HL.out (HT.out.below HB.out)).mono ?_
    rintro e w2 ⟨rfl, hb⟩
    have HL := Lib.hid (HL.out.below hb)
    have HB := Lib.hid (bcall HB.out hb)
    clear hb P1
    dsimp only
    go_wp2_with fail
    refine (P2.out _ HL.out (HT.out.below HB.out)).mono ?_
    rintro e w3 ⟨rfl, hb⟩
    have HB := Lib.hid (bcall HB.out hb)
    clear hb P2 HL
    dsimp only
    go_wp2_with fail
    refine (awake_any _ (HT.out.below HB.out)).mono ?_
    rintro e w4 ⟨rfl, hb⟩
    have HB := Lib.hid (bcall HB.out hb)
    clear hb
    go_wp2
    go_ret
    exact ⟨rfl, HB.out⟩
  rw [e1] at P1
  rw [e2] at P2
  have zs : (wrap s).size = 4 + s.size := wrap_size hs
  have zt : (wrap t).size = 4 + t.size := wrap_size (by omega)
  have P3 := fun V => rbody_any (wrap s) V (by unfold maxLen; omega)
  have P4 := fun V => rbody_any (wrap t) V (by unfold maxLen; omega)
  rw [body_back hs] at P3
  rw [body_back (by omega)] at P4
  have P3 := Lib.hid P3
  have P4 := Lib.hid P4
  have SS := fun W => sl_str s t.size ht W
  rw [hx] at SS
  have hts : (t.size : Int) ≤ (s.size : Int) := by omega
  have hss : (s.size : Int) ≤ 65531 := by omega
  have bs : (t.toList == t.toList) = true := by simp
  clear e1 e2 zs zt hs hx
  generalize wrap s = bs1 at *
  generalize wrap t = bs2 at *
  go_wp2_with fail
  refine (P1.out _ HL.out (HT.out.below HB.out)).mono ?_
  rintro e w2 ⟨rfl, hb⟩
  have HL := Lib.hid (HL.out.below hb)
  have HB := Lib.hid (bcall HB.out hb)
  clear hb P1
  dsimp only
  go_wp2_with fail
  refine (P2.out _ HL.out (HT.out.below HB.out)).mono ?_
  rintro e w3 ⟨rfl, hb⟩
  have HB := Lib.hid (bcall HB.out hb)
  clear hb P2 HL SL
  dsimp only
  go_wp2_with fail
  refine (P3.out _).mono ?_
  rintro e w4 ⟨rfl, hb⟩
  have HB := Lib.hid (bcall HB.out hb)
  clear hb P3
  dsimp only
  go_wp2_with fail
  refine (P4.out _).mono ?_
  rintro e w5 ⟨rfl, hb⟩
  have HB := Lib.hid (bcall HB.out hb)
  clear hb P4
  dsimp only
  go_wp2_with fail
  refine (awake_any _ (HT.out.below HB.out)).mono ?_
  rintro e w6 ⟨rfl, hb⟩
  have HB := Lib.hid (bcall HB.out hb)
  clear hb
  go_wp2
  go_ret
  exact ⟨rfl, HB.out⟩

theorem own : ownKnob Tryd.prog.godebug = none := by kernel_rfl

set_option maxRecDepth 100000 in
theorem lifted (os : Os) (started : os.Started) (H : Type) (enc : TypeId × Value → H) :
    ReturnsInHanded {} Tryd.checked os 3 .any (fun w args => (Rows.outletFirstSpec.pre enc Tryd.prog Tryd.f3 Rows.outletFirstRow.domain false w args ∧ laidMetH Tryd.prog Rows.outletFirstRow.laid w) ∧ sizedMet enc Tryd.prog Tryd.f3 (OpenSpec.ofChange Rows.outletFirstSpec) false w args)
      (Rows.outletFirstSpec.post enc Tryd.prog Tryd.f3 false true false false) := by
  refine returnsInHanded_of_change_and (C := Tryd.checked) (X := fun w _ => laidMetH Tryd.prog Rows.outletFirstRow.laid w) (fun _ _ _ hh h => h.of_heap hh) own started (by kernel_rfl) Tryd.func3
    (ChangeSpec.witness_shaped (enc := enc) (C := Tryd.checked) (os := os) (X := fun w _ => laidMetH Tryd.prog Rows.outletFirstRow.laid w) false (World.laidAll Tryd.prog os Rows.outletFirstRow.laid) #[.slice none 0 0, .int .u8 0] 8 (World.laidAll_os _ _ _)
      (World.shaped_of_ZipB (by kernel_rfl) (by kernel_rfl)) (by kernel_rfl) (by kernel_rfl) (by kernel_rfl)
      (by rw [MakeChecks.laidMetH_plain _ _ _ (by kernel_rfl)]; exact laidMet_laidAll _ (by kernel_rfl) (by kernel_rfl))) ?_
  intro W base args ds gs before hval0 hW _ _ hL0 _
  have hMet := of_laid hL0
  have hval : ∀ (j : Nat) t v, Tryd.f3.params[j]? = some t → args[j]? = some v → Value.okWide Tryd.prog W .any base t v := hval0
  have hW' := hW
  have hlt := fun x hx => hW'.lt x hx
  obtain ⟨p, q, hA0, hV, rfl, hfz, hnd⟩ := hW
  have hA : DataW.TrodAll enc Tryd.prog W 0 (fun _ => true) true Tryd.f3.params.toList args.toList ds p := hA0
  rw [Tryd.params3] at hA hval
  obtain ⟨v0, vs0, d0, ds0, p0, q0, hargs, rfl, rfl, h0, r0⟩ := trodAll_cons hA
  obtain ⟨v1, vs1, d1, ds1, p1, q1, rfl, rfl, rfl, h1, r1⟩ := trodAll_cons r0
  obtain ⟨rfl, rfl, rfl⟩ := trodAll_nil r1
  obtain rfl : args = #[v0, v1] := by cases args; simp_all
  obtain ⟨rfl, rfl⟩ := trodVars_none hV
  obtain ⟨a, l, c, rfl, hl, hn, hc, hp⟩ := by_listP (hval 0 22 v0 rfl rfl) h0
  have k1 := h1
  obtain ⟨n, rfl, rfl, rfl, wf⟩ := open_int Tryd.underlying5 (hval 1 5 v1 rfl rfl) k1
  clear hA0 hval0
  simp only [List.append_nil] at hW' hlt
  refine (walk a l c n W hl hn hc hp wf hMet).mono fun e W' ⟨he, hg⟩ => ?_
  subst he
  exact ⟨_, rfl, _, _, _, [], _, [], hW', trodAll_mk1 (shut_bool Tryd.underlying4 _), (trodAll_cons_mk (again (by kernel_rfl) (of_decide_eq_true (by kernel_rfl)) h0 hg fun x hx => hlt x (by first | exact absurd hx (by simp) | simp [hx])) (trodAll_cons_mk (again (by kernel_rfl) (of_decide_eq_true (by kernel_rfl)) h1 hg fun x hx => hlt x (by first | exact absurd hx (by simp) | simp [hx])) trodAll_mk0)), rfl, hg.frame _, fun h => by cases h⟩

theorem over : Rows.OutletFirstSaid :=
  OpenClaim.holds_of_wide 3 Tryd.f3 rfl rfl rfl rfl rfl rfl rfl ⟨rfl, rfl, rfl, rfl, rfl⟩ rfl rfl rfl rfl rfl (by kernel_rfl) Tryd.func3 (by kernel_rfl)
    (of_decide_eq_true (by kernel_rfl)) (by unfold Func.isWrapper; first | (rw [if_pos (by decide +kernel)]; kernel_rfl) | (rw [if_neg (by decide +kernel)]; exact ⟨rfl, rfl⟩))
    (fun os started H enc _ => lifted os started H enc)

theorem proved : Rows.OutletFirstCardSaid :=
  Claim7.holds_tied_plain_at .later [] _ true _ _
    over (fun _ h => by cases h) (by kernel_rfl) (fun _ h => by cases h) outletFirst_row_tie rfl ⟨rfl, rfl⟩ (by kernel_rfl) rfl
    (fun f fn hf hfn => by
      obtain rfl : f = 3 := Option.some.inj ((show Tryd.prog.funcNamed "roadbook/roadbooklaw25.OutletFirst" = some 3 by kernel_rfl).symm.trans hf) |>.symm
      obtain rfl : fn = Tryd.f3 := (Option.some.inj (Tryd.func3.symm.trans hfn)).symm
      exact ⟨by kernel_rfl, fun j t ht => by
        rw [Tryd.params3] at ht
        have hm : t ∈ [22, 5] := by simpa using Array.mem_of_getElem? ht
        have hall : ([22, 5].all fun u => !Tryd.prog.wantsStandIn u) = true := by kernel_rfl
        exact (show Tryd.prog.wantsStandIn t = false by simpa using List.all_eq_true.1 hall t hm)⟩)
    (by kernel_rfl)
#print axioms proved
end Go.Proofs.YtjhfpobjbijcpaaDoor.outletFirst
