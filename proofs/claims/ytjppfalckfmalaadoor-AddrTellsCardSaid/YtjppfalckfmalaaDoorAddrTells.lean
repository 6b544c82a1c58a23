/-
  AddrTells, at every bytes and every text: what the program answers of them is what the document answers. The listed variables hold what the program's text lays.
-/
import Derived.Test.YtjppfalckfmalaaDoorAw
import Derived.Test.YtjppfalckfmalaaDoorCards
import Derived.Test.YtjppfalckfmalaaDoorTie
import Derived.Lay
import Derived.SevenTiedAt
import Derived.Stop.Joined
namespace Go.Proofs.YtjppfalckfmalaaDoor.addrTells
open Go.ChangeShapes Go.WideShapes Go.ChangeAt Go.RowKit
open Go.ChangeMaps (open_string shut_string)
open Go.Proofs.YtjppfalckfmalaaDoor.Sb
open Go.Proofs.YtjppfalckfmalaaDoor.Tab
open Go.Proofs.YtjppfalckfmalaaDoor.Ad
open Go.Proofs.YtjppfalckfmalaaDoor.Tr
open Go.Proofs.YtjppfalckfmalaaDoor.Fo
open Go.Proofs.YtjppfalckfmalaaDoor.RFo
open Go.Proofs.YtjppfalckfmalaaDoor.RTr
open Go.Proofs.YtjppfalckfmalaaDoor.RRd
open Go.Proofs.YtjppfalckfmalaaDoor.Aw
set_option linter.unusedVariables false      -- a walk need not use every 'w<i>'

theorem own : ownKnob Tryd.prog.godebug = none := by kernel_rfl

theorem below_any {w w' : World} (h : ∃ n, w' = w.drewN n) : Below w.heap.size w w' := by
  obtain ⟨n, rfl⟩ := h
  exact below_drewN (Below.refl _ _) n

set_option maxHeartbeats 8000000 in
set_option maxRecDepth 100000 in
theorem walk_of (a0 a1 A B C D E F : ByteArray) (p q r s t u l : Bool) (f : Int) (w : World) (hs0 : ¬ 100 < a0.size) (hs1 : ¬ 100 < a1.size) (ht : Tabs w)
    (P1 : Hid (∀ w, Calls Tryd.prog 7 #[.string a0] w fun e w' => e = .returned (.tuple #[.string A, .bool p]) ∧ w' = w))
    (R1 : Hid (∀ w, Calls Tryd.prog 8 #[.string a0] w fun e w' => e = .returned (.tuple #[.string A, .bool p]) ∧ ∃ n, w' = w.drewN n))
    (P2 : Hid (∀ w, Calls Tryd.prog 9 #[.string a0] w fun e w' => e = .returned (.tuple #[.string B, .bool q]) ∧ w' = w))
    (R2 : Hid (∀ w, Calls Tryd.prog 10 #[.string a0] w fun e w' => e = .returned (.tuple #[.string B, .bool q]) ∧ ∃ n, w' = w.drewN n))
    (P3 : Hid (∀ w, Calls Tryd.prog 11 #[.string a0] w fun e w' => e = .returned (.int .i64 f) ∧ w' = w))
    (R3 : Hid (∀ w, Calls Tryd.prog 12 #[.string a0] w fun e w' => e = .returned (.int .i64 f) ∧ w' = w))
    (P4 : Hid (∀ w, Calls Tryd.prog 13 #[.string a0] w fun e w' => e = .returned (.bool l) ∧ w' = w))
    (R4 : Hid (∀ w, Calls Tryd.prog 14 #[.string a0] w fun e w' => e = .returned (.bool l) ∧ ∃ n, w' = w.drewN n))
    (P5 : Hid (∀ w, Calls Tryd.prog 15 #[.string a0] w fun e w' => e = .returned (.tuple #[.string C, .bool r]) ∧ w' = w))
    (R5 : Hid (∀ w, Calls Tryd.prog 16 #[.string a0] w fun e w' => e = .returned (.tuple #[.string C, .bool r]) ∧ ∃ n, w' = w.drewN n))
    (P6 : Hid (∀ w, Calls Tryd.prog 17 #[.string a0] w fun e w' => e = .returned (.tuple #[.string D, .bool s]) ∧ w' = w))
    (R6 : Hid (∀ w, Calls Tryd.prog 18 #[.string a0] w fun e w' => e = .returned (.tuple #[.string D, .bool s]) ∧ ∃ n, w' = w.drewN n))
    (P7 : Hid (∀ w, Tabs w → Calls Tryd.prog 19 #[.string a0] w fun e w' => e = .returned (.tuple #[.string E, .bool t]) ∧ Below w.heap.size w w'))
    (R7 : Hid (∀ w, Calls Tryd.prog 20 #[.string a0] w fun e w' => e = .returned (.tuple #[.string E, .bool t]) ∧ ∃ n, w' = w.drewN n))
    (P8 : Hid (∀ w, Tabs w → Calls Tryd.prog 21 #[.string a1] w fun e w' => e = .returned (.tuple #[.string F, .bool u]) ∧ Below w.heap.size w w'))
    (R8 : Hid (∀ w, Calls Tryd.prog 22 #[.string a1] w fun e w' => e = .returned (.tuple #[.string F, .bool u]) ∧ Below w.heap.size w w'))
    (P9 : Hid (∀ w, Tabs w → Calls Tryd.prog 6 #[] w fun e w' => e = .returned (.bool true) ∧ Below w.heap.size w w')) :
    Calls Tryd.prog 3 #[.string a0, .string a1] w fun e w' => e = .returned (.bool true) ∧ Below w.heap.size w w' := by
  have HT := Lib.hid ht
  clear ht
  have s1 : (A.toList == A.toList) = true := by simp
  have s2 : (B.toList == B.toList) = true := by simp
  have s3 : (C.toList == C.toList) = true := by simp
  have s4 : (D.toList == D.toList) = true := by simp
  have s5 : (E.toList == E.toList) = true := by simp
  have s6 : (F.toList == F.toList) = true := by simp
  go_enter Tryd.func3, Tryd.ntmps3
  go_wp2_with fail
  refine (P1.out _).mono ?_
  rintro e w1 ⟨rfl, rfl⟩
  go_wp2_with fail
  refine (R1.out _).mono ?_
  rintro e w2 ⟨rfl, hw2⟩
  have hb2 := below_any hw2
  clear hw2
  go_wp2_with fail
  refine (P2.out _).mono ?_
  rintro e w2 ⟨rfl, rfl⟩
  go_wp2_with fail
  refine (R2.out _).mono ?_
  rintro e w3 ⟨rfl, hw3⟩
  have hb3 := bcall hb2 (below_any hw3) hb2.size
  clear hw3 hb2
  go_wp2_with (first
    | ((with_reducible refine (P3.out _).mono ?_); rintro e w' ⟨rfl, rfl⟩)
    | ((with_reducible refine (R3.out _).mono ?_); rintro e w' ⟨rfl, rfl⟩)
    | ((with_reducible refine (P4.out _).mono ?_); rintro e w' ⟨rfl, rfl⟩))
  refine (R4.out _).mono ?_
  rintro e w4 ⟨rfl, hw4⟩
  have hb4 := bcall hb3 (below_any hw4) hb3.size
  clear hw4 hb3
  go_wp2_with fail
  refine (P5.out _).mono ?_
  rintro e w5 ⟨rfl, rfl⟩
  go_wp2_with fail
  refine (R5.out _).mono ?_
  rintro e w6 ⟨rfl, hw6⟩
  have hb6 := bcall hb4 (below_any hw6) hb4.size
  clear hw6 hb4
  go_wp2_with fail
  refine (P6.out _).mono ?_
  rintro e w7 ⟨rfl, rfl⟩
  go_wp2_with fail
  refine (R6.out _).mono ?_
  rintro e w8 ⟨rfl, hw8⟩
  have hb8 := bcall hb6 (below_any hw8) hb6.size
  clear hw8 hb6
  go_wp2_with fail
  refine (P7.out _ (HT.out.below hb8)).mono ?_
  rintro e w9 ⟨rfl, hb9'⟩
  have hb9 := bcall hb8 hb9' hb8.size
  clear hb8 hb9'
  go_wp2_with fail
  refine (R7.out _).mono ?_
  rintro e w10 ⟨rfl, hw10⟩
  have hb10 := bcall hb9 (below_any hw10) hb9.size
  clear hw10 hb9
  go_wp2_with fail
  refine (P8.out _ (HT.out.below hb10)).mono ?_
  rintro e w11 ⟨rfl, hb11'⟩
  have hb11 := bcall hb10 hb11' hb10.size
  clear hb10 hb11'
  go_wp2_with fail
  refine (R8.out _).mono ?_
  rintro e w12 ⟨rfl, hb12'⟩
  have hb12 := bcall hb11 hb12' hb11.size
  clear hb11 hb12'
  go_wp2_with fail
  refine (P9.out _ (HT.out.below hb12)).mono ?_
  rintro e w13 ⟨rfl, hb13'⟩
  have hb13 := bcall hb12 hb13' hb12.size
  clear hb12 hb13'
  go_wp2
  go_ret
  exact ⟨rfl, hb13⟩

set_option maxRecDepth 100000 in
theorem walk (a0 a1 : ByteArray) (w0 : a0.size ≤ maxLen) (w1 : a1.size ≤ maxLen) (w : World) (ht : Tabs w) :
    Calls Tryd.prog 3 #[.string a0, .string a1] w fun e w' => e = .returned (.bool true) ∧ Below w.heap.size w w' := by
  have hm := w0
  have hn := w1
  unfold maxLen at hm hn
  by_cases hs0 : 100 < a0.size
  · have P8 := Lib.hid (awake_any w ht)
    clear ht
    go_enter Tryd.func3, Tryd.ntmps3
    go_wp2_with fail
    refine P8.out.mono ?_
    rintro e w1 ⟨rfl, hb1⟩
    go_wp2
    go_ret
    exact ⟨rfl, hb1⟩
  · by_cases hs1 : 100 < a1.size
    · have P8 := Lib.hid (awake_any w ht)
      clear ht
      go_enter Tryd.func3, Tryd.ntmps3
      go_wp2_with fail
      refine P8.out.mono ?_
      rintro e w1 ⟨rfl, hb1⟩
      go_wp2
      go_ret
      exact ⟨rfl, hb1⟩
    · exact walk_of a0 a1 (shA a0) (lgA a0) (mpA a0) (unA a0) (txA a0) (rdA a1) (lnk a0) (lgO a0) (mpO a0) (mpd a0) (isA a0) (rdO a1) (lnk a0) (fam a0) w hs0 hs1 ht
        (Lib.hid (short_any a0)) (Lib.hid (rshort_any a0)) (Lib.hid (long_any a0)) (Lib.hid (rlong_any a0)) (Lib.hid (family_any a0)) (Lib.hid (rfamily_any a0)) (Lib.hid (link_any a0)) (Lib.hid (rlink_any a0))
        (Lib.hid (map_any a0)) (Lib.hid (rmap_any a0)) (Lib.hid (unmap_any a0)) (Lib.hid (runmap_any a0)) (Lib.hid (text_any a0)) (Lib.hid (rtext_any a0)) (Lib.hid (read_any a1 (by omega))) (Lib.hid (rread_any a1 (by omega))) (Lib.hid awake_any)

set_option maxRecDepth 100000 in
theorem lifted (os : Os) (started : os.Started) (H : Type) (enc : TypeId × Value → H) :
    ReturnsInHanded {} Tryd.checked os 3 .any (fun w args => (Rows.addrTellsSpec.pre enc Tryd.prog Tryd.f3 Rows.addrTellsRow.domain false w args ∧ laidMetH Tryd.prog Rows.addrTellsRow.laid w) ∧ sizedMet enc Tryd.prog Tryd.f3 (OpenSpec.ofChange Rows.addrTellsSpec) false w args)
      (Rows.addrTellsSpec.post enc Tryd.prog Tryd.f3 false true false false) := by
  refine returnsInHanded_of_change_and (C := Tryd.checked) (X := fun w _ => laidMetH Tryd.prog Rows.addrTellsRow.laid w) (fun _ _ _ hh h => h.of_heap hh) own started (by kernel_rfl) Tryd.func3
    (ChangeSpec.witness_shaped (enc := enc) (C := Tryd.checked) (os := os) (X := fun w _ => laidMetH Tryd.prog Rows.addrTellsRow.laid w) false (World.laidAll Tryd.prog os Rows.addrTellsRow.laid) #[.string ByteArray.empty, .string ByteArray.empty] 8 (World.laidAll_os _ _ _)
      (World.shaped_of_ZipB (by kernel_rfl) (by kernel_rfl)) (by kernel_rfl) (by kernel_rfl) (by kernel_rfl)
      (by rw [MakeChecks.laidMetH_plain _ _ _ (by kernel_rfl)]; exact laidMet_laidAll _ (by kernel_rfl) (by kernel_rfl))) ?_
  intro W base args ds gs before hval0 hW _ _ hL _
  have hval : ∀ (j : Nat) t v, Tryd.f3.params[j]? = some t → args[j]? = some v → Value.okWide Tryd.prog W .any base t v := hval0
  have hW' := hW
  obtain ⟨p, q, hA0, hV, rfl, hfz, hnd⟩ := hW
  have hA : DataW.TrodAll enc Tryd.prog W 0 (fun _ => true) true Tryd.f3.params.toList args.toList ds p := hA0
  rw [Tryd.params3] at hA hval
  obtain ⟨v0, vs0, d0, ds0, p0, q0, hargs, rfl, rfl, h0, r0⟩ := trodAll_cons hA
  obtain ⟨v1, vs1, d1, ds1, p1, q1, rfl, rfl, rfl, h1, r1⟩ := trodAll_cons r0
  obtain ⟨rfl, rfl, rfl⟩ := trodAll_nil r1
  obtain rfl : args = #[v0, v1] := by cases args; simp_all
  obtain ⟨rfl, rfl⟩ := trodVars_none hV
  obtain ⟨a0, rfl, rfl, rfl, w0⟩ := open_string Tryd.underlying9 (hval 0 9 v0 rfl rfl) h0
  obtain ⟨a1, rfl, rfl, rfl, w1⟩ := open_string Tryd.underlying9 (hval 1 9 v1 rfl rfl) h1
  clear hA0 hval0
  simp only [List.append_nil] at hW'
  refine (walk a0 a1 w0 w1 W (of_laid hL).tabs).mono fun e W' ⟨he, hg⟩ => ?_
  subst he
  exact ⟨_, rfl, _, _, _, [], _, [], hW', trodAll_mk1 (shut_bool Tryd.underlying4 _), (trodAll_cons_mk (shut_string Tryd.underlying9 w0) (trodAll_cons_mk (shut_string Tryd.underlying9 w1) trodAll_mk0)), rfl, hg.frame _, fun h => by cases h⟩

theorem over : Rows.AddrTellsSaid :=
  OpenClaim.holds_of_wide 3 Tryd.f3 rfl rfl rfl rfl rfl rfl rfl ⟨rfl, rfl, rfl, rfl, rfl⟩ rfl rfl rfl rfl rfl (by kernel_rfl) Tryd.func3 (by kernel_rfl)
    (of_decide_eq_true (by kernel_rfl)) (by unfold Func.isWrapper; first | (rw [if_pos (by decide +kernel)]; kernel_rfl) | (rw [if_neg (by decide +kernel)]; exact ⟨rfl, rfl⟩))
    (fun os started H enc _ => lifted os started H enc)

theorem proved : Rows.AddrTellsCardSaid :=
  Claim7.holds_tied_plain_at .later [] _ true _ true
    over (fun _ h => by cases h) (by kernel_rfl) (fun _ h => by cases h) addrTells_row_tie rfl ⟨rfl, rfl⟩ (by kernel_rfl) rfl
    (fun f fn hf hfn => by
      obtain rfl : f = 3 := Option.some.inj ((show Tryd.prog.funcNamed "roadbook/roadbooklaw06.AddrTells" = some 3 by kernel_rfl).symm.trans hf) |>.symm
      obtain rfl : fn = Tryd.f3 := (Option.some.inj (Tryd.func3.symm.trans hfn)).symm
      exact ⟨by kernel_rfl, fun j t ht => by
        rw [Tryd.params3] at ht
        have hm : t ∈ [9, 9] := by simpa using Array.mem_of_getElem? ht
        have hall : ([9, 9].all fun u => !Tryd.prog.wantsStandIn u) = true := by kernel_rfl
        exact (show Tryd.prog.wantsStandIn t = false by simpa using List.all_eq_true.1 hall t hm)⟩)
    (by kernel_rfl)
#print axioms proved
end Go.Proofs.YtjppfalckfmalaaDoor.addrTells
