/-
  AddrTexts, at every bytes and every text: an address has a text, of which it is read; a text that is read is that address's. The listed variables hold what the program's text lays.
-/
import Derived.Test.YtjppfalckfmalaaDoorAw
import Derived.Test.YtjppfalckfmalaaDoorCards
import Derived.Test.YtjppfalckfmalaaDoorTie
import Derived.Lay
import Derived.SevenTiedAt
import Derived.Stop.Joined
namespace Go.Proofs.YtjppfalckfmalaaDoor.addrTexts
open Go.ChangeShapes Go.WideShapes Go.ChangeAt Go.RowKit
open Go.ChangeMaps (open_string shut_string)
open Go.Proofs.YtjppfalckfmalaaDoor.Sb
open Go.Proofs.YtjppfalckfmalaaDoor.Tab
open Go.Proofs.YtjppfalckfmalaaDoor.Ad
open Go.Proofs.YtjppfalckfmalaaDoor.Tr
open Go.Proofs.YtjppfalckfmalaaDoor.Fo
open Go.Proofs.YtjppfalckfmalaaDoor.RFo
open Go.Proofs.YtjppfalckfmalaaDoor.Aw
set_option linter.unusedVariables false      -- a walk need not use every 'w<i>'

theorem own : ownKnob Tryd.prog.godebug = none := by kernel_rfl

set_option maxHeartbeats 4000000 in
theorem walk_of (a0 a1 A B C U : ByteArray) (p q r z : Bool) (w : World) (hs0 : ¬ 100 < a0.size) (hs1 : ¬ 100 < a1.size) (ht : Tabs w)
    (P1 : Hid (∀ w, Tabs w → Calls Tryd.prog 19 #[.string a0] w fun e w' => e = .returned (.tuple #[.string A, .bool p]) ∧ Below w.heap.size w w'))
    (P2 : Hid (∀ w, Tabs w → Calls Tryd.prog 21 #[.string A] w fun e w' => e = .returned (.tuple #[.string B, .bool q]) ∧ Below w.heap.size w w'))
    (P3 : Hid (∀ w, Tabs w → Calls Tryd.prog 21 #[.string a1] w fun e w' => e = .returned (.tuple #[.string C, .bool r]) ∧ Below w.heap.size w w'))
    (P4 : Hid (∀ w, Tabs w → Calls Tryd.prog 19 #[.string C] w fun e w' => e = .returned (.tuple #[.string U, .bool z]) ∧ Below w.heap.size w w'))
    (P5 : Hid (∀ w, Tabs w → Calls Tryd.prog 6 #[] w fun e w' => e = .returned (.bool true) ∧ Below w.heap.size w w'))
    (hp : (((a0.size : Int) == 4) || ((a0.size : Int) == 16)) = p) (hq : p = true → q = true ∧ B = a0) (hr : r = true → U = a1) (hc : r = false → C = ⟨#[]⟩) :
    Calls Tryd.prog 4 #[.string a0, .string a1] w fun e w' => e = .returned (.bool true) ∧ Below w.heap.size w w' := by
  have HT := Lib.hid ht
  clear ht
  have HSE := Lib.hid (show (a0.toList == a0.toList) = true by simp)
  have HSF := Lib.hid (show (a1.toList == a1.toList) = true by simp)
  have h4 : ((a0.size : Int) == 4) = true ∨ ((a0.size : Int) == 4) = false := by cases ((a0.size : Int) == 4) <;> simp
  have h16 : ((a0.size : Int) == 16) = true ∨ ((a0.size : Int) == 16) = false := by cases ((a0.size : Int) == 16) <;> simp
  rcases h4 with h4 | h4
  all_goals rcases h16 with h16 | h16
  all_goals rw [h4, h16] at hp
  all_goals simp only [Bool.or_true, Bool.or_false, Bool.or_self] at hp
  all_goals subst hp
  all_goals cases r
  all_goals try obtain ⟨rfl, rfl⟩ := hq rfl
  all_goals try obtain rfl := hr rfl
  all_goals try obtain rfl := hc rfl
  all_goals clear hq hr hc
  all_goals
    have hse := HSE.out
    have hsf := HSF.out
    go_enter Tryd.func4, Tryd.ntmps4
    go_wp2_with fail
    refine (P1.out _ HT.out).mono ?_
    rintro e w1 ⟨rfl, hb1⟩
    go_wp2_with fail
    refine (P2.out _ (HT.out.below hb1)).mono ?_
    rintro e w2 ⟨rfl, hb2⟩
    replace hb2 := bcall hb1 hb2 hb1.size
    clear hb1
    go_wp2_with fail
    refine (P3.out _ (HT.out.below hb2)).mono ?_
    rintro e w3 ⟨rfl, hb3⟩
    replace hb3 := bcall hb2 hb3 hb2.size
    clear hb2
    go_wp2_with fail
    refine (P4.out _ (HT.out.below hb3)).mono ?_
    rintro e w4 ⟨rfl, hb4⟩
    replace hb4 := bcall hb3 hb4 hb3.size
    clear hb3
    go_wp2_with fail
    refine (P5.out _ (HT.out.below hb4)).mono ?_
    rintro e w5 ⟨rfl, hb5⟩
    replace hb5 := bcall hb4 hb5 hb4.size
    clear hb4
    go_wp2
    go_ret
    exact ⟨rfl, hb5⟩

theorem text_small (a : ByteArray) : (txA a).size ≤ 1000 := by
  unfold txA
  split
  · rename_i h
    rcases isA_cases h with h | h
    · have := Wr.txt_len 46 10 1 (by decide) (by decide) a.data.toList 4
      rw [atxt4 a h]; simp [ByteArray.size]; omega
    · have := Wr.txt_len 58 16 2 (by decide) (by decide) a.data.toList 8
      rw [atxt6 a h]; simp [ByteArray.size]; omega
  · decide

theorem walk (a0 a1 : ByteArray) (w0 : a0.size ≤ maxLen) (w1 : a1.size ≤ maxLen) (w : World) (ht : Tabs w) :
    Calls Tryd.prog 4 #[.string a0, .string a1] w fun e w' => e = .returned (.bool true) ∧ Below w.heap.size w w' := by
  have hm := w0
  have hn := w1
  unfold maxLen at hm hn
  by_cases hs0 : 100 < a0.size
  · have P8 := Lib.hid (awake_any w ht)
    clear ht
    go_enter Tryd.func4, Tryd.ntmps4
    go_wp2_with fail
    refine P8.out.mono ?_
    rintro e w1 ⟨rfl, hb1⟩
    go_wp2
    go_ret
    exact ⟨rfl, hb1⟩
  · by_cases hs1 : 100 < a1.size
    · have P8 := Lib.hid (awake_any w ht)
      clear ht
      go_enter Tryd.func4, Tryd.ntmps4
      go_wp2_with fail
      refine P8.out.mono ?_
      rintro e w1 ⟨rfl, hb1⟩
      go_wp2
      go_ret
      exact ⟨rfl, hb1⟩
    · refine walk_of a0 a1 (txA a0) (rdA (txA a0)) (rdA a1) (txA (rdA a1)) (isA a0) (rdO (txA a0)) (rdO a1) (isA (rdA a1)) w hs0 hs1 ht
        (Lib.hid (text_any a0)) (Lib.hid (read_any (txA a0) (text_small a0))) (Lib.hid (read_any a1 (by omega))) (Lib.hid (text_any (rdA a1))) (Lib.hid awake_any) ?_ ?_ ?_ ?_
      · unfold isA
        by_cases h4 : a0.size = 4
        · simp [h4]
        · by_cases h6 : a0.size = 16
          · simp [h6]
          · simp [h4, h6]; omega
      · intro h
        exact rd_yes _ _ (txA_of a0 h)
      · intro h
        rcases rd_cases a1 with ⟨a, ho, h1, h2⟩ | ⟨_, h1, _⟩
        · rw [h2, txA, if_pos ho.1]
          exact bytes_ext _ _ (by simpa using ho.2)
        · rw [h1] at h; cases h
      · intro h
        rcases rd_cases a1 with ⟨a, ho, h1, h2⟩ | ⟨_, _, h2⟩
        · rw [h1] at h; cases h
        · exact h2

set_option maxRecDepth 100000 in
theorem lifted (os : Os) (started : os.Started) (H : Type) (enc : TypeId × Value → H) :
    ReturnsInHanded {} Tryd.checked os 4 .any (fun w args => (Rows.addrTextsSpec.pre enc Tryd.prog Tryd.f4 Rows.addrTextsRow.domain false w args ∧ laidMetH Tryd.prog Rows.addrTextsRow.laid w) ∧ sizedMet enc Tryd.prog Tryd.f4 (OpenSpec.ofChange Rows.addrTextsSpec) false w args)
      (Rows.addrTextsSpec.post enc Tryd.prog Tryd.f4 false true false false) := by
  refine returnsInHanded_of_change_and (C := Tryd.checked) (X := fun w _ => laidMetH Tryd.prog Rows.addrTextsRow.laid w) (fun _ _ _ hh h => h.of_heap hh) own started (by kernel_rfl) Tryd.func4
    (ChangeSpec.witness_shaped (enc := enc) (C := Tryd.checked) (os := os) (X := fun w _ => laidMetH Tryd.prog Rows.addrTextsRow.laid w) false (World.laidAll Tryd.prog os Rows.addrTextsRow.laid) #[.string ByteArray.empty, .string ByteArray.empty] 8 (World.laidAll_os _ _ _)
      (World.shaped_of_ZipB (by kernel_rfl) (by kernel_rfl)) (by kernel_rfl) (by kernel_rfl) (by kernel_rfl)
      (by rw [MakeChecks.laidMetH_plain _ _ _ (by kernel_rfl)]; exact laidMet_laidAll _ (by kernel_rfl) (by kernel_rfl))) ?_
  intro W base args ds gs before hval0 hW _ _ hL _
  have hval : ∀ (j : Nat) t v, Tryd.f4.params[j]? = some t → args[j]? = some v → Value.okWide Tryd.prog W .any base t v := hval0
  have hW' := hW
  obtain ⟨p, q, hA0, hV, rfl, hfz, hnd⟩ := hW
  have hA : DataW.TrodAll enc Tryd.prog W 0 (fun _ => true) true Tryd.f4.params.toList args.toList ds p := hA0
  rw [Tryd.params4] at hA hval
  obtain ⟨v0, vs0, d0, ds0, p0, q0, hargs, rfl, rfl, h0, r0⟩ := trodAll_cons hA
  obtain ⟨v1, vs1, d1, ds1, p1, q1, rfl, rfl, rfl, h1, r1⟩ := trodAll_cons r0
  obtain ⟨rfl, rfl, rfl⟩ := trodAll_nil r1
  obtain rfl : args = #[v0, v1] := by cases args; simp_all
  obtain ⟨rfl, rfl⟩ := trodVars_none hV
  obtain ⟨a0, rfl, rfl, rfl, w0⟩ := open_string Tryd.underlying9 (hval 0 9 v0 rfl rfl) h0
  obtain ⟨a1, rfl, rfl, rfl, w1⟩ := open_string Tryd.underlying9 (hval 1 9 v1 rfl rfl) h1
  clear hA0 hval0
  simp only [List.append_nil] at hW'
  refine (walk a0 a1 w0 w1 W (of_laid hL).tabs).mono fun e W' ⟨he, hg⟩ => ?_
  subst he
  exact ⟨_, rfl, _, _, _, [], _, [], hW', trodAll_mk1 (shut_bool Tryd.underlying4 _), (trodAll_cons_mk (shut_string Tryd.underlying9 w0) (trodAll_cons_mk (shut_string Tryd.underlying9 w1) trodAll_mk0)), rfl, hg.frame _, fun h => by cases h⟩

theorem over : Rows.AddrTextsSaid :=
  OpenClaim.holds_of_wide 4 Tryd.f4 rfl rfl rfl rfl rfl rfl rfl ⟨rfl, rfl, rfl, rfl, rfl⟩ rfl rfl rfl rfl rfl (by kernel_rfl) Tryd.func4 (by kernel_rfl)
    (of_decide_eq_true (by kernel_rfl)) (by unfold Func.isWrapper; first | (rw [if_pos (by decide +kernel)]; kernel_rfl) | (rw [if_neg (by decide +kernel)]; exact ⟨rfl, rfl⟩))
    (fun os started H enc _ => lifted os started H enc)

theorem proved : Rows.AddrTextsCardSaid :=
  Claim7.holds_tied_plain_at .later [] _ true _ true
    over (fun _ h => by cases h) (by kernel_rfl) (fun _ h => by cases h) addrTexts_row_tie rfl ⟨rfl, rfl⟩ (by kernel_rfl) rfl
    (fun f fn hf hfn => by
      obtain rfl : f = 4 := Option.some.inj ((show Tryd.prog.funcNamed "roadbook/roadbooklaw06.AddrTexts" = some 4 by kernel_rfl).symm.trans hf) |>.symm
      obtain rfl : fn = Tryd.f4 := (Option.some.inj (Tryd.func4.symm.trans hfn)).symm
      exact ⟨by kernel_rfl, fun j t ht => by
        rw [Tryd.params4] at ht
        have hm : t ∈ [9, 9] := by simpa using Array.mem_of_getElem? ht
        have hall : ([9, 9].all fun u => !Tryd.prog.wantsStandIn u) = true := by kernel_rfl
        exact (show Tryd.prog.wantsStandIn t = false by simpa using List.all_eq_true.1 hall t hm)⟩)
    (by kernel_rfl)
#print axioms proved
end Go.Proofs.YtjppfalckfmalaaDoor.addrTexts
