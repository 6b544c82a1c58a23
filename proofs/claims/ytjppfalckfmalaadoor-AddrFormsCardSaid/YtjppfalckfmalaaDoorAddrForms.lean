/-
  AddrForms, at every text: short forms and mapped addresses come back, and nothing is both. The listed variables hold what the program's text lays.
-/
import Derived.Test.YtjppfalckfmalaaDoorAw
import Derived.Test.YtjppfalckfmalaaDoorCards
import Derived.Test.YtjppfalckfmalaaDoorTie
import Derived.Lay
import Derived.SevenTiedAt
import Derived.Stop.Joined
namespace Go.Proofs.YtjppfalckfmalaaDoor.addrForms
open Go.ChangeShapes Go.WideShapes Go.ChangeAt Go.RowKit
open Go.ChangeMaps (open_string shut_string)
open Go.Proofs.YtjppfalckfmalaaDoor.Sb
open Go.Proofs.YtjppfalckfmalaaDoor.Tab
open Go.Proofs.YtjppfalckfmalaaDoor.Ad
open Go.Proofs.YtjppfalckfmalaaDoor.Tr
open Go.Proofs.YtjppfalckfmalaaDoor.Fo
open Go.Proofs.YtjppfalckfmalaaDoor.RFo
open Go.Proofs.YtjppfalckfmalaaDoor.Aw
set_option linter.unusedVariables false      -- a walk need not use every 'w<i>'

theorem own : ownKnob Tryd.prog.godebug = none := by kernel_rfl

theorem cut_back (h s : ByteArray) (n : Nat) (hn : h.size = n) : (h ++ s).extract n (h ++ s).size = s := by
  refine bytes_ext _ _ ?_
  have e : h.data.toList.length = n := by simpa using hn
  have e2 : ((h ++ s).extract n (h ++ s).size).data.toList = ((h ++ s).data.toList.drop n) := by
    rw [Lib.extract_data, List.take_of_length_le (by simp)]
  rw [e2]
  simp [ByteArray.data_append, ← e]
theorem has_pre (h s : ByteArray) : Lib.hasPrefix (h ++ s).data.toList h.data.toList = true := by
  simp [Lib.hasPrefix, ByteArray.data_append]
theorem pre_take {l p : List UInt8} (h : Lib.hasPrefix l p = true) : ∃ r, l = p ++ r := by
  obtain ⟨r, hr⟩ := List.isPrefixOf_iff_prefix.1 h
  exact ⟨r, hr.symm⟩

theorem long8 (s : ByteArray) (h : s.size = 8) : lnk (lgA s) = true ∧ shA (lgA s) = s := by
  have e : lgA s = lkH ++ s := if_pos h
  have hs : (lkH ++ s).size = 16 := by simp [ByteArray.size_append, h]; rfl
  have hl : lnk (lkH ++ s) = true := by
    unfold lnk
    rw [six_yes hs]; exact has_pre lkH s
  rw [e, shA, hl]
  exact ⟨rfl, cut_back lkH s 8 rfl⟩
theorem longN (s : ByteArray) (h : s.size ≠ 8) : lnk (lgA s) = false := by
  have e : lgA s = ByteArray.empty := if_neg h
  rw [e]; rfl
theorem map4 (s : ByteArray) (h : s.size = 4) : mpd (mpA s) = true ∧ unA (mpA s) = s := by
  have e : mpA s = mpH ++ s := if_pos h
  have hs : (mpH ++ s).size = 16 := by simp [ByteArray.size_append, h]; rfl
  have hl : mpd (mpH ++ s) = true := by
    unfold mpd
    rw [six_yes hs]; exact has_pre mpH s
  rw [e, unA, hl]
  exact ⟨rfl, cut_back mpH s 12 rfl⟩
theorem mapN (s : ByteArray) (h : s.size ≠ 4) : mpd (mpA s) = false := by
  have e : mpA s = ByteArray.empty := if_neg h
  rw [e]; rfl
theorem not_both (s : ByteArray) (h : mpd s = true) : lnk s = false := by
  cases hl : lnk s with
  | false => rfl
  | true =>
    unfold mpd six at h
    unfold lnk six at hl
    simp only [Bool.and_eq_true] at h hl
    obtain ⟨r, hr⟩ := pre_take h.2
    obtain ⟨t, ht⟩ := pre_take hl.2
    rw [hr] at ht
    simp [mpL, lkL] at ht

set_option maxHeartbeats 4000000 in
theorem walk_of (a0 A B C D X : ByteArray) (p q u v wv ls la : Bool) (w : World) (hs : ¬ 100 < a0.size)
    (P1 : Hid (∀ w, Calls Tryd.prog 9 #[.string a0] w fun e w' => e = .returned (.tuple #[.string A, .bool p]) ∧ w' = w))
    (P2 : Hid (∀ w, Calls Tryd.prog 7 #[.string A] w fun e w' => e = .returned (.tuple #[.string B, .bool q]) ∧ w' = w))
    (P3 : Hid (∀ w, Calls Tryd.prog 15 #[.string a0] w fun e w' => e = .returned (.tuple #[.string C, .bool u]) ∧ w' = w))
    (P4 : Hid (∀ w, Calls Tryd.prog 17 #[.string C] w fun e w' => e = .returned (.tuple #[.string D, .bool v]) ∧ w' = w))
    (P5 : Hid (∀ w, Calls Tryd.prog 17 #[.string a0] w fun e w' => e = .returned (.tuple #[.string X, .bool wv]) ∧ w' = w))
    (P6 : Hid (∀ w, Calls Tryd.prog 13 #[.string a0] w fun e w' => e = .returned (.bool ls) ∧ w' = w))
    (P7 : Hid (∀ w, Calls Tryd.prog 13 #[.string A] w fun e w' => e = .returned (.bool la) ∧ w' = w))
    (P8 : Hid (Calls Tryd.prog 6 #[] w fun e w' => e = .returned (.bool true) ∧ Below w.heap.size w w'))
    (e8 : ((a0.size : Int) == 8) = p) (e4 : ((a0.size : Int) == 4) = u) (hq : q = p) (hv : v = u) (hb : p = true → B = a0) (hd : u = true → D = a0) (hw : wv = true → ls = false) (hla : la = p) :
    Calls Tryd.prog 5 #[.string a0] w fun e w' => e = .returned (.bool true) ∧ Below w.heap.size w w' := by
  subst hq hv hla
  have HSE := Lib.hid (show (a0.toList == a0.toList) = true by simp)
  cases la
  all_goals cases v
  all_goals cases wv
  all_goals try obtain rfl := hb rfl
  all_goals try obtain rfl := hd rfl
  all_goals try obtain rfl := hw rfl
  all_goals clear hb hd hw
  all_goals
    have hse := HSE.out
    go_enter Tryd.func5, Tryd.ntmps5
    go_wp2_with fail
    refine (P1.out _).mono ?_
    rintro e w ⟨rfl, rfl⟩
    go_wp2_with fail
    refine (P2.out _).mono ?_
    rintro e w ⟨rfl, rfl⟩
    go_wp2_with fail
    refine (P3.out _).mono ?_
    rintro e w ⟨rfl, rfl⟩
    go_wp2_with fail
    refine (P4.out _).mono ?_
    rintro e w ⟨rfl, rfl⟩
    go_wp2_with fail
    refine (P5.out _).mono ?_
    rintro e w ⟨rfl, rfl⟩
    go_wp2_with fail
    refine P8.out.mono ?_
    rintro e w1 ⟨rfl, hb1⟩
    go_wp2_with (first
      | ((with_reducible refine (P6.out _).mono ?_); rintro e w' ⟨rfl, rfl⟩)
      | ((with_reducible refine (P7.out _).mono ?_); rintro e w' ⟨rfl, rfl⟩))
    go_ret
    exact ⟨rfl, hb1⟩

theorem walk (a0 : ByteArray) (w0 : a0.size ≤ maxLen) (w : World) (ht : Tabs w) :
    Calls Tryd.prog 5 #[.string a0] w fun e w' => e = .returned (.bool true) ∧ Below w.heap.size w w' := by
  by_cases hs : 100 < a0.size
  · have hm := w0
    unfold maxLen at hm
    have P8 := Lib.hid (awake_any w ht)
    clear ht
    go_enter Tryd.func5, Tryd.ntmps5
    go_wp2_with fail
    refine P8.out.mono ?_
    rintro e w1 ⟨rfl, hb1⟩
    go_wp2
    go_ret
    exact ⟨rfl, hb1⟩
  · refine walk_of a0 (lgA a0) (shA (lgA a0)) (mpA a0) (unA (mpA a0)) (unA a0) (lgO a0) (lnk (lgA a0)) (mpO a0) (mpd (mpA a0)) (mpd a0) (lnk a0) (lnk (lgA a0)) w hs
      (Lib.hid (long_any a0)) (Lib.hid (short_any _)) (Lib.hid (map_any a0)) (Lib.hid (unmap_any _)) (Lib.hid (unmap_any a0)) (Lib.hid (link_any a0)) (Lib.hid (link_any _)) (Lib.hid (awake_any w ht)) ?_ ?_ ?_ ?_ ?_ ?_ (not_both a0) ?_
    all_goals by_cases h8 : a0.size = 8
    all_goals by_cases h4 : a0.size = 4
    all_goals simp [lgO, mpO, h8, h4, (long8 a0 · |>.1), (long8 a0 · |>.2), (map4 a0 · |>.1), (map4 a0 · |>.2), longN, mapN]
    all_goals omega

set_option maxRecDepth 100000 in
theorem lifted (os : Os) (started : os.Started) (H : Type) (enc : TypeId × Value → H) :
    ReturnsInHanded {} Tryd.checked os 5 .any (fun w args => (Rows.addrFormsSpec.pre enc Tryd.prog Tryd.f5 Rows.addrFormsRow.domain false w args ∧ laidMetH Tryd.prog Rows.addrFormsRow.laid w) ∧ sizedMet enc Tryd.prog Tryd.f5 (OpenSpec.ofChange Rows.addrFormsSpec) false w args)
      (Rows.addrFormsSpec.post enc Tryd.prog Tryd.f5 false true false false) := by
  refine returnsInHanded_of_change_and (C := Tryd.checked) (X := fun w _ => laidMetH Tryd.prog Rows.addrFormsRow.laid w) (fun _ _ _ hh h => h.of_heap hh) own started (by kernel_rfl) Tryd.func5
    (ChangeSpec.witness_shaped (enc := enc) (C := Tryd.checked) (os := os) (X := fun w _ => laidMetH Tryd.prog Rows.addrFormsRow.laid w) false (World.laidAll Tryd.prog os Rows.addrFormsRow.laid) #[.string ByteArray.empty] 8 (World.laidAll_os _ _ _)
      (World.shaped_of_ZipB (by kernel_rfl) (by kernel_rfl)) (by kernel_rfl) (by kernel_rfl) (by kernel_rfl)
      (by rw [MakeChecks.laidMetH_plain _ _ _ (by kernel_rfl)]; exact laidMet_laidAll _ (by kernel_rfl) (by kernel_rfl))) ?_
  intro W base args ds gs before hval0 hW _ _ hL _
  have hval : ∀ (j : Nat) t v, Tryd.f5.params[j]? = some t → args[j]? = some v → Value.okWide Tryd.prog W .any base t v := hval0
  have hW' := hW
  obtain ⟨p, q, hA0, hV, rfl, hfz, hnd⟩ := hW
  have hA : DataW.TrodAll enc Tryd.prog W 0 (fun _ => true) true Tryd.f5.params.toList args.toList ds p := hA0
  rw [Tryd.params5] at hA hval
  obtain ⟨v0, vs0, d0, ds0, p0, q0, hargs, rfl, rfl, h0, r0⟩ := trodAll_cons hA
  obtain ⟨rfl, rfl, rfl⟩ := trodAll_nil r0
  obtain rfl : args = #[v0] := by cases args; simp_all
  obtain ⟨rfl, rfl⟩ := trodVars_none hV
  obtain ⟨a0, rfl, rfl, rfl, w0⟩ := open_string Tryd.underlying9 (hval 0 9 v0 rfl rfl) h0
  clear hA0 hval0
  simp only [List.append_nil] at hW'
  refine (walk a0 w0 W (of_laid hL).tabs).mono fun e W' ⟨he, hg⟩ => ?_
  subst he
  exact ⟨_, rfl, _, _, _, [], _, [], hW', trodAll_mk1 (shut_bool Tryd.underlying4 _), (trodAll_cons_mk (shut_string Tryd.underlying9 w0) trodAll_mk0), rfl, hg.frame _, fun h => by cases h⟩

theorem over : Rows.AddrFormsSaid :=
  OpenClaim.holds_of_wide 5 Tryd.f5 rfl rfl rfl rfl rfl rfl rfl ⟨rfl, rfl, rfl, rfl, rfl⟩ rfl rfl rfl rfl rfl (by kernel_rfl) Tryd.func5 (by kernel_rfl)
    (of_decide_eq_true (by kernel_rfl)) (by unfold Func.isWrapper; first | (rw [if_pos (by decide +kernel)]; kernel_rfl) | (rw [if_neg (by decide +kernel)]; exact ⟨rfl, rfl⟩))
    (fun os started H enc _ => lifted os started H enc)

theorem proved : Rows.AddrFormsCardSaid :=
  Claim7.holds_tied_plain_at .later [] _ true _ true
    over (fun _ h => by cases h) (by kernel_rfl) (fun _ h => by cases h) addrForms_row_tie rfl ⟨rfl, rfl⟩ (by kernel_rfl) rfl
    (fun f fn hf hfn => by
      obtain rfl : f = 5 := Option.some.inj ((show Tryd.prog.funcNamed "roadbook/roadbooklaw06.AddrForms" = some 5 by kernel_rfl).symm.trans hf) |>.symm
      obtain rfl : fn = Tryd.f5 := (Option.some.inj (Tryd.func5.symm.trans hfn)).symm
      exact ⟨by kernel_rfl, fun j t ht => by
        rw [Tryd.params5] at ht
        have hm : t ∈ [9] := by simpa using Array.mem_of_getElem? ht
        have hall : ([9].all fun u => !Tryd.prog.wantsStandIn u) = true := by kernel_rfl
        exact (show Tryd.prog.wantsStandIn t = false by simpa using List.all_eq_true.1 hall t hm)⟩)
    (by kernel_rfl)
#print axioms proved
end Go.Proofs.YtjppfalckfmalaaDoor.addrForms
