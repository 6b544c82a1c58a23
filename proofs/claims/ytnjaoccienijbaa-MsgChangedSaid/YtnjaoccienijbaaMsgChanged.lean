/-
  MsgChanged, of any message and any byte: a message is the same as itself; with any one field changed it isn't. No condition.
-/
import Derived.Test.YtnjaoccienijbaaChg1
import Derived.Test.YtnjaoccienijbaaChg2
import Derived.Test.YtnjaoccienijbaaChg3
import Derived.Test.YtnjaoccienijbaaChg4
import Derived.Test.YtnjaoccienijbaaChg5
import Derived.Test.YtnjaoccienijbaaChg6
import Derived.SizedLaws
import Derived.WalkKit
import Derived.ProofKit
import Derived.OpenShut
import Derived.ShutString
namespace Go.Proofs.Ytnjaoccienijbaa.msgChanged
open Go.ChangeShapes Go.WideShapes Go.ChangeAt Go.RowKit
open Go.Proofs.Ytnjaoccienijbaa.Ms
open Go.Proofs.Ytnjaoccienijbaa.Box
open Go.Proofs.Ytnjaoccienijbaa.Few
open Go.Proofs.Ytnjaoccienijbaa.Aw
open Go.Proofs.Ytnjaoccienijbaa.Open
open Go.Proofs.Ytnjaoccienijbaa.Chg
set_option linter.unusedVariables false

theorem own : ownKnob Try.prog.godebug = none := by kernel_rfl

section
variable {H : Type} {enc : TypeId × Value → H} {W : World}
theorem sized_of {fuel : Nat} {m : M} {x : DataW H × List MemPlace} (h : DataW.trod enc Try.prog W 0 (fun _ => true) true fuel 25 m.cells.toList = some x) (hw : ∀ n ∈ x.1.weights Try.prog 25, n ≤ 140737488355328) :
    m.auth.size ≤ 140737488355328 ∧ m.pfx.size ≤ 140737488355328 ∧ m.next.size ≤ 140737488355328 ∧ m.id.size ≤ 140737488355328 ∧ m.addr.size ≤ 140737488355328 ∧ m.orig.size ≤ 140737488355328 ∧ m.data.size ≤ 140737488355328 := by
  obtain ⟨xs, n, _, hx, _, hxl, hf⟩ := DataW.trod_struct Try.underlying25 h
  have hs1 : Try.prog.cellsOf 9 = 1 := by kernel_rfl
  have key : ∀ (j : Nat) (f : Field) (s : ByteArray), (Try.prog.fieldsOf 25)[j]? = some f → f.type = 9 → f.offset = j → (m.cells.toList.drop j).take 1 = [.string s] → s.size ≤ 140737488355328 := by
    intro j f s hj hft hfo hc
    have h1 := hf j f hj
    rw [hft, hfo, hs1, hc] at h1
    have hjl : j < xs.length := by rw [hxl]; exact (Array.getElem?_eq_some_iff.1 hj).1
    have hg : xs[j]? = some xs[j] := List.getElem?_eq_getElem hjl
    obtain ⟨s', e, hy, _⟩ := DataW.trod_string Try.underlying9 (h1.trans hg)
    obtain rfl : s = s' := by simpa using e
    have hm : s.data.toList.length ∈ x.1.weights Try.prog 25 := by
      rw [hx]
      simp only [DataW.weights, Try.underlying25]
      refine DataW.weights_mem_each (j := j) (t := 9) (d := .lit (.string s.data.toList)) ?_ ?_ _ (by simp [DataW.weights])
      · have hj2 : ((Try.prog.fieldsOf 25).toList)[j]? = some f := by simpa using hj
        have e2 : ((Try.prog.fieldsOf 25).toList.map (·.type))[j]? = some 9 := by rw [List.getElem?_map, hj2]; simp [hft]
        exact e2
      · rw [List.getElem?_map, hg, hy]; rfl
    have := hw _ hm
    simpa using this
  exact ⟨key 3 _ m.auth rfl rfl rfl rfl, key 6 _ m.pfx rfl rfl rfl rfl, key 9 _ m.next rfl rfl rfl rfl, key 11 _ m.id rfl rfl rfl rfl, key 19 _ m.addr rfl rfl rfl rfl, key 20 _ m.orig rfl rfl rfl rfl, key 23 _ m.data rfl rfl rfl rfl⟩
end

set_option maxHeartbeats 3200000 in
set_option maxRecDepth 100000 in
theorem walk_not (m : M) (q : Int) (w : World) (hd : DRow w m.la m.ll) (hs : SRow w m.sa m.sl) (hf : fewB m = false) :
    Calls Try.prog 5 #[.agg m.cells, .int .u8 q] w fun e w' => e = .returned (.bool true) ∧ Below w.heap.size w w' := by
  have PF := Lib.hid (fun W (h : Below w.heap.size w W) => few_any m W (hd.below h) (hs.below h))
  rw [hf] at PF
  have b0 := Bx.new w m
  have bel := balloc (Below.refl _ w) (.cells m.cells 25)
  clear hd hs hf
  go_enter Try.func5, Try.ntmps5
  go_upto_region 1 with fail
  generalize w.alloc (.cells m.cells 25) = V at *
  have B1 := Lib.hid b0
  clear b0
  go_wp2_with (first | (refine wpList_loadM (b := w.heap.size) (m := m) rfl _ rfl rfl B1.out ?_))
  refine (PF.out _ bel).mono ?_
  rintro e w1 ⟨rfl, hb1⟩
  have bel := bcall bel hb1
  clear hb1 PF
  go_wp2_with fail
  refine (awake_any _).mono ?_
  rintro e w2 ⟨rfl, hb2⟩
  have bel := bcall bel hb2
  clear hb2
  go_wp2
  go_ret
  exact ⟨rfl, bel⟩

theorem walk (m : M) (q : Int) (w : World) (hd : DRow w m.la m.ll) (hs : SRow w m.sa m.sl) (h0 : 0 ≤ q) (h1 : q < 256) (hz : m.auth.size ≤ 140737488355328 ∧ m.pfx.size ≤ 140737488355328 ∧ m.next.size ≤ 140737488355328 ∧ m.id.size ≤ 140737488355328 ∧ m.addr.size ≤ 140737488355328 ∧ m.orig.size ≤ 140737488355328 ∧ m.data.size ≤ 140737488355328) :
    Calls Try.prog 5 #[.agg m.cells, .int .u8 q] w fun e w' => e = .returned (.bool true) ∧ Below w.heap.size w w' := by
  obtain ⟨s3, s6, s9, s11, s19, s20, s23⟩ := hz
  cases hf : fewB m
  · exact walk_not m q w hd hs hf
  rcases (show q % 25 = 0 ∨ q % 25 = 1 ∨ q % 25 = 2 ∨ q % 25 = 3 ∨ q % 25 = 4 ∨ q % 25 = 5 ∨ q % 25 = 6 ∨ q % 25 = 7 ∨ q % 25 = 8 ∨ q % 25 = 9 ∨ q % 25 = 10 ∨ q % 25 = 11 ∨ q % 25 = 12 ∨ q % 25 = 13 ∨ q % 25 = 14 ∨ q % 25 = 15 ∨ q % 25 = 16 ∨ q % 25 = 17 ∨ q % 25 = 18 ∨ q % 25 = 19 ∨ q % 25 = 20 ∨ q % 25 = 21 ∨ q % 25 = 22 ∨ q % 25 = 23 ∨ q % 25 = 24 by omega) with hk | hk | hk | hk | hk | hk | hk | hk | hk | hk | hk | hk | hk | hk | hk | hk | hk | hk | hk | hk | hk | hk | hk | hk | hk
  · exact ch_0 m q w hk h0 h1 hd hs hf
  · exact ch_1 m q w hk h0 h1 hd hs hf
  · exact ch_2 m q w hk h0 h1 hd hs hf
  · exact ch_3 m q w hk h0 h1 hd hs hf s3
  · exact ch_4 m q w hk h0 h1 hd hs hf
  · exact ch_5 m q w hk h0 h1 hd hs hf
  · exact ch_6 m q w hk h0 h1 hd hs hf s6
  · exact ch_7 m q w hk h0 h1 hd hs hf
  · exact ch_8 m q w hk h0 h1 hd hs hf
  · exact ch_9 m q w hk h0 h1 hd hs hf s9
  · exact ch_10 m q w hk h0 h1 hd hs hf
  · exact ch_11 m q w hk h0 h1 hd hs hf s11
  · exact ch_12 m q w hk h0 h1 hd hs hf
  · exact ch_13 m q w hk h0 h1 hd hs hf
  · exact ch_14 m q w hk h0 h1 hd hs hf
  · exact ch_15 m q w hk h0 h1 hd hs hf
  · exact ch_16 m q w hk h0 h1 hd hs hf
  · exact ch_17 m q w hk h0 h1 hd hs hf
  · exact ch_18 m q w hk h0 h1 hd hs hf
  · exact ch_19 m q w hk h0 h1 hd hs hf s19
  · exact ch_20 m q w hk h0 h1 hd hs hf s20
  · exact ch_21 m q w hk h0 h1 hd hs hf
  · exact ch_22 m q w hk h0 h1 hd hs hf s23
  · exact ch_23 m q w hk h0 h1 hd hs hf
  · exact ch_24 m q w hk h0 h1 hd hs hf

set_option maxRecDepth 100000 in
theorem lifted (os : Os) (started : os.Started) (H : Type) (enc : TypeId × Value → H) :
    ReturnsInHanded {} Try.checked os 5 .any (Rows.msgChangedSpec.pre6 enc Try.prog Try.f5 Rows.msgChangedRow.domain false) (Rows.msgChangedSpec.post enc Try.prog Try.f5 false true false false) := by
  refine returnsInHanded_of_change_sized (C := Try.checked) own started (by kernel_rfl) Try.func5
    (ChangeSpec.witness6 (enc := enc) (C := Try.checked) false ⟨#[], #[.agg M.zero.cells, .int .u8 0], []⟩ 8 (by kernel_rfl) (by kernel_rfl) (by kernel_rfl) (by kernel_rfl)) ?_
  intro W base args ds gs before hval0 hW hcnd hsz _
  have hval : ∀ (j : Nat) t v, Try.f5.params[j]? = some t → args[j]? = some v → Value.okWide Try.prog W .any base t v := hval0
  have hW' := hW
  have hlt := fun x hx => hW'.lt x hx
  obtain ⟨p, q, hA0, hV, rfl, hfz, hnd⟩ := hW
  have hA : DataW.TrodAll enc Try.prog W 0 (fun _ => true) true Try.f5.params.toList args.toList ds p := hA0
  rw [Try.params5] at hA hval
  obtain ⟨v0, vs0, d0, ds0, p0, q0, hargs, rfl, rfl, h0, r0⟩ := trodAll_cons hA
  obtain ⟨v1, vs1, d1, ds1, p1, q1, rfl, rfl, rfl, h1, r1⟩ := trodAll_cons r0
  obtain ⟨rfl, rfl, rfl⟩ := trodAll_nil r1
  obtain rfl : args = #[v0, v1] := by cases args; simp_all
  obtain ⟨rfl, rfl⟩ := trodVars_none hV
  obtain ⟨m, rfl, hd, hs⟩ := by_value (hval 0 25 v0 rfl rfl) h0
  obtain ⟨k, rfl, rfl, rfl, wk⟩ := open_int Try.underlying5 (hval 1 5 v1 rfl rfl) h1
  have hb : 0 ≤ k ∧ k < 256 := by
    have hw := wk
    simp only [Lit.wf, Bool.and_eq_true, decide_eq_true_eq] at hw
    have e1 : IntKind.u8.min = 0 := rfl
    have e2 : IntKind.u8.max = 255 := rfl
    omega
  have hz : m.auth.size ≤ 140737488355328 ∧ m.pfx.size ≤ 140737488355328 ∧ m.next.size ≤ 140737488355328 ∧ m.id.size ≤ 140737488355328 ∧ m.addr.size ≤ 140737488355328 ∧ m.orig.size ≤ 140737488355328 ∧ m.data.size ≤ 140737488355328 := by
    obtain ⟨fuel, hfu⟩ := h0
    refine sized_of hfu fun n hn => ?_
    have h2 := List.all_eq_true.1 hsz n (DataW.weights_mem_each (j := 0) (t := 25) (d := d0) rfl rfl n hn)
    have h3 : n ≤ reachBytes := by simpa using h2
    exact Nat.le_trans h3 (by decide)
  clear hA0 hval0
  simp only [List.append_nil] at hW' hlt
  refine (walk m k W hd hs hb.1 hb.2 hz).mono fun e W' ⟨he, hg⟩ => ?_
  subst he
  exact ⟨_, rfl, _, _, _, [], _, [], hW', trodAll_mk1 (shut_bool Try.underlying4 _), (trodAll_cons_mk (again (by kernel_rfl) (of_decide_eq_true (by kernel_rfl)) h0 hg fun x hx => hlt x (by simp [hx])) (trodAll_cons_mk (shut_int Try.underlying5 wk) trodAll_mk0)), rfl, hg.frame _, fun h => by cases h⟩

theorem over : Rows.msgChangedRow.holds Try.pinned (OpenSpec.ofChange Rows.msgChangedSpec) :=
  OpenClaim.holds_of_wide 5 Try.f5 rfl rfl rfl rfl rfl rfl rfl ⟨rfl, rfl, rfl, rfl, rfl⟩ rfl rfl rfl rfl rfl (by kernel_rfl) Try.func5 (by kernel_rfl)
    (of_decide_eq_true (by kernel_rfl)) (by unfold Func.isWrapper; first | (rw [if_pos (by decide +kernel)]; kernel_rfl) | (rw [if_neg (by decide +kernel)]; exact ⟨rfl, rfl⟩))
    (fun os started H enc _ => lifted os started H enc)

theorem proved : Rows.MsgChangedSaid :=
  over
#print axioms proved
end Go.Proofs.Ytnjaoccienijbaa.msgChanged
