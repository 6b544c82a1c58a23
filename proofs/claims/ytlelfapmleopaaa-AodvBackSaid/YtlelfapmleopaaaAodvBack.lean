/-
  The statement AodvBack, of any message and any bytes. No conditions.
-/
import Derived.Test.YtlelfapmleopaaaA5
import Derived.Test.YtlelfapmleopaaaOpen
namespace Go.Proofs.Ytlelfapmleopaaa.aodvBack
open Go.ChangeShapes Go.WideShapes Go.ChangeAt Go.RowKit
open Go.ChangeMaps (open_string shut_string)
open Go.Proofs.Ytlelfapmleopaaa.Ms
open Go.Proofs.Ytlelfapmleopaaa.Box
open Go.Proofs.Ytlelfapmleopaaa.Xv
open Go.Proofs.Ytlelfapmleopaaa.All
open Go.Proofs.Ytlelfapmleopaaa.Am
open Go.Proofs.Ytlelfapmleopaaa.A1
open Go.Proofs.Ytlelfapmleopaaa.A2
open Go.Proofs.Ytlelfapmleopaaa.A3
open Go.Proofs.Ytlelfapmleopaaa.A5
open Go.Proofs.Ytlelfapmleopaaa.Hs
open Go.Proofs.Ytlelfapmleopaaa.Open
set_option linter.unusedVariables false

open Go.Proofs.Ytlelfapmleopaaa.Or (st_yes)
open Go.Proofs.Ytlelfapmleopaaa.Ap (bs_one ex_bs)
theorem few_of {m : M} {b : ByteArray} (h : okA m = true) (he : encA m = b) (hb : b.size ≤ 3000) : m.sl.length ≤ 2000 := by
  have hl := len_le m.sl
  rcases ok_cases h with ⟨_, h, e⟩ | ⟨_, h, e⟩ | ⟨_, h, e⟩
  · have h1 : (Q1.putQ m).size = (Q1.hd m ++ encX m.sl).length := by rw [Q1.putQ_yes h]; rfl
    rw [← e, he, List.length_append] at h1
    omega
  · have h1 : (Z1.putP m).size = (Z1.hd m ++ encX m.sl).length := by rw [Z1.putP_yes h]; rfl
    rw [← e, he, List.length_append] at h1
    omega
  · have h1 : (Y1.putE m).size = (Y1.hd m ++ encX m.sl).length := by rw [Y1.putE_yes h]; rfl
    rw [← e, he, List.length_append] at h1
    omega
theorem same_at (a : Option Addr) (k g : Nat) (n' n m : M) (W : World) (hp : Pl n' n) (hs : M.same m n = true) (hn : Short n) (hm : Short m) (h1 : MRow W a [n']) (h2 : MRow W (some ⟨g, 0, none⟩) [m]) :
    Calls Try.prog 9 #[.slice a 1 k, .slice (some ⟨g, 0, none⟩) 1 1] W fun e w' => e = .returned (.bool true) ∧ Below W.heap.size W w' := by
  have := rsameAll_any a (some ⟨g, 0, none⟩) k 1 [n'] [m] W h1 h2 ((PlL.one hp).short (fun x hx => by
    obtain rfl : x = n := by simpa using hx
    exact hn)) (fun x hx => by
    obtain rfl : x = m := by simpa using hx
    exact hm) (by simp) (by simp)
  rw [sameL_yes (x := [n']) (y := [m]) rfl (fun i i1 i2 => by
    obtain rfl : i = 0 := by (simp at i1; exact i1)
    show M.same n' m = true
    rw [hp.same (Pl.refl m), Bare.same_comm]
    exact hs)] at this
  exact this

set_option maxHeartbeats 12800000 in
set_option maxRecDepth 100000 in
theorem walk (m : M) (b : ByteArray) (w : World) (hd : DRow w m.la m.ll) (hs : SRow w m.sa m.sl) (hm : b.size ≤ maxLen) :
    Calls Try.prog 5 #[.agg m.cells, .string b] w fun r w' => r = .returned (.bool true) ∧ Below w.heap.size w w' := by
  unfold maxLen at hm
  by_cases hf : Few.fewB m = true
  rotate_left
  · have hf : Few.fewB m = false := by simpa using hf
    go_enter Try.func5, Try.ntmps5
    go_upto_region 1 with fail
    have B0 := Lib.hid (Bx.new w m)
    have HB := Lib.hid (balloc (Below.refl _ w) (.cells m.cells 34))
    have PF := Lib.hid (Few.few_any m (w.alloc (.cells m.cells 34)) (hd.below HB.out) (hs.below HB.out))
    clear hd hs
    generalize w.alloc (.cells m.cells 34) = V at *
    rw [hf] at PF
    clear hf
    go_wp2_with (first | (refine wpList_loadM (b := w.heap.size) (m := m) rfl _ rfl rfl B0.out ?_))
    refine (PF.out).mono ?_
    rintro r w1 ⟨rfl, hb⟩
    have B0 := Lib.hid (B0.out.below hb)
    have HB := Lib.hid (bcall HB.out hb)
    clear hb PF
    go_wp2_with fail
    refine (awake_any _).mono ?_
    rintro r w2 ⟨rfl, hb⟩
    have HB := Lib.hid (bcall HB.out hb)
    clear hb
    go_wp2
    go_ret
    exact ⟨rfl, HB.out⟩
  by_cases hs3 : 3000 < b.size
  · have k1 : 3000 < (b.size : Int) := by omega
    go_enter Try.func5, Try.ntmps5
    go_upto_region 1 with fail
    have B0 := Lib.hid (Bx.new w m)
    have HB := Lib.hid (balloc (Below.refl _ w) (.cells m.cells 34))
    have PF := Lib.hid (Few.few_any m (w.alloc (.cells m.cells 34)) (hd.below HB.out) (hs.below HB.out))
    clear hd hs
    generalize w.alloc (.cells m.cells 34) = V at *
    rw [hf] at PF
    clear hf
    go_wp2_with (first | (refine wpList_loadM (b := w.heap.size) (m := m) rfl _ rfl rfl B0.out ?_))
    refine (PF.out).mono ?_
    rintro r w1 ⟨rfl, hb⟩
    have B0 := Lib.hid (B0.out.below hb)
    have HB := Lib.hid (bcall HB.out hb)
    clear hb PF
    go_wp2_with fail
    refine (awake_any _).mono ?_
    rintro r w2 ⟨rfl, hb⟩
    have HB := Lib.hid (bcall HB.out hb)
    clear hb
    go_wp2
    go_ret
    exact ⟨rfl, HB.out⟩
  have k1 : ¬ 3000 < (b.size : Int) := by omega
  have hi := few_in hf hd hs
  obtain ⟨_, hl, hz⟩ := few_parts hf
  have hsm := few_sm hf
  have P1 := Lib.hid (fun V (h : m.In V) => encode_one (some ⟨V.heap.size, 0, none⟩) 1 m (V.alloc (.cells m.cells 34)) (row_new h) hsm)
  have P2 := Lib.hid (fun V (h : m.In V) => right_any m V h hz)
  have HF := Lib.hid (Fs.new w m hi)
  have HS3 := Lib.hid (show b.size ≤ 3000 by omega)
  clear hs3 hm
  by_cases hok : okA m = true
  rotate_left
  · have hok : okA m = false := by simpa using hok
    rw [enc_bad hok] at P1
    rw [hok] at P2
    clear hok hsm
    go_enter Try.func5, Try.ntmps5
    go_upto_region 1 with fail
    have PF := Lib.hid (Few.few_any m (w.alloc (.cells m.cells 34)) HF.out.i.d HF.out.i.s)
    rw [hf] at PF
    clear hf hd hs hi hl hz
    generalize w.alloc (.cells m.cells 34) = V at *
    go_wp2_with (first | (refine wpList_loadM (b := w.heap.size) (m := m) rfl _ rfl rfl HF.out.m ?_))
    refine (PF.out).mono ?_
    rintro r w1 ⟨rfl, hb⟩
    have HF := Lib.hid (HF.out.call hb)
    clear hb PF
    go_wp2_with (first | (refine wpList_loadM (b := w.heap.size) (m := m) rfl _ rfl rfl HF.out.m ?_) | (refine bs_one rfl _ rfl (m := m) rfl ?_))
    refine (P1.out _ HF.out.i).mono ?_
    rintro r w2 ⟨rfl, hb⟩
    have HF := Lib.hid (HF.out.call (bcall (balloc (Below.refl _ w1) _) hb))
    clear hb P1
    dsimp only
    go_wp2_with (first | (refine wpList_loadM (b := w.heap.size) (m := m) rfl _ rfl rfl HF.out.m ?_))
    refine (P2.out _ HF.out.i).mono ?_
    rintro r w3 ⟨rfl, hb⟩
    have HF := Lib.hid (HF.out.call hb)
    clear hb P2
    have HB := Lib.hid HF.out.bel
    clear HF
    have P5 := Lib.hid (fun W => parse_any b W (by have := HS3.out; omega))
    rcases A1.out_cases b with ⟨i, x, ho, hx, hi0, hi1⟩ | ⟨q, ho, hok, he, _, h1, h2⟩
    · rw [ho] at P5
      have e1 : (x == 0) = false := by simpa using hx
      have e2 : (x != 0) = true := by rw [bne, e1]; rfl
      clear ho hx HS3
      go_wp2_with fail
      refine (P5.out _).mono ?_
      intro r w6 hr
      obtain ⟨a6, c6, rfl, hb⟩ := hr.at_nil
      have HB := Lib.hid (bcall HB.out hb)
      clear hr hb P5
      go_wp2_with fail
      refine (awake_any _).mono ?_
      rintro r w7 ⟨rfl, hb⟩
      have HB := Lib.hid (bcall HB.out hb)
      clear hb
      go_wp2
      go_ret
      exact ⟨rfl, HB.out⟩
    rw [ho] at P5
    have hsm : Sm q := ok_sm hok h1 (few_of hok he HS3.out)
    have HS := Lib.hid (fun (n : M) (hn : Pl n q) => hsm.pl hn)
    have HE := Lib.hid (fun (n : M) (hn : Pl n q) => show encL [n] = (b, 0, 0) by
      rw [enc_one ((ok_pl hn).trans hok) (by rw [enc_pl hn, he]; have := HS3.out; omega), enc_pl hn, he])
    have hbs := bytes_same b
    clear ho hok he h1 h2 hsm
    go_wp2_with fail
    refine (P5.out _).mono ?_
    intro r w6 hr
    obtain ⟨a6, c6, n6, rfl, hn, hrow, hb⟩ := hr.at_one
    have HB := Lib.hid (bcall HB.out hb)
    have PE := Lib.hid (encode_one a6 c6 n6 w6 hrow (HS.out n6 hn))
    rw [HE.out n6 hn] at PE
    clear hr hb P5 HE HS hn hrow HS3
    go_wp2_with fail
    refine (PE.out).mono ?_
    rintro r w7 ⟨rfl, hb⟩
    have HB := Lib.hid (bcall HB.out hb)
    clear hb PE
    dsimp only
    go_wp2_with fail
    refine (awake_any _).mono ?_
    rintro r w8 ⟨rfl, hb⟩
    have HB := Lib.hid (bcall HB.out hb)
    clear hb
    go_wp2
    go_ret
    exact ⟨rfl, HB.out⟩
  have hsz := encA_size m hl
  obtain ⟨n, ho, hsame, hll, hsl⟩ := enc_out hok (by omega)
  rw [enc_one hok (by omega)] at P1
  rw [hok] at P2
  have P3 := Lib.hid (fun W => parse_any (encA m) W (by omega))
  rw [ho] at P3
  have hsh := hsm.short
  have hsh2 : Short n := ⟨by have := hsh.1; omega, by rw [hsl]; exact hsh.2⟩
  have P4 := Lib.hid (fun a k g n' W (hp : Pl n' n) h1 h2 => same_at a k g n' n m W hp hsame hsh2 hsh h1 h2)
  clear hok hsm ho hsame hll hsl hsz hsh hsh2
  generalize encA m = y at *
  go_enter Try.func5, Try.ntmps5
  go_upto_region 1 with fail
  have PF := Lib.hid (Few.few_any m (w.alloc (.cells m.cells 34)) HF.out.i.d HF.out.i.s)
  rw [hf] at PF
  clear hf hd hs hi hl hz
  generalize w.alloc (.cells m.cells 34) = V at *
  go_wp2_with (first | (refine wpList_loadM (b := w.heap.size) (m := m) rfl _ rfl rfl HF.out.m ?_))
  refine (PF.out).mono ?_
  rintro r w1 ⟨rfl, hb⟩
  have HF := Lib.hid (HF.out.call hb)
  clear hb PF
  go_wp2_with (first | (refine wpList_loadM (b := w.heap.size) (m := m) rfl _ rfl rfl HF.out.m ?_) | (refine bs_one rfl _ rfl (m := m) rfl ?_))
  refine (P1.out _ HF.out.i).mono ?_
  rintro r w2 ⟨rfl, hb⟩
  have HF := Lib.hid (HF.out.call (bcall (balloc (Below.refl _ w1) _) hb))
  clear hb P1
  dsimp only
  go_wp2_with (first | (refine wpList_loadM (b := w.heap.size) (m := m) rfl _ rfl rfl HF.out.m ?_))
  refine (P2.out _ HF.out.i).mono ?_
  rintro r w3 ⟨rfl, hb⟩
  have HF := Lib.hid (HF.out.call hb)
  clear hb P2
  go_wp2_with fail
  refine (P3.out _).mono ?_
  intro r w4 hr
  obtain ⟨a4, c4, n4, rfl, hn, hrow, hb⟩ := hr.at_one
  have HF := Lib.hid (HF.out.call hb)
  have P4 := Lib.hid (fun g W => P4.out a4 c4 g n4 W hn)
  have M4 := Lib.hid hrow
  clear hr hb P3 hn hrow
  go_wp2_with (first | (refine st_yes (v := .agg (M.cells m)) (by rfl) rfl (run_loadM (x := .tmp 2) rfl rfl HF.out.m) ?_) | (refine st_made (v := .slice (some ⟨w4.heap.size, 0, none⟩) 1 1) (by rfl) rfl (ex_bs (m := m) rfl rfl) ?_))
  refine (P4.out _ _ (M4.out.below (balloc (Below.refl _ w4) _)) (row_new HF.out.i)).mono ?_
  rintro r w5 ⟨rfl, hb⟩
  have HF := Lib.hid (HF.out.call (bcall (balloc (Below.refl _ w4) _) hb))
  clear hb P4 M4
  have HB := Lib.hid HF.out.bel
  clear HF
  have P5 := Lib.hid (fun W => parse_any b W (by have := HS3.out; omega))
  rcases A1.out_cases b with ⟨i, x, ho, hx, hi0, hi1⟩ | ⟨q, ho, hok, he, _, h1, h2⟩
  · rw [ho] at P5
    have e1 : (x == 0) = false := by simpa using hx
    have e2 : (x != 0) = true := by rw [bne, e1]; rfl
    clear ho hx HS3
    go_wp2_with fail
    refine (P5.out _).mono ?_
    intro r w6 hr
    obtain ⟨a6, c6, rfl, hb⟩ := hr.at_nil
    have HB := Lib.hid (bcall HB.out hb)
    clear hr hb P5
    go_wp2_with fail
    refine (awake_any _).mono ?_
    rintro r w7 ⟨rfl, hb⟩
    have HB := Lib.hid (bcall HB.out hb)
    clear hb
    go_wp2
    go_ret
    exact ⟨rfl, HB.out⟩
  rw [ho] at P5
  have hsm : Sm q := ok_sm hok h1 (few_of hok he HS3.out)
  have HS := Lib.hid (fun (n : M) (hn : Pl n q) => hsm.pl hn)
  have HE := Lib.hid (fun (n : M) (hn : Pl n q) => show encL [n] = (b, 0, 0) by
    rw [enc_one ((ok_pl hn).trans hok) (by rw [enc_pl hn, he]; have := HS3.out; omega), enc_pl hn, he])
  have hbs := bytes_same b
  clear ho hok he h1 h2 hsm
  go_wp2_with fail
  refine (P5.out _).mono ?_
  intro r w6 hr
  obtain ⟨a6, c6, n6, rfl, hn, hrow, hb⟩ := hr.at_one
  have HB := Lib.hid (bcall HB.out hb)
  have PE := Lib.hid (encode_one a6 c6 n6 w6 hrow (HS.out n6 hn))
  rw [HE.out n6 hn] at PE
  clear hr hb P5 HE HS hn hrow HS3
  go_wp2_with fail
  refine (PE.out).mono ?_
  rintro r w7 ⟨rfl, hb⟩
  have HB := Lib.hid (bcall HB.out hb)
  clear hb PE
  dsimp only
  go_wp2_with fail
  refine (awake_any _).mono ?_
  rintro r w8 ⟨rfl, hb⟩
  have HB := Lib.hid (bcall HB.out hb)
  clear hb
  go_wp2
  go_ret
  exact ⟨rfl, HB.out⟩

theorem own : ownKnob Try.prog.godebug = none := by kernel_rfl

set_option maxRecDepth 100000 in
theorem lifted (os : Os) (started : os.Started) (H : Type) (enc : TypeId × Value → H) :
    ReturnsInHanded {} Try.checked os 5 .any (Rows.aodvBackSpec.pre6 enc Try.prog Try.f5 Rows.aodvBackRow.domain false) (Rows.aodvBackSpec.post enc Try.prog Try.f5 false true false false) := by
  refine returnsInHanded_of_change (C := Try.checked) own started (by kernel_rfl) Try.func5
    (ChangeSpec.witness6 (enc := enc) (C := Try.checked) false ⟨#[], #[.agg M.zero.cells, .string ByteArray.empty], []⟩ 8 (by kernel_rfl) (by kernel_rfl) (by kernel_rfl) (by kernel_rfl)) ?_
  intro W base args ds gs before hval0 hW hcnd _
  have hval : ∀ (j : Nat) t v, Try.f5.params[j]? = some t → args[j]? = some v → Value.okWide Try.prog W .any base t v := hval0
  have hW' := hW
  have hlt := fun x hx => hW'.lt x hx
  obtain ⟨p, q, hA0, hV, rfl, hfz, hnd⟩ := hW
  have hA : DataW.TrodAll enc Try.prog W 0 (fun _ => true) true Try.f5.params.toList args.toList ds p := hA0
  rw [Try.params5] at hA hval
  obtain ⟨v0, vs0, d0, ds0, p0, q0, hargs, rfl, rfl, h0, r0⟩ := trodAll_cons hA
  obtain ⟨v1, vs1, d1, ds1, p1, q1, rfl, rfl, rfl, h1, r1⟩ := trodAll_cons r0
  obtain ⟨rfl, rfl, rfl⟩ := trodAll_nil r1
  obtain rfl : args = #[v0, v1] := by cases args; simp_all
  obtain ⟨rfl, rfl⟩ := trodVars_none hV
  obtain ⟨m, rfl, hd, hs⟩ := by_value (hval 0 34 v0 rfl rfl) h0
  have k1 := h1
  obtain ⟨b, rfl, rfl, rfl, ws⟩ := open_string Try.underlying9 (hval 1 9 v1 rfl rfl) k1
  clear hA0 hval0
  simp only [List.append_nil] at hW' hlt
  refine (walk m b W hd hs ws).mono fun e W' ⟨he, hg⟩ => ?_
  subst he
  exact ⟨_, rfl, _, _, _, [], _, [], hW', trodAll_mk1 (shut_bool Try.underlying4 _), (trodAll_cons_mk (again (by kernel_rfl) (of_decide_eq_true (by kernel_rfl)) h0 hg fun x hx => hlt x (by first | exact absurd hx (by simp) | simp [hx])) (trodAll_cons_mk (again (by kernel_rfl) (of_decide_eq_true (by kernel_rfl)) h1 hg fun x hx => hlt x (by first | exact absurd hx (by simp) | simp [hx])) trodAll_mk0)), rfl, hg.frame _, fun h => by cases h⟩

theorem over : Rows.aodvBackRow.holds Try.pinned (OpenSpec.ofChange Rows.aodvBackSpec) :=
  OpenClaim.holds_of_wide 5 Try.f5 rfl rfl rfl rfl rfl rfl rfl ⟨rfl, rfl, rfl, rfl, rfl⟩ rfl rfl rfl rfl rfl (by kernel_rfl) Try.func5 (by kernel_rfl)
    (of_decide_eq_true (by kernel_rfl)) (by unfold Func.isWrapper; first | (rw [if_pos (by decide +kernel)]; kernel_rfl) | (rw [if_neg (by decide +kernel)]; exact ⟨rfl, rfl⟩))
    (fun os started H enc _ => lifted os started H enc)

theorem proved : Rows.AodvBackSaid :=
  over
#print axioms proved
end Go.Proofs.Ytlelfapmleopaaa.aodvBack
