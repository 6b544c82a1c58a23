/-
  The program's fields and Get: which message a TLV says. Conditions: a type from 2 to 5, at most 100000 bytes; the variable has what it is laid with.
-/
import Derived.Test.YtlfgfmhpcokjpaaDoorG4
import Derived.Test.YtlfgfmhpcokjpaaDoorS5
import Derived.Test.YtlfgfmhpcokjpaaDoorTl
namespace Go.Proofs.YtlfgfmhpcokjpaaDoor.G5
open Go.ChangeShapes Go.WideShapes Go.ChangeAt Go.RowKit
open Go.Proofs.YtlfgfmhpcokjpaaDoor.Ms
open Go.Proofs.YtlfgfmhpcokjpaaDoor.Box
open Go.Proofs.YtlfgfmhpcokjpaaDoor.S1
open Go.Proofs.YtlfgfmhpcokjpaaDoor.S5 (AnsS)
open Go.Proofs.YtlfgfmhpcokjpaaDoor.Nu
open Go.Proofs.YtlfgfmhpcokjpaaDoor.G1
open Go.Proofs.YtlfgfmhpcokjpaaDoor.G2
open Go.Proofs.YtlfgfmhpcokjpaaDoor.G4
open Go.Proofs.YtlfgfmhpcokjpaaDoor.An
open Go.Proofs.YtlfgfmhpcokjpaaDoor.Tb
open Go.Proofs.YtlfgfmhpcokjpaaDoor.F1 (bt bt_nn bt_lt num_one num_two)
open Go.Proofs.YtlfgfmhpcokjpaaDoor.Tl (cellsT)
open Go.Proofs.YtlfgfmhpcokjpaaDoor.Cur (numL new_any)
open Go.Proofs.YtlfgfmhpcokjpaaDoor.Bk (Bk Sh shC cur cur_one loadVarK wpList_builtK wpList_loadK wpList_storeK run_loadK alloc_size results_one results_pair)
open Go.Proofs.YtlfgfmhpcokjpaaDoor.Hs
set_option linter.unusedVariables false
set_option maxRecDepth 100000
/-- What fields answers of a type: the message, whether there is one, the place. -/
def Is (t : Int) (s : ByteArray) (X : M) (c : Bool) (p : Nat × Bool) : Prop := (s.size < szF t s → p.2 = true) ∧ (¬ s.size < szF t s → p = (szF t s, false) ∧ (noF t s → c = false) ∧ (¬ noF t s → c = true ∧ X = hdF t s))
theorem one {s : ByteArray} (h : 2 ≤ s.size) : nx s 2 (0, false) = (2, false) := nx_yes (a := 0) (by omega)
theorem two {s : ByteArray} (h : 4 ≤ s.size) : nx s 2 (2, false) = (4, false) := nx_yes (a := 2) (by omega)
theorem three {s : ByteArray} (h : 6 ≤ s.size) : nx s 2 (4, false) = (6, false) := nx_yes (a := 4) (by omega)
theorem one1 {s : ByteArray} (h : 1 ≤ s.size) : nx s 1 (0, false) = (1, false) := nx_yes (a := 0) (by omega)
theorem two1 {s : ByteArray} (h : 2 ≤ s.size) : nx s 1 (1, false) = (2, false) := nx_yes (a := 1) (by omega)
theorem steps_no {s : ByteArray} (h : s.size < 6) : (nx s 2 (nx s 2 (nx s 2 (0, false)))).2 = true := by
  by_cases h2 : 2 ≤ s.size
  · rw [one h2]
    by_cases h4 : 4 ≤ s.size
    · rw [two h4, nx_no (by omega)]
    · rw [nx_no (s := s) (a := 2) (by omega)]; exact nx_bad rfl
  · rw [nx_no (s := s) (a := 0) (by omega)]; exact nx_bad (nx_bad rfl)
theorem steps_yes {s : ByteArray} (h : 6 ≤ s.size) : nx s 2 (nx s 2 (nx s 2 (0, false))) = (6, false) := by rw [one (by omega), two (by omega), three h]
theorem val {s : ByteArray} {a : Nat} (h : a + 2 ≤ s.size) : rdV s (a, false) 2 = num2 s a := v_yes h
theorem is2 (s : ByteArray) : Is 2 s (R2 s) true (nx s 2 (nx s 2 (nx s 2 (0, false)))) := by
  refine ⟨fun h => steps_no h, fun h => ?_⟩
  have h6 : 6 ≤ s.size := by have : ¬ s.size < 6 := h; omega
  refine ⟨steps_yes h6, fun k => by have := k.1; omega, fun _ => ⟨rfl, ?_⟩⟩
  show R2 s = hd2 s
  unfold R2 hd2
  rw [one (by omega), two (by omega), val (by omega), val (by omega)]
theorem is3 (s : ByteArray) : Is 3 s { M.zero with kind := 8, nonce := rdV s (0, false) 2 } true (nx s 2 (0, false)) := by
  refine ⟨fun h => by rw [nx_no (s := s) (a := 0) (by have : s.size < 2 := h; omega)], fun h => ?_⟩
  have h2 : 2 ≤ s.size := by have : ¬ s.size < 2 := h; omega
  refine ⟨one h2, fun k => by have := k.1; omega, fun _ => ⟨rfl, ?_⟩⟩
  rw [val (by omega)]
  rfl
theorem is4 (s : ByteArray) : Is 4 s (R4 s) true (nx s 2 (nx s 2 (nx s 2 (0, false)))) := by
  refine ⟨fun h => steps_no h, fun h => ?_⟩
  have h6 : 6 ≤ s.size := by have : ¬ s.size < 6 := h; omega
  refine ⟨steps_yes h6, fun k => by have := k.1; omega, fun _ => ⟨rfl, ?_⟩⟩
  show R4 s = hd4 s
  have e : rdV s (0, false) 2 = 256 * bt s 0 + bt s 1 := (val (a := 0) (by omega)).trans (num_two s 0 (by omega))
  have b1 := bt_nn s 1
  have b2 := bt_lt s 1
  unfold R4 hd4
  rw [one (by omega), two (by omega), val (a := 2) (by omega), val (a := 4) (by omega), e, show (256 * bt s 0 + bt s 1) / 32768 = bt s 0 / 128 by omega]
theorem pI_no {s : ByteArray} (h : s.size < 6) : (pI s).2 = true := by
  unfold pI
  by_cases h1 : 1 ≤ s.size
  · rw [one1 h1]
    by_cases h2 : 2 ≤ s.size
    · rw [two1 h2]
      by_cases h4 : 4 ≤ s.size
      · rw [two h4, nx_no (by omega)]
      · rw [nx_no (s := s) (a := 2) (by omega)]; exact nx_bad rfl
    · rw [nx_no (s := s) (a := 1) (by omega)]; exact nx_bad (nx_bad rfl)
  · rw [nx_no (s := s) (a := 0) (by omega)]; exact nx_bad (nx_bad (nx_bad rfl))
theorem pI_yes {s : ByteArray} (h : 6 ≤ s.size) : pI s = (6, false) := by unfold pI; rw [one1 (by omega), two1 (by omega), two (by omega), three h]
theorem is5 (s : ByteArray) : Is 5 s (R5 s) (b5 s) (p5 s) := by
  by_cases h6 : 6 ≤ s.size
  rotate_left
  · refine ⟨fun _ => ?_, fun h => absurd (show s.size < 6 + sizeA (bt s 0) by omega) h⟩
    have hp := pI_no (s := s) (by omega)
    unfold p5
    split
    · exact hp
    · exact nx_bad hp
  have hx : rdV s (0, false) 1 = bt s 0 := (v_yes (a := 0) (k := 1) (by omega)).trans (num_one s 0 (by omega))
  have hp := pI_yes h6
  have hi : I5 s = { M.zero with kind := 10, ae := bt s 0, cost := num2 s 2, interval := num2 s 4 } := by
    unfold I5
    rw [hx, one1 (by omega), two1 (by omega), two (by omega), val (a := 2) (by omega), val (a := 4) (by omega)]
  by_cases h3 : 3 < bt s 0
  · have hz : szF 5 s = 6 := by show 6 + sizeA (bt s 0) = 6; rw [size_far h3]
    refine ⟨fun h => absurd (show s.size < 6 by rw [← hz]; exact h) (by omega), fun _ => ⟨?_, fun _ => ?_, fun k => absurd ⟨rfl, h3⟩ k⟩⟩
    · unfold p5; rw [hx, if_pos h3, hp, hz]
    · unfold b5; rw [hx]; exact decide_eq_false (by omega)
  have e5 : p5 s = nx s (sizeA (bt s 0)) (6, false) := by unfold p5; rw [hx, if_neg h3, hp]
  refine ⟨fun h => ?_, fun h => ⟨?_, fun k => absurd k.2 h3, fun _ => ⟨?_, ?_⟩⟩⟩
  · rw [e5, nx_no (by have : s.size < 6 + sizeA (bt s 0) := h; omega)]
  · rw [e5, nx_yes (by have : ¬ s.size < 6 + sizeA (bt s 0) := h; omega)]
    rfl
  · unfold b5; rw [hx]; exact decide_eq_true (by omega)
  · show R5 s = hd5 s
    unfold R5 hd5
    rw [hx, if_neg h3, hp, hi, t_yes (by have : ¬ s.size < 6 + sizeA (bt s 0) := h; omega)]
/-- What fields leaves. -/
def AnsR (t : Int) (s : ByteArray) (b : Nat) (w : World) (e : Ending) (w' : World) : Prop := ∃ X c p, Is t s X c p ∧ TookB X c s p b w e w'
theorem took_row {v : Value} {s : ByteArray} {p : Nat × Bool} {b : Nat} {w W w1 : World} {e : Ending} {X : M} {c : Bool} (hk : Took v s p b W e w1) (hw : Below w.heap.size w W) (hz : W.heap.size = w.heap.size + 1) (hb : b < w.heap.size) :
    TookB X c s p b w (.returned (.tuple #[.agg X.cells, .bool c])) (w1.setRow w.heap.size X.cells) :=
  ⟨rfl, hk.2.1.row (by omega) _, ((Bel.of hw).trans (hk.2.2.mono (by omega))).row (Nat.le_refl _) _⟩
set_option maxHeartbeats 3200000 in
theorem fields_any (t : Int) (s : ByteArray) (b : Nat) (h2 : 2 ≤ t) (h5 : t ≤ 5) (hs : s.size ≤ maxLen) (w : World) (hb : Bk 62 w b (cu s (0, false))) (ht : Tab w) (hb0 : 0 < b) :
    Calls Tryd.prog 32 #[.pointer (some ⟨b, 0, none⟩), .int .i64 t] w (AnsR t s b w) := by
  rcases (show t = 2 ∨ t = 3 ∨ t = 4 ∨ t = 5 by omega) with rfl | rfl | rfl | rfl
  · go_enter Tryd.func32, Tryd.ntmps32
    go_upto_region 1 with fail
    change Code.wp _ _ _ _ (w.alloc (.cells M.zero.cells 25))
    have hz := alloc_size w (.cells M.zero.cells 25)
    have HB := Lib.hid (balloc (Below.refl _ w) (.cells M.zero.cells 25))
    have HX := Lib.hid (Bx.new w M.zero)
    have HR := Lib.hid (hb.old (.cells M.zero.cells 25))
    have hlt := hb.lt
    clear hb
    generalize w.alloc (.cells M.zero.cells 25) = W at *
    go_wp2_with fail
    refine (ack_any s b hs _ HR.out).mono ?_
    intro e w1 hk
    have X1 := Lib.hid (hk.2.2.bx (by omega) HX.out)
    have HT := Lib.hid (took_row (X := R2 s) (c := true) hk HB.out hz hlt)
    have HI := Lib.hid (is2 s)
    obtain ⟨rfl, hk⟩ := hk
    clear hk HX HR HB
    generalize R2 s = x at *
    go_wp2_with (first | (refine wpList_storeM (b := w.heap.size) (m := M.zero) (m' := x) rfl _ _ rfl rfl rfl X1.out ?_))
    exact bodyPost_ret (v := .tuple #[.agg (M.cells x), .bool true]) (results_pair rfl _ _ w.heap.size _ rfl (loadVarK shM (X1.out.put (m' := x)) rfl) _ rfl) rfl ⟨_, _, _, HI.out, HT.out⟩
  · go_enter Tryd.func32, Tryd.ntmps32
    go_upto_region 1 with fail
    change Code.wp _ _ _ _ (w.alloc (.cells M.zero.cells 25))
    have hz := alloc_size w (.cells M.zero.cells 25)
    have HB := Lib.hid (balloc (Below.refl _ w) (.cells M.zero.cells 25))
    have HX := Lib.hid (Bx.new w M.zero)
    have HR := Lib.hid (hb.old (.cells M.zero.cells 25))
    have hlt := hb.lt
    clear hb
    generalize w.alloc (.cells M.zero.cells 25) = W at *
    go_wp2_with fail
    refine (rdnum s (0, false) 2 b 2 rfl hs (Nat.zero_le _) (by omega) (by omega) _ HR.out).mono ?_
    intro e w1 hk
    have X1 := Lib.hid (hk.2.2.bx (by omega) HX.out)
    have HT := Lib.hid (took_row (X := ({ M.zero with kind := 8, nonce := rdV s (0, false) 2 } : M)) (c := true) hk HB.out hz hlt)
    have HI := Lib.hid (is3 s)
    obtain ⟨rfl, hk⟩ := hk
    clear hk HX HR HB
    generalize rdV s (0, false) 2 = v at *
    go_wp2_with (first | (refine wpList_builtK rfl 25 _ rfl (M.cells { M.zero with kind := 8, nonce := v }) (by kernel_rfl) ?_) | (refine wpList_storeM (b := w.heap.size) (m := M.zero) (m' := { M.zero with kind := 8, nonce := v }) rfl _ _ rfl rfl rfl X1.out ?_))
    exact bodyPost_ret (v := .tuple #[.agg (M.cells { M.zero with kind := 8, nonce := v }), .bool true]) (results_pair rfl _ _ w.heap.size _ rfl (loadVarK shM (X1.out.put (m' := { M.zero with kind := 8, nonce := v })) rfl) _ rfl) rfl ⟨_, _, _, HI.out, HT.out⟩
  · go_enter Tryd.func32, Tryd.ntmps32
    go_upto_region 1 with fail
    change Code.wp _ _ _ _ (w.alloc (.cells M.zero.cells 25))
    have hz := alloc_size w (.cells M.zero.cells 25)
    have HB := Lib.hid (balloc (Below.refl _ w) (.cells M.zero.cells 25))
    have HX := Lib.hid (Bx.new w M.zero)
    have HR := Lib.hid (hb.old (.cells M.zero.cells 25))
    have hlt := hb.lt
    clear hb
    generalize w.alloc (.cells M.zero.cells 25) = W at *
    go_wp2_with fail
    refine (hello_any s b hs _ HR.out).mono ?_
    intro e w1 hk
    have X1 := Lib.hid (hk.2.2.bx (by omega) HX.out)
    have HT := Lib.hid (took_row (X := R4 s) (c := true) hk HB.out hz hlt)
    have HI := Lib.hid (is4 s)
    obtain ⟨rfl, hk⟩ := hk
    clear hk HX HR HB
    generalize R4 s = x at *
    go_wp2_with (first | (refine wpList_storeM (b := w.heap.size) (m := M.zero) (m' := x) rfl _ _ rfl rfl rfl X1.out ?_))
    exact bodyPost_ret (v := .tuple #[.agg (M.cells x), .bool true]) (results_pair rfl _ _ w.heap.size _ rfl (loadVarK shM (X1.out.put (m' := x)) rfl) _ rfl) rfl ⟨_, _, _, HI.out, HT.out⟩
  · have HM := Lib.hid ht
    clear ht
    go_enter Tryd.func32, Tryd.ntmps32
    go_upto_region 1 with fail
    change Code.wp _ _ _ _ (w.alloc (.cells M.zero.cells 25))
    have hz := alloc_size w (.cells M.zero.cells 25)
    have HB := Lib.hid (balloc (Below.refl _ w) (.cells M.zero.cells 25))
    have HX := Lib.hid (Bx.new w M.zero)
    have HR := Lib.hid (hb.old (.cells M.zero.cells 25))
    have hlt := hb.lt
    clear hb
    generalize w.alloc (.cells M.zero.cells 25) = W at *
    go_wp2_with fail
    refine (ihu_any s b hs _ HR.out (HM.out.below HB.out) hb0).mono ?_
    intro e w1 hk
    have X1 := Lib.hid (hk.2.2.bx (by omega) HX.out)
    have HT := Lib.hid (show TookB (R5 s) (b5 s) s _ b w _ _ from took_row (X := R5 s) (c := b5 s) (v := .tuple #[.agg (M.cells (R5 s)), .bool (b5 s)]) ⟨hk.1, hk.2.1, hk.2.2⟩ HB.out hz hlt)
    have HI := Lib.hid (is5 s)
    obtain ⟨rfl, hk⟩ := hk
    clear hk HX HR HB
    generalize R5 s = x at *
    generalize b5 s = c at *
    go_wp2_with (first | (refine wpList_storeM (b := w.heap.size) (m := M.zero) (m' := x) rfl _ _ rfl rfl rfl X1.out ?_))
    exact bodyPost_ret (v := .tuple #[.agg (M.cells x), .bool c]) (results_pair rfl _ _ w.heap.size _ rfl (loadVarK shM (X1.out.put (m' := x)) rfl) _ rfl) rfl ⟨_, _, _, HI.out, HT.out⟩
end Go.Proofs.YtlfgfmhpcokjpaaDoor.G5
