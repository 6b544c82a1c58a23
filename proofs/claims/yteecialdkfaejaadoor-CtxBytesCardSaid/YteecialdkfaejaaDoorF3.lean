/-
  The program's Split, and its taking of one TLV by a cursor. Condition: at most 100000 bytes, from a place of at most 2^40 on.
-/
import Derived.Test.YteecialdkfaejaaDoorF2
import Derived.Test.YteecialdkfaejaaDoorTl
namespace Go.Proofs.YteecialdkfaejaaDoor.F3
open Go.ChangeShapes Go.WideShapes Go.ChangeAt Go.RowKit
open Go.Proofs.YteecialdkfaejaaDoor.F1
open Go.Proofs.YteecialdkfaejaaDoor.F2
open Go.Proofs.YteecialdkfaejaaDoor.Nu
open Go.Proofs.YteecialdkfaejaaDoor.Cur (numL num_yes num_no text_yes text_no new_any left_ok hasB)
open Go.Proofs.YteecialdkfaejaaDoor.Bk (Bk Sh shC cur cur_one loadVarK wpList_builtK wpList_loadK wpList_storeK run_loadK below_setRow alloc_size)
open Go.Proofs.YteecialdkfaejaaDoor.Hs
open Go.Proofs.YteecialdkfaejaaDoor.Hx (conv8 ex_built H.storeRow)
open Go.Proofs.YteecialdkfaejaaDoor.Tl (cellsT oneT shT Lst TRow bs_one app_one cells_new)
set_option linter.unusedVariables false
set_option maxRecDepth 100000
set_option maxRecDepth 100000

theorem results_tc {P : Program} {fn : Func} {p q : Nat} {t1 t2 : TypeId} (h : fn.results = #[.cell p t1, .cell q t2]) (tmps : Array Value) (w : World) (g k : Nat) (u v : Value)
    (hp : tmps.getD p undef = .pointer (some ⟨g, 0, none⟩)) (hl : (loadVar t1 ⟨g, 0, none⟩).run P w = .ok u w) (hq : tmps.getD q undef = .pointer (some ⟨k, 0, none⟩)) (hk : (loadVar t2 ⟨k, 0, none⟩).run P w = .ok v w) :
    (results fn tmps).run P w = .ok (.tuple #[u, v]) w := by
  have hp' : tmps[p]?.getD undef = .pointer (some ⟨g, 0, none⟩) := by simpa using hp
  have hq' : tmps[q]?.getD undef = .pointer (some ⟨k, 0, none⟩) := by simpa using hq
  simp [results, h, hp', hq', asAddr, hl, hk]
/-- A TLV without anything. -/
def zT : T := (0, (⟨#[]⟩, 0))
/-- What stands in take: the cursor, the answer's TLV, the answer's cursor. -/
structure G (w0 w : World) (c : Array Value) : Prop where
  cur : Bk 105 w w0.heap.size c
  tl : Bk 29 w (w0.heap.size + 1) (cellsT zT)
  rc : Bk 105 w (w0.heap.size + 2) noC
  bel : Below w0.heap.size w0 w
theorem G.start (w : World) (c : Array Value) : G w (((w.alloc (.cells c 105)).alloc (.cells (cellsT zT) 29)).alloc (.cells noC 105)) c := by
  have h1 := Bk.Bk.new 29 (w.alloc (.cells c 105)) (cellsT zT)
  have h2 := Bk.Bk.new 105 ((w.alloc (.cells c 105)).alloc (.cells (cellsT zT) 29)) noC
  rw [alloc_size] at h1 h2
  rw [alloc_size] at h2
  exact ⟨((Bk.Bk.new 105 w c).old _).old _, h1.old _, h2, balloc (balloc (balloc (Below.refl _ w) _) _) _⟩
theorem G.call {w0 w w' : World} {c : Array Value} (g : G w0 w c) (hb : Below w.heap.size w w') : G w0 w' c := ⟨g.cur.below hb, g.tl.below hb, g.rc.below hb, g.bel.trans (hb.mono g.bel.size)⟩
theorem G.put {w0 w : World} {c : Array Value} (g : G w0 w c) (c' : Array Value) : G w0 (w.setRow w0.heap.size c') c' :=
  ⟨g.cur.put _, g.tl.row (by omega) _, g.rc.row (by omega) _, below_setRow g.bel (Nat.le_refl _) _⟩
/-- What take answers: a TLV and a cursor. -/
def TakeIs (t : T) (c : Array Value) (w : World) (e : Ending) (w' : World) : Prop := e = .returned (.tuple #[.agg (cellsT t), .agg c]) ∧ Below w.heap.size w w'
theorem G.ends {w0 w w' : World} {c c' : Array Value} {t : T} (g : G w0 w c) : Below w0.heap.size w0 ((w.drew.setRow (w0.heap.size + 1) (cellsT t)).setRow (w0.heap.size + 2) c') :=
  below_setRow (below_setRow g.bel.drew (by omega) _) (by omega) _
set_option maxHeartbeats 3200000 in
theorem take_zero (s : ByteArray) (p q : Nat) (y : Bool) (w : World) (h : ∀ w, Calls Tryd.prog 94 #[.agg (cur s p s.size false), .int .i64 1] w fun e w' => e = .returned (.tuple #[.int .i64 0, .agg (cur s q s.size y)]) ∧ Below w.heap.size w w') :
    Calls Tryd.prog 84 #[.agg (cur s p s.size false)] w (TakeIs zT (cur s q s.size y) w) := by
  have H1 := Lib.hid h
  clear h
  go_enter Tryd.func84, Tryd.ntmps84
  go_upto_region 1 with fail
  change Code.wp _ _ _ _ (((w.alloc (.cells (cur s p s.size false) 105)).alloc (.cells (cellsT zT) 29)).alloc (.cells noC 105))
  have HG := Lib.hid (G.start w (cur s p s.size false))
  generalize ((w.alloc (.cells (cur s p s.size false) 105)).alloc (.cells (cellsT zT) 29)).alloc (.cells noC 105) = W0 at *
  go_wp2_with (first | (refine wpList_loadK (b := w.heap.size) shC rfl _ rfl rfl HG.out.cur rfl ?_))
  refine (H1.out _).mono ?_
  rintro e w1 ⟨rfl, hb⟩
  have HG := Lib.hid (HG.out.call hb)
  clear hb H1
  go_upto_region 2 with (refine wpList_storeK (b := w.heap.size) shC rfl _ _ rfl rfl rfl HG.out.cur rfl rfl (cur_one s q s.size y) ?_)
  have HG := Lib.hid (HG.out.put (cur s q s.size y))
  generalize w1.setRow w.heap.size (cur s q s.size y) = W3 at *
  go_upto_region 3 with fail
  refine wp_region_held_drew (S := fun W => Bk 105 W w.heap.size (cur s q s.size y)) (by kernel_rfl) HG.out.cur.drew (fun hS => ?_)
  refine H.tk (i := 0) (v := .agg (cellsT zT)) (fun w _ => ex_built rfl (by kernel_rfl)) hS ?_
  try simp only [Act.put, List.setIfInBounds_toArray, List.set_cons_zero, List.set_cons_succ]
  refine H.tk (i := 1) (v := .agg (cur s q s.size y)) (fun W hW => run_loadK shC rfl rfl hW rfl) hS ?_
  try simp only [Act.put, List.setIfInBounds_toArray, List.set_cons_zero, List.set_cons_succ]
  refine H.storeRow (i := 2) (g := w.heap.size + 1) (cells := cellsT zT) (by simp only [List.getElem?_toArray, List.getElem?_cons_succ, List.getElem?_cons_zero]; rfl) (by kernel_rfl) rfl rfl (by kernel_rfl) rfl rfl 29 (cellsT zT) HG.out.tl.drew (by kernel_rfl) rfl (oneT _) (HG.out.cur.drew.row (by omega) _) ?_
  refine H.storeRow (i := 3) (g := w.heap.size + 2) (cells := cur s q s.size y) (by simp only [List.getElem?_toArray, List.getElem?_cons_succ, List.getElem?_cons_zero]; rfl) (by kernel_rfl) rfl rfl (by kernel_rfl) rfl rfl 105 noC (HG.out.rc.drew.row (by omega) _) (by kernel_rfl) rfl (cur_one _ _ _ _) ((HG.out.cur.drew.row (by omega) _).row (by omega) _) ?_
  refine wpAnyH_done (by kernel_rfl) ?_ _
  go_wp2_with fail
  exact bodyPost_ret (v := .tuple #[.agg (cellsT zT), .agg (cur s q s.size y)]) (results_tc (t1 := 29) (t2 := 105) rfl _ _ (w.heap.size + 1) (w.heap.size + 2) (.agg (cellsT zT)) (.agg (cur s q s.size y)) rfl (loadVarK shT ((HG.out.tl.drew.put _).row (by omega) _) rfl) rfl (loadVarK shC ((HG.out.rc.drew.row (by omega) _).put _) rfl)) rfl ⟨rfl, HG.out.ends (w' := w)⟩
set_option maxHeartbeats 6400000 in
theorem take_more (s d : ByteArray) (p q1 q2 q3 : Nat) (y1 y2 y3 : Bool) (t n : Int) (w : World) (ht : ¬ t = 0)
    (h1 : ∀ w, Calls Tryd.prog 94 #[.agg (cur s p s.size false), .int .i64 1] w fun e w' => e = .returned (.tuple #[.int .i64 t, .agg (cur s q1 s.size y1)]) ∧ Below w.heap.size w w')
    (h2 : ∀ w, Calls Tryd.prog 94 #[.agg (cur s q1 s.size y1), .int .i64 1] w fun e w' => e = .returned (.tuple #[.int .i64 n, .agg (cur s q2 s.size y2)]) ∧ Below w.heap.size w w')
    (h3 : ∀ w, Calls Tryd.prog 95 #[.agg (cur s q2 s.size y2), .int .i64 n] w fun e w' => e = .returned (.tuple #[.string d, .agg (cur s q3 s.size y3)]) ∧ Below w.heap.size w w') :
    Calls Tryd.prog 84 #[.agg (cur s p s.size false)] w (TakeIs (0, (d, t)) (cur s q3 s.size y3) w) := by
  have H1 := Lib.hid h1
  have H2 := Lib.hid h2
  have H3 := Lib.hid h3
  clear h1 h2 h3
  go_enter Tryd.func84, Tryd.ntmps84
  go_upto_region 1 with fail
  change Code.wp _ _ _ _ (((w.alloc (.cells (cur s p s.size false) 105)).alloc (.cells (cellsT zT) 29)).alloc (.cells noC 105))
  have HG := Lib.hid (G.start w (cur s p s.size false))
  generalize ((w.alloc (.cells (cur s p s.size false) 105)).alloc (.cells (cellsT zT) 29)).alloc (.cells noC 105) = W0 at *
  go_wp2_with (first | (refine wpList_loadK (b := w.heap.size) shC rfl _ rfl rfl HG.out.cur rfl ?_))
  refine (H1.out _).mono ?_
  rintro e w1 ⟨rfl, hb⟩
  have HG := Lib.hid (HG.out.call hb)
  clear hb H1
  go_upto_region 2 with (refine wpList_storeK (b := w.heap.size) shC rfl _ _ rfl rfl rfl HG.out.cur rfl rfl (cur_one s q1 s.size y1) ?_)
  have HG := Lib.hid (HG.out.put (cur s q1 s.size y1))
  generalize w1.setRow w.heap.size (cur s q1 s.size y1) = W2 at *
  go_wp2_with (first | (refine wpList_loadK (b := w.heap.size) shC rfl _ rfl rfl HG.out.cur rfl ?_))
  refine (H2.out _).mono ?_
  rintro e w2 ⟨rfl, hb⟩
  have HG := Lib.hid (HG.out.call hb)
  clear hb H2
  go_upto_region 5 with (refine wpList_storeK (b := w.heap.size) shC rfl _ _ rfl rfl rfl HG.out.cur rfl rfl (cur_one s q2 s.size y2) ?_)
  have HG := Lib.hid (HG.out.put (cur s q2 s.size y2))
  generalize w2.setRow w.heap.size (cur s q2 s.size y2) = W3 at *
  go_wp2_with (first | (refine wpList_loadK (b := w.heap.size) shC rfl _ rfl rfl HG.out.cur rfl ?_))
  refine (H3.out _).mono ?_
  rintro e w3 ⟨rfl, hb⟩
  have HG := Lib.hid (HG.out.call hb)
  clear hb H3
  go_upto_region 6 with (refine wpList_storeK (b := w.heap.size) shC rfl _ _ rfl rfl rfl HG.out.cur rfl rfl (cur_one s q3 s.size y3) ?_)
  have HG := Lib.hid (HG.out.put (cur s q3 s.size y3))
  generalize w3.setRow w.heap.size (cur s q3 s.size y3) = W4 at *
  refine wp_region_held_drew (S := fun W => Bk 105 W w.heap.size (cur s q3 s.size y3)) (by kernel_rfl) HG.out.cur.drew (fun hS => ?_)
  refine H.tk (i := 0) (v := .int .i64 t) (fun _ _ => rfl) hS ?_
  try simp only [Act.put, List.setIfInBounds_toArray, List.set_cons_zero, List.set_cons_succ]
  refine H.tk (i := 1) (v := .string d) (fun _ _ => rfl) hS ?_
  try simp only [Act.put, List.setIfInBounds_toArray, List.set_cons_zero, List.set_cons_succ]
  refine H.tk (i := 2) (v := .agg (cellsT (0, (d, t)))) (fun w _ => ex_built rfl (by kernel_rfl)) hS ?_
  try simp only [Act.put, List.setIfInBounds_toArray, List.set_cons_zero, List.set_cons_succ]
  refine H.tk (i := 3) (v := .agg (cur s q3 s.size y3)) (fun W hW => run_loadK shC rfl rfl hW rfl) hS ?_
  try simp only [Act.put, List.setIfInBounds_toArray, List.set_cons_zero, List.set_cons_succ]
  refine H.storeRow (i := 4) (g := w.heap.size + 1) (cells := cellsT (0, (d, t))) (by simp only [List.getElem?_toArray, List.getElem?_cons_succ, List.getElem?_cons_zero]; rfl) (by kernel_rfl) rfl rfl (by kernel_rfl) rfl rfl 29 (cellsT zT) HG.out.tl.drew (by kernel_rfl) rfl (oneT _) (HG.out.cur.drew.row (by omega) _) ?_
  refine H.storeRow (i := 5) (g := w.heap.size + 2) (cells := cur s q3 s.size y3) (by simp only [List.getElem?_toArray, List.getElem?_cons_succ, List.getElem?_cons_zero]; rfl) (by kernel_rfl) rfl rfl (by kernel_rfl) rfl rfl 105 noC (HG.out.rc.drew.row (by omega) _) (by kernel_rfl) rfl (cur_one _ _ _ _) ((HG.out.cur.drew.row (by omega) _).row (by omega) _) ?_
  refine wpAnyH_done (by kernel_rfl) ?_ _
  go_wp2_with fail
  exact bodyPost_ret (v := .tuple #[.agg (cellsT (0, (d, t))), .agg (cur s q3 s.size y3)]) (results_tc (t1 := 29) (t2 := 105) rfl _ _ (w.heap.size + 1) (w.heap.size + 2) (.agg (cellsT (0, (d, t)))) (.agg (cur s q3 s.size y3)) rfl (loadVarK shT ((HG.out.tl.drew.put _).row (by omega) _) rfl) rfl (loadVarK shC ((HG.out.rc.drew.row (by omega) _).put _) rfl)) rfl ⟨rfl, HG.out.ends (w' := w)⟩
/-- Where a TLV begins: what take answers, if it is all there, and if it isn't. -/
theorem take_any {s : ByteArray} {a r : List UInt8} {p : Nat} (h : s.data.toList = a ++ r) (hp : a.length = p) (hr : r ≠ []) (hs : s.size ≤ 1048576) :
    (∃ x r', cut1 r = some (x, r') ∧ ∀ w, Calls Tryd.prog 84 #[.agg (cur s p s.size false)] w (TakeIs (0, x) (cur s (p + (enc1 x).length : Nat) s.size false) w)) ∨
    (cut1 r = none ∧ ∃ (t : T) (q : Nat), ∀ w, Calls Tryd.prog 84 #[.agg (cur s p s.size false)] w (TakeIs t (cur s q s.size true) w)) := by
  have hm : s.size ≤ maxLen := by unfold maxLen; omega
  obtain ⟨k1, k2, k3⟩ := F1.step h hp hr
  have N1 := fun w => num_is s p hs (by omega) w
  rcases k3 with ⟨b0, r', hc⟩ | ⟨b0, k4, hc⟩ | ⟨n, b0, k4, b1, kn, ⟨k5, hc⟩ | ⟨k5, x, r', hc, x1, x2, x3⟩⟩
  · rw [b0] at N1
    refine .inl ⟨_, r', hc, fun w => ?_⟩
    exact take_zero s p (p + 1) false w N1
  · obtain ⟨v2, q2, y2, l2, j2, n2⟩ := num_any s (p + 1) false 1 hs (by omega) (by omega) (by omega)
    have hy : y2 = true := by
      cases y2 with
      | true => rfl
      | false =>
        obtain ⟨_, _, _⟩ := j2 rfl
        omega
    subst hy
    exact .inr ⟨hc, _, q2, fun w => take_more s ⟨#[]⟩ p (p + 1) q2 q2 false true true (bt s p) v2 w b0 N1 n2 (fun w => text_no s q2 s.size v2 true w hm l2 (Nat.le_refl _) rfl)⟩
  · have N2 := fun w => num_is s (p + 1) hs (by omega) w
    rw [b1] at N2
    exact .inr ⟨hc, _, p + 2, fun w => take_more s ⟨#[]⟩ p (p + 1) (p + 2) (p + 2) false false true (bt s p) n w b0 N1 N2 (fun w => text_no s (p + 2) s.size n false w hm (by omega) (Nat.le_refl _) (by unfold hasB; simp; omega))⟩
  · have N2 := fun w => num_is s (p + 1) hs (by omega) w
    rw [b1] at N2
    have hx : x = (s.extract (p + 2) (p + 2 + n), bt s p) := Prod.ext x2 x1
    have hl : (enc1 x).length = 2 + n := by rw [enc1_len, if_neg (by rw [x1]; exact b0), x3]
    refine .inl ⟨x, r', hc, fun w => ?_⟩
    rw [hl, hx]
    have T3 : ∀ w, Calls Tryd.prog 95 #[.agg (cur s (p + 2 : Nat) s.size false), .int .i64 n] w fun e w' => e = .returned (.tuple #[.string (s.extract (p + 2) (p + 2 + n)), .agg (cur s (p + 2 + n : Nat) s.size false)]) ∧ Below w.heap.size w w' := fun w => by
      have := text_yes s (p + 2) s.size n w hm (by omega) (Nat.le_refl _) k5
      unfold cur
      push_cast at this ⊢
      exact this
    rw [show p + (2 + n) = p + 2 + n by omega]
    exact take_more s _ p (p + 1) (p + 2) (p + 2 + n) false false false (bt s p) n w b0 N1 N2 T3
end Go.Proofs.YteecialdkfaejaaDoor.F3
