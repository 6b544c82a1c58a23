/-
  The program's Split, and its taking of one TLV by a cursor. Condition: at most 100000 bytes, from a place of at most 2^40 on.
  The TLVs of bytes: the program's Split. Condition: at most 100000 bytes, from a place of at most 2^40 on.
  Which Subs bytes hold: the program's sift and Get. Condition: at most 100000 bytes.
  What was read of the fields; what stands behind them: the program's call. Conditions: at most 100000 bytes; the variable has what it is laid with.
  The program's Get and Take: the request, the Update that a TLV says. Conditions: a type of theirs, at most 100000 bytes; the variable has what it is laid with.
-/
import Derived.Test.YteecialdkfaejaaGreatDoorQ04
import Derived.Test.YteecialdkfaejaaGreatDoorQ05
import Derived.Test.YteecialdkfaejaaGreatDoorQ06
import Derived.Test.YteecialdkfaejaaGreatDoorQ08
namespace Go.Proofs.YteecialdkfaejaaGreatDoor.F3
open Go.ChangeShapes Go.WideShapes Go.ChangeAt Go.RowKit
open Go.Proofs.YteecialdkfaejaaGreatDoor.F1
open Go.Proofs.YteecialdkfaejaaGreatDoor.F2
open Go.Proofs.YteecialdkfaejaaGreatDoor.Nu
open Go.Proofs.YteecialdkfaejaaGreatDoor.Cur (numL num_yes num_no text_yes text_no new_any left_ok hasB)
open Go.Proofs.YteecialdkfaejaaGreatDoor.Bk (Bk Sh shC cur cur_one loadVarK wpList_builtK wpList_loadK wpList_storeK run_loadK below_setRow alloc_size)
open Go.Proofs.YteecialdkfaejaaGreatDoor.Hs
open Go.Proofs.YteecialdkfaejaaGreatDoor.Hx (conv8 ex_built H.storeRow)
open Go.Proofs.YteecialdkfaejaaGreatDoor.Tl (cellsT oneT shT Lst TRow bs_one app_one cells_new)
set_option linter.unusedVariables false
set_option maxRecDepth 100000
set_option maxRecDepth 100000

theorem results_tc {P : Program} {fn : Func} {p q : Nat} {t1 t2 : TypeId} (h : fn.results = #[.cell p t1, .cell q t2]) (tmps : Array Value) (w : World) (g k : Nat) (u v : Value)
    (hp : tmps.getD p undef = .pointer (some ⟨g, 0, none⟩)) (hl : (loadVar t1 ⟨g, 0, none⟩).run P w = .ok u w) (hq : tmps.getD q undef = .pointer (some ⟨k, 0, none⟩)) (hk : (loadVar t2 ⟨k, 0, none⟩).run P w = .ok v w) :
    (results fn tmps).run P w = .ok (.tuple #[u, v]) w := by
  have hp' : tmps[p]?.getD undef = .pointer (some ⟨g, 0, none⟩) := by simpa using hp
  have hq' : tmps[q]?.getD undef = .pointer (some ⟨k, 0, none⟩) := by simpa using hq
  simp [results, h, hp', hq', asAddr, hl, hk]
/-- A TLV without anything. -/
def zT : T := (0, (⟨#[]⟩, 0))
/-- What stands in take: the cursor, the answer's TLV, the answer's cursor. -/
structure G (w0 w : World) (c : Array Value) : Prop where
  cur : Bk 102 w w0.heap.size c
  tl : Bk 27 w (w0.heap.size + 1) (cellsT zT)
  rc : Bk 102 w (w0.heap.size + 2) noC
  bel : Below w0.heap.size w0 w
theorem G.start (w : World) (c : Array Value) : G w (((w.alloc (.cells c 102)).alloc (.cells (cellsT zT) 27)).alloc (.cells noC 102)) c := by
  have h1 := Bk.Bk.new 27 (w.alloc (.cells c 102)) (cellsT zT)
  have h2 := Bk.Bk.new 102 ((w.alloc (.cells c 102)).alloc (.cells (cellsT zT) 27)) noC
  rw [alloc_size] at h1 h2
  rw [alloc_size] at h2
  exact ⟨((Bk.Bk.new 102 w c).old _).old _, h1.old _, h2, balloc (balloc (balloc (Below.refl _ w) _) _) _⟩
theorem G.call {w0 w w' : World} {c : Array Value} (g : G w0 w c) (hb : Below w.heap.size w w') : G w0 w' c := ⟨g.cur.below hb, g.tl.below hb, g.rc.below hb, g.bel.trans (hb.mono g.bel.size)⟩
theorem G.put {w0 w : World} {c : Array Value} (g : G w0 w c) (c' : Array Value) : G w0 (w.setRow w0.heap.size c') c' :=
  ⟨g.cur.put _, g.tl.row (by omega) _, g.rc.row (by omega) _, below_setRow g.bel (Nat.le_refl _) _⟩
/-- What take answers: a TLV and a cursor. -/
def TakeIs (t : T) (c : Array Value) (w : World) (e : Ending) (w' : World) : Prop := e = .returned (.tuple #[.agg (cellsT t), .agg c]) ∧ Below w.heap.size w w'
theorem G.ends {w0 w w' : World} {c c' : Array Value} {t : T} (g : G w0 w c) : Below w0.heap.size w0 ((w.drew.setRow (w0.heap.size + 1) (cellsT t)).setRow (w0.heap.size + 2) c') :=
  below_setRow (below_setRow g.bel.drew (by omega) _) (by omega) _
set_option maxHeartbeats 3200000 in
theorem take_zero (s : ByteArray) (p q : Nat) (y : Bool) (w : World) (h : ∀ w, Calls Tryz.prog 104 #[.agg (cur s p s.size false), .int .i64 1] w fun e w' => e = .returned (.tuple #[.int .i64 0, .agg (cur s q s.size y)]) ∧ Below w.heap.size w w') :
    Calls Tryz.prog 95 #[.agg (cur s p s.size false)] w (TakeIs zT (cur s q s.size y) w) := by
  have H1 := Lib.hid h
  clear h
  go_enter Tryz.func95, Tryz.ntmps95
  go_upto_region 1 with fail
  change Code.wp _ _ _ _ (((w.alloc (.cells (cur s p s.size false) 102)).alloc (.cells (cellsT zT) 27)).alloc (.cells noC 102))
  have HG := Lib.hid (G.start w (cur s p s.size false))
  generalize ((w.alloc (.cells (cur s p s.size false) 102)).alloc (.cells (cellsT zT) 27)).alloc (.cells noC 102) = W0 at *
  go_wp2_with (first | (refine wpList_loadK (b := w.heap.size) shC rfl _ rfl rfl HG.out.cur rfl ?_))
  refine (H1.out _).mono ?_
  rintro e w1 ⟨rfl, hb⟩
  have HG := Lib.hid (HG.out.call hb)
  clear hb H1
  go_upto_region 2 with (refine wpList_storeK (b := w.heap.size) shC rfl _ _ rfl rfl rfl HG.out.cur rfl rfl (cur_one s q s.size y) ?_)
  have HG := Lib.hid (HG.out.put (cur s q s.size y))
  generalize w1.setRow w.heap.size (cur s q s.size y) = W3 at *
  go_upto_region 3 with fail
  refine wp_region_held_drew (S := fun W => Bk 102 W w.heap.size (cur s q s.size y)) (by kernel_rfl) HG.out.cur.drew (fun hS => ?_)
  refine H.tk (i := 0) (v := .agg (cellsT zT)) (fun w _ => ex_built rfl (by kernel_rfl)) hS ?_
  try simp only [Act.put, List.setIfInBounds_toArray, List.set_cons_zero, List.set_cons_succ]
  refine H.tk (i := 1) (v := .agg (cur s q s.size y)) (fun W hW => run_loadK shC rfl rfl hW rfl) hS ?_
  try simp only [Act.put, List.setIfInBounds_toArray, List.set_cons_zero, List.set_cons_succ]
  refine H.storeRow (i := 2) (g := w.heap.size + 1) (cells := cellsT zT) (by simp only [List.getElem?_toArray, List.getElem?_cons_succ, List.getElem?_cons_zero]; rfl) (by kernel_rfl) rfl rfl (by kernel_rfl) rfl rfl 27 (cellsT zT) HG.out.tl.drew (by kernel_rfl) rfl (oneT _) (HG.out.cur.drew.row (by omega) _) ?_
  refine H.storeRow (i := 3) (g := w.heap.size + 2) (cells := cur s q s.size y) (by simp only [List.getElem?_toArray, List.getElem?_cons_succ, List.getElem?_cons_zero]; rfl) (by kernel_rfl) rfl rfl (by kernel_rfl) rfl rfl 102 noC (HG.out.rc.drew.row (by omega) _) (by kernel_rfl) rfl (cur_one _ _ _ _) ((HG.out.cur.drew.row (by omega) _).row (by omega) _) ?_
  refine wpAnyH_done (by kernel_rfl) ?_ _
  go_wp2_with fail
  exact bodyPost_ret (v := .tuple #[.agg (cellsT zT), .agg (cur s q s.size y)]) (results_tc (t1 := 27) (t2 := 102) rfl _ _ (w.heap.size + 1) (w.heap.size + 2) (.agg (cellsT zT)) (.agg (cur s q s.size y)) rfl (loadVarK shT ((HG.out.tl.drew.put _).row (by omega) _) rfl) rfl (loadVarK shC ((HG.out.rc.drew.row (by omega) _).put _) rfl)) rfl ⟨rfl, HG.out.ends (w' := w)⟩
set_option maxHeartbeats 6400000 in
theorem take_more (s d : ByteArray) (p q1 q2 q3 : Nat) (y1 y2 y3 : Bool) (t n : Int) (w : World) (ht : ¬ t = 0)
    (h1 : ∀ w, Calls Tryz.prog 104 #[.agg (cur s p s.size false), .int .i64 1] w fun e w' => e = .returned (.tuple #[.int .i64 t, .agg (cur s q1 s.size y1)]) ∧ Below w.heap.size w w')
    (h2 : ∀ w, Calls Tryz.prog 104 #[.agg (cur s q1 s.size y1), .int .i64 1] w fun e w' => e = .returned (.tuple #[.int .i64 n, .agg (cur s q2 s.size y2)]) ∧ Below w.heap.size w w')
    (h3 : ∀ w, Calls Tryz.prog 105 #[.agg (cur s q2 s.size y2), .int .i64 n] w fun e w' => e = .returned (.tuple #[.string d, .agg (cur s q3 s.size y3)]) ∧ Below w.heap.size w w') :
    Calls Tryz.prog 95 #[.agg (cur s p s.size false)] w (TakeIs (0, (d, t)) (cur s q3 s.size y3) w) := by
  have H1 := Lib.hid h1
  have H2 := Lib.hid h2
  have H3 := Lib.hid h3
  clear h1 h2 h3
  go_enter Tryz.func95, Tryz.ntmps95
  go_upto_region 1 with fail
  change Code.wp _ _ _ _ (((w.alloc (.cells (cur s p s.size false) 102)).alloc (.cells (cellsT zT) 27)).alloc (.cells noC 102))
  have HG := Lib.hid (G.start w (cur s p s.size false))
  generalize ((w.alloc (.cells (cur s p s.size false) 102)).alloc (.cells (cellsT zT) 27)).alloc (.cells noC 102) = W0 at *
  go_wp2_with (first | (refine wpList_loadK (b := w.heap.size) shC rfl _ rfl rfl HG.out.cur rfl ?_))
  refine (H1.out _).mono ?_
  rintro e w1 ⟨rfl, hb⟩
  have HG := Lib.hid (HG.out.call hb)
  clear hb H1
  go_upto_region 2 with (refine wpList_storeK (b := w.heap.size) shC rfl _ _ rfl rfl rfl HG.out.cur rfl rfl (cur_one s q1 s.size y1) ?_)
  have HG := Lib.hid (HG.out.put (cur s q1 s.size y1))
  generalize w1.setRow w.heap.size (cur s q1 s.size y1) = W2 at *
  go_wp2_with (first | (refine wpList_loadK (b := w.heap.size) shC rfl _ rfl rfl HG.out.cur rfl ?_))
  refine (H2.out _).mono ?_
  rintro e w2 ⟨rfl, hb⟩
  have HG := Lib.hid (HG.out.call hb)
  clear hb H2
  go_upto_region 5 with (refine wpList_storeK (b := w.heap.size) shC rfl _ _ rfl rfl rfl HG.out.cur rfl rfl (cur_one s q2 s.size y2) ?_)
  have HG := Lib.hid (HG.out.put (cur s q2 s.size y2))
  generalize w2.setRow w.heap.size (cur s q2 s.size y2) = W3 at *
  go_wp2_with (first | (refine wpList_loadK (b := w.heap.size) shC rfl _ rfl rfl HG.out.cur rfl ?_))
  refine (H3.out _).mono ?_
  rintro e w3 ⟨rfl, hb⟩
  have HG := Lib.hid (HG.out.call hb)
  clear hb H3
  go_upto_region 6 with (refine wpList_storeK (b := w.heap.size) shC rfl _ _ rfl rfl rfl HG.out.cur rfl rfl (cur_one s q3 s.size y3) ?_)
  have HG := Lib.hid (HG.out.put (cur s q3 s.size y3))
  generalize w3.setRow w.heap.size (cur s q3 s.size y3) = W4 at *
  refine wp_region_held_drew (S := fun W => Bk 102 W w.heap.size (cur s q3 s.size y3)) (by kernel_rfl) HG.out.cur.drew (fun hS => ?_)
  refine H.tk (i := 0) (v := .int .i64 t) (fun _ _ => rfl) hS ?_
  try simp only [Act.put, List.setIfInBounds_toArray, List.set_cons_zero, List.set_cons_succ]
  refine H.tk (i := 1) (v := .string d) (fun _ _ => rfl) hS ?_
  try simp only [Act.put, List.setIfInBounds_toArray, List.set_cons_zero, List.set_cons_succ]
  refine H.tk (i := 2) (v := .agg (cellsT (0, (d, t)))) (fun w _ => ex_built rfl (by kernel_rfl)) hS ?_
  try simp only [Act.put, List.setIfInBounds_toArray, List.set_cons_zero, List.set_cons_succ]
  refine H.tk (i := 3) (v := .agg (cur s q3 s.size y3)) (fun W hW => run_loadK shC rfl rfl hW rfl) hS ?_
  try simp only [Act.put, List.setIfInBounds_toArray, List.set_cons_zero, List.set_cons_succ]
  refine H.storeRow (i := 4) (g := w.heap.size + 1) (cells := cellsT (0, (d, t))) (by simp only [List.getElem?_toArray, List.getElem?_cons_succ, List.getElem?_cons_zero]; rfl) (by kernel_rfl) rfl rfl (by kernel_rfl) rfl rfl 27 (cellsT zT) HG.out.tl.drew (by kernel_rfl) rfl (oneT _) (HG.out.cur.drew.row (by omega) _) ?_
  refine H.storeRow (i := 5) (g := w.heap.size + 2) (cells := cur s q3 s.size y3) (by simp only [List.getElem?_toArray, List.getElem?_cons_succ, List.getElem?_cons_zero]; rfl) (by kernel_rfl) rfl rfl (by kernel_rfl) rfl rfl 102 noC (HG.out.rc.drew.row (by omega) _) (by kernel_rfl) rfl (cur_one _ _ _ _) ((HG.out.cur.drew.row (by omega) _).row (by omega) _) ?_
  refine wpAnyH_done (by kernel_rfl) ?_ _
  go_wp2_with fail
  exact bodyPost_ret (v := .tuple #[.agg (cellsT (0, (d, t))), .agg (cur s q3 s.size y3)]) (results_tc (t1 := 27) (t2 := 102) rfl _ _ (w.heap.size + 1) (w.heap.size + 2) (.agg (cellsT (0, (d, t)))) (.agg (cur s q3 s.size y3)) rfl (loadVarK shT ((HG.out.tl.drew.put _).row (by omega) _) rfl) rfl (loadVarK shC ((HG.out.rc.drew.row (by omega) _).put _) rfl)) rfl ⟨rfl, HG.out.ends (w' := w)⟩
/-- Where a TLV begins: what take answers, if it is all there, and if it isn't. -/
theorem take_any {s : ByteArray} {a r : List UInt8} {p : Nat} (h : s.data.toList = a ++ r) (hp : a.length = p) (hr : r ≠ []) (hs : s.size ≤ 1048576) :
    (∃ x r', cut1 r = some (x, r') ∧ ∀ w, Calls Tryz.prog 95 #[.agg (cur s p s.size false)] w (TakeIs (0, x) (cur s (p + (enc1 x).length : Nat) s.size false) w)) ∨
    (cut1 r = none ∧ ∃ (t : T) (q : Nat), ∀ w, Calls Tryz.prog 95 #[.agg (cur s p s.size false)] w (TakeIs t (cur s q s.size true) w)) := by
  have hm : s.size ≤ maxLen := by unfold maxLen; omega
  obtain ⟨k1, k2, k3⟩ := F1.step h hp hr
  have N1 := fun w => num_is s p hs (by omega) w
  rcases k3 with ⟨b0, r', hc⟩ | ⟨b0, k4, hc⟩ | ⟨n, b0, k4, b1, kn, ⟨k5, hc⟩ | ⟨k5, x, r', hc, x1, x2, x3⟩⟩
  · rw [b0] at N1
    refine .inl ⟨_, r', hc, fun w => ?_⟩
    exact take_zero s p (p + 1) false w N1
  · obtain ⟨v2, q2, y2, l2, j2, n2⟩ := num_any s (p + 1) false 1 hs (by omega) (by omega) (by omega)
    have hy : y2 = true := by
      cases y2 with
      | true => rfl
      | false =>
        obtain ⟨_, _, _⟩ := j2 rfl
        omega
    subst hy
    exact .inr ⟨hc, _, q2, fun w => take_more s ⟨#[]⟩ p (p + 1) q2 q2 false true true (bt s p) v2 w b0 N1 n2 (fun w => text_no s q2 s.size v2 true w hm l2 (Nat.le_refl _) rfl)⟩
  · have N2 := fun w => num_is s (p + 1) hs (by omega) w
    rw [b1] at N2
    exact .inr ⟨hc, _, p + 2, fun w => take_more s ⟨#[]⟩ p (p + 1) (p + 2) (p + 2) false false true (bt s p) n w b0 N1 N2 (fun w => text_no s (p + 2) s.size n false w hm (by omega) (Nat.le_refl _) (by unfold hasB; simp; omega))⟩
  · have N2 := fun w => num_is s (p + 1) hs (by omega) w
    rw [b1] at N2
    have hx : x = (s.extract (p + 2) (p + 2 + n), bt s p) := Prod.ext x2 x1
    have hl : (enc1 x).length = 2 + n := by rw [enc1_len, if_neg (by rw [x1]; exact b0), x3]
    refine .inl ⟨x, r', hc, fun w => ?_⟩
    rw [hl, hx]
    have T3 : ∀ w, Calls Tryz.prog 105 #[.agg (cur s (p + 2 : Nat) s.size false), .int .i64 n] w fun e w' => e = .returned (.tuple #[.string (s.extract (p + 2) (p + 2 + n)), .agg (cur s (p + 2 + n : Nat) s.size false)]) ∧ Below w.heap.size w w' := fun w => by
      have := text_yes s (p + 2) s.size n w hm (by omega) (Nat.le_refl _) k5
      unfold cur
      push_cast at this ⊢
      exact this
    rw [show p + (2 + n) = p + 2 + n by omega]
    exact take_more s _ p (p + 1) (p + 2) (p + 2 + n) false false false (bt s p) n w b0 N1 N2 T3
end Go.Proofs.YteecialdkfaejaaGreatDoor.F3
namespace Go.Proofs.YteecialdkfaejaaGreatDoor.F4
open Go.ChangeShapes Go.WideShapes Go.ChangeAt Go.RowKit
open Go.Proofs.YteecialdkfaejaaGreatDoor.F1
open Go.Proofs.YteecialdkfaejaaGreatDoor.F2
open Go.Proofs.YteecialdkfaejaaGreatDoor.F3
open Go.Proofs.YteecialdkfaejaaGreatDoor.Cur (new_any left_ok)
open Go.Proofs.YteecialdkfaejaaGreatDoor.Bk (Bk Sh shC cur cur_one loadVarK wpList_builtK wpList_loadK wpList_storeK run_loadK below_setRow alloc_size)
open Go.Proofs.YteecialdkfaejaaGreatDoor.Hs
open Go.Proofs.YteecialdkfaejaaGreatDoor.Hx (conv8 ex_built H.storeRow)
open Go.Proofs.YteecialdkfaejaaGreatDoor.Tl (cellsT oneT shT Lst TRow bs_one app_one cells_new)
set_option linter.unusedVariables false
set_option maxRecDepth 100000
set_option maxRecDepth 100000

/-- The answer: TLVs, a place, an error; the list is the call's own. -/
def AnsT (p : List T × Int × Int) (w : World) (e : Ending) (w' : World) : Prop :=
  ∃ a c, e = .returned (.tuple #[.slice a p.1.length c, .int .i64 p.2.1, .int .i64 p.2.2]) ∧ Lst w.heap.size w' (.slice a p.1.length c) p.1 ∧ Below w.heap.size w w'
theorem AnsT.no {p : List T × Int × Int} {w w' : World} {c d : Int} (h : p = ([], c, d)) (hb : Below w.heap.size w w') : AnsT p w (.returned (.tuple #[.slice none 0 0, .int .i64 c, .int .i64 d])) w' := by
  subst h
  exact ⟨none, 0, rfl, Lst.nil _ _, hb⟩
theorem AnsT.yes {p : List T × Int × Int} {w w' : World} {a : Option Addr} {c n : Nat} {l : List T} (h : p = (l, 0, 0)) (hn : l.length = n) (hl : Lst w.heap.size w' (.slice a n c) l) (hb : Below w.heap.size w w') : AnsT p w (.returned (.tuple #[.slice a n c, .int .i64 0, .int .i64 0])) w' := by
  subst h hn
  exact ⟨a, c, rfl, hl, hb⟩
/-- Where the cursor in a block stands. -/
def curAt (w : World) (v : Value) : Nat := match v with
  | .pointer (some p) => match w.cell? (p.add 1) with
    | some (.int _ n) => n.toNat
    | _ => 0
  | _ => 0
theorem curAt_of {w : World} {g : Nat} {s : ByteArray} {a n : Int} {b : Bool} (h : Bk 102 w g (cur s a n b)) : curAt w (.pointer (some ⟨g, 0, none⟩)) = a.toNat := by
  have h1 := h.cell 1 (.int .i64 a) rfl
  unfold curAt
  simp only [Tl.add_one, Nat.zero_add, h1]
theorem left_is (s : ByteArray) (p : Nat) (d : Int) (hs : s.size ≤ 1048576) (hp : p ≤ s.size) (hd : d = (s.size : Int) - p) (w : World) :
    Calls Tryz.prog 94 #[.agg (cur s p s.size false)] w fun e w' => e = .returned (.int .i64 d) ∧ Below w.heap.size w w' := by
  have h := left_ok s p s.size w
  rw [IntWalk.wrap64_in ((s.size : Int) - (p : Int)) (by omega)] at h
  rw [hd]
  exact h
set_option maxHeartbeats 6400000 in
theorem split_own (s : ByteArray) (base : Int) (w : World) (hs : s.size ≤ 100000) (h0 : 0 ≤ base) (h1 : base ≤ 1099511627776) : Calls Tryz.prog 81 #[.string s, .int .i64 base] w (AnsT (outT base s) w) := by
  have HS := Lib.hid hs
  have HN := Lib.hid (fun V => new_any s V (by unfold maxLen; omega))
  clear hs
  go_enter Tryz.func81, Tryz.ntmps81
  go_wp2_with fail
  refine (HN.out _).mono ?_
  rintro e w1 ⟨rfl, hb⟩
  have C0 := Lib.hid (Bk.Bk.new 102 w1 noC)
  have C1 := Lib.hid (C0.out.put (cur s (0 : Nat) s.size false))
  have HB := Lib.hid (below_setRow (balloc hb (.cells noC 102)) hb.size (cur s (0 : Nat) s.size false))
  have HG1 : Hid (w.heap.size ≤ w1.heap.size) := Lib.hid hb.size
  clear hb HN
  go_wp2_with (first | (refine wpList_storeK (b := w1.heap.size) shC rfl _ _ rfl rfl rfl C0.out rfl rfl (cur_one _ _ _ _) ?_))
  change Code.wp _ _ _ _ ((w1.alloc (.cells noC 102)).setRow w1.heap.size (cur s (0 : Nat) s.size false))
  clear C0
  generalize (w1.alloc (.cells noC 102)).setRow w1.heap.size (cur s (0 : Nat) s.size false) = W1 at *
  generalize w1.heap.size = g1 at *
  change Code.wp _ _ _ (Act.mk _ _) _
  go_loopw [7, 8] (fun v pv wr => ∃ (l : List El) (p g : Nat) (r : List UInt8), pv = .pointer (some ⟨g, 0, none⟩) ∧ Hid (Bk 102 wr g (cur s p s.size false)) ∧ Hid (w.heap.size ≤ g) ∧ Hid ((encT l).length = p) ∧ Hid (Lst w.heap.size wr v (placed base l)) ∧ Hid (okT l) ∧ Hid (s.data.toList = encT l ++ r) ∧ Hid (Below w.heap.size w wr)) (fun _ pv wr => s.size - curAt wr pv)
  case atStart => exact ⟨[], 0, g1, s.data.toList, rfl, C1, HG1, Lib.hid rfl, Lib.hid (Lst.nil _ _), Lib.hid okT_nil, Lib.hid rfl, HB⟩
  case round =>
    obtain ⟨l, p, g, r, rfl, HC, HGB, HP, HL, HO, HE, HB⟩ := hrel
    clear C1 HG1
    have HZ : Hid (s.size = p + r.length) := Lib.hid (by rw [size_of HE.out, List.length_append, HP.out])
    have HC0 := HC
    have hc1 := HC.out.cell 1 (.int .i64 p) rfl
    have hp0 : 0 ≤ (p : Int) := Int.natCast_nonneg _
    have hp1 : (p : Int) ≤ 100000 := by have := HZ.out; have := HS.out; omega
    obtain ⟨d, hd⟩ : ∃ d, d = (s.size : Int) - p := ⟨_, rfl⟩
    have PL := Lib.hid (fun V => left_is s p d (by have := HS.out; omega) (by have := HZ.out; omega) hd V)
    by_cases hu : r = []
    · subst hu
      have HY := Lib.hid (out_yes (base := base) HO.out (by rw [HE.out, List.append_nil]))
      have e1 : ¬ 0 < d := by have := HZ.out; simp only [List.length_nil] at this; omega
      obtain ⟨a, c, rfl⟩ := HL.out.slice
      have HW := Lib.hid HL.out
      clear HL HP HZ HE hd hc1
      generalize (p : Int) = pi at *
      go_wp2_with (first | (refine wpList_loadK (b := g) shC rfl _ rfl rfl HC.out rfl ?_))
      refine (PL.out _).mono ?_
      rintro e w2 ⟨rfl, hb⟩
      have HW := Lib.hid (HW.out.below hb)
      have HB := Lib.hid (bcall HB.out hb)
      clear hb PL HC
      go_wp2
      go_ret3
      exact AnsT.yes HY.out rfl HW.out HB.out
    · have hr : 0 < r.length := by
        cases r with
        | nil => exact absurd rfl hu
        | cons _ _ => simp
      have e1 : 0 < d := by have := HZ.out; omega
      clear hr
      rcases take_any HE.out HP.out hu (by have := HS.out; omega) with ⟨x, r', hc, ht⟩ | ⟨hc, t, q, ht⟩
      · have PT := Lib.hid ht
        obtain ⟨ho, he⟩ := cut1_some hc
        have HO := Lib.hid (okT_snoc HO.out ho)
        have HE : Hid (s.data.toList = encT (l ++ [x]) ++ r') := Lib.hid (by rw [HE.out, he, encT_snoc, List.append_assoc])
        have HCC : Hid ((placed base l).length ≤ 100000) := Lib.hid (by rw [placed_len]; have := HS.out; have := HP.out; have := HZ.out; have := len_le l; omega)
        have HPL : Hid (placed base (l ++ [x]) = placed base l ++ [(base + (p : Int), x)]) := Lib.hid (by rw [placed_snoc, HP.out])
        have HP2 : Hid ((encT (l ++ [x])).length = p + (enc1 x).length) := Lib.hid (by rw [encT_snoc, List.length_append, HP.out])
        have HM : Hid (s.size - (p + (enc1 x).length) < s.size - p) := Lib.hid (by
          have := HZ.out
          have h1 := congrArg List.length he
          rw [List.length_append] at h1
          have := enc1_pos x
          omega)
        clear hu hc ht ho he HZ hd
        generalize p + (enc1 x).length = p' at *
        generalize placed base l = lp at *
        go_wp2_with (first | (refine wpList_loadK (b := g) shC rfl _ rfl rfl HC.out rfl ?_))
        refine (PL.out _).mono ?_
        rintro e w2 ⟨rfl, hb⟩
        have HL := Lib.hid (HL.out.below hb)
        have HB := Lib.hid (bcall HB.out hb)
        have HC := Lib.hid (HC.out.below hb)
        clear hb PL hc1
        go_wp2_with (first | (refine wpList_loadK (b := g) shC rfl _ rfl rfl HC.out rfl ?_))
        refine (PT.out _).mono ?_
        rintro e w3 ⟨rfl, hb⟩
        have HL := Lib.hid (HL.out.below hb)
        have HB := Lib.hid (bcall HB.out hb)
        have HC := Lib.hid (HC.out.below hb)
        clear hb PT
        have hg : Hid (g < w3.heap.size) := Lib.hid HC.out.lt
        have hgB : Hid (w.heap.size ≤ w3.heap.size) := Lib.hid HB.out.size
        have T0 : Hid (Bk 27 ((w3.alloc (.cells (cellsT zT) 27)).alloc (.cells noC 102)) w3.heap.size (cellsT zT)) := Lib.hid ((Bk.Bk.new _ _ _).old _)
        have U0 : Hid (Bk 102 (((w3.alloc (.cells (cellsT zT) 27)).alloc (.cells noC 102)).setRow w3.heap.size (cellsT (0, x))) (w3.heap.size + 1) noC) := Lib.hid (by
          have := Bk.Bk.new 102 (w3.alloc (.cells (cellsT zT) 27)) noC
          rw [alloc_size] at this
          exact this.row (by omega) _)
        have T1 := Lib.hid ((T0.out.put (cellsT (0, x))).row (g := w3.heap.size + 1) (by omega) (cur s p' s.size false))
        have U1 := Lib.hid (U0.out.put (cur s p' s.size false))
        have HBB := Lib.hid (below_setRow (below_setRow (balloc (balloc (Below.refl _ w3) (.cells (cellsT zT) 27)) (.cells noC 102)) (Nat.le_refl _) (cellsT (0, x))) (Nat.le_succ _) (cur s p' s.size false))
        go_upto_region 5 with (first | (refine wpList_storeK (b := w3.heap.size) shT rfl _ _ rfl rfl rfl T0.out rfl rfl (oneT (0, x)) ?_) | (refine wpList_storeK (b := w3.heap.size + 1) shC rfl _ _ rfl rfl rfl U0.out rfl rfl (cur_one _ _ _ _) ?_))
        clear T0 U0
        change Code.wp _ _ _ _ ((((w3.alloc (.cells (cellsT zT) 27)).alloc (.cells noC 102)).setRow w3.heap.size (cellsT (0, x))).setRow (w3.heap.size + 1) (cur s p' s.size false))
        generalize (((w3.alloc (.cells (cellsT zT) 27)).alloc (.cells noC 102)).setRow w3.heap.size (cellsT (0, x))).setRow (w3.heap.size + 1) (cur s p' s.size false) = W4 at *
        have HC := Lib.hid (HC.out.below HBB.out)
        have c3 := U1.out.cell 3 (.bool false) rfl
        have c1 := HC.out.cell 1 (.int .i64 p) rfl
        have f1 := T1.out.frozen 1
        have d1 := T1.out.cell 1 (.int .i64 0) rfl
        have hbp : IntKind.i64.wrap (base + (p : Int)) = base + (p : Int) := IntWalk.i64_in _ (by omega)
        have hbq : wrap64 (base + (p : Int)) = base + (p : Int) := IntWalk.wrap64_in _ (by omega)
        go_upto_region 8 with fail
        have T1 := Lib.hid (T1.out.set (i := 1) (v := .int .i64 (base + (p : Int))) (cs' := cellsT (base + (p : Int), x)) rfl)
        have U1 := Lib.hid (U1.out.off (p := ⟨w3.heap.size, 1, none⟩) (by show w3.heap.size + 1 ≠ w3.heap.size; omega) (.int .i64 (base + (p : Int))))
        have HC := Lib.hid (HC.out.off (p := ⟨w3.heap.size, 1, none⟩) (by show g ≠ w3.heap.size; have := hg.out; omega) (.int .i64 (base + (p : Int))))
        have HBB := Lib.hid (HBB.out.setCell (p := ⟨w3.heap.size, 1, none⟩) (Nat.le_refl _) (.int .i64 (base + (p : Int))))
        have HL := Lib.hid (HL.out.below HBB.out)
        have HB := Lib.hid (bcall HB.out HBB.out)
        clear HBB
        generalize W4.setCell ⟨w3.heap.size, 1, none⟩ (.int .i64 (base + (p : Int))) = W5 at *
        generalize w3.heap.size = g9 at *
        clear c3 c1 f1 d1 hbp hbq
        have HLA := Lib.hid (HL.out.below (balloc (Below.refl _ W5) (.cells (cellsT (base + (p : Int), x)) 27)))
        have HBA := Lib.hid (balloc HB.out (.cells (cellsT (base + (p : Int), x)) 27))
        clear HL HB hg hgB HBB
        go_upto_region 9 with (first | (refine wpList_loadK (b := g9) shT rfl _ rfl rfl T1.out rfl ?_) | (refine bs_one rfl _ rfl (m := (base + (p : Int), x)) rfl ?_) | (at_builtin; refine app_one rfl _ _ rfl w.heap.size _ lp (base + (p : Int), x) W5.heap.size 1 rfl HLA.out rfl (cells_new (base + (p : Int), x) W5) HCC.out HBA.out.size ?_))
        intro v' w' hl hgr hb
        have HC := Lib.hid (HLA.out.keeps hgr (HC.out.old _) (by decide))
        have U1 := Lib.hid (HLA.out.keeps hgr (U1.out.old _) (by decide))
        have HL := Lib.hid hl
        have HB := Lib.hid (HBA.out.trans hb)
        rw [← HPL.out] at HL
        clear hl hgr hb HLA HBA T1 HPL HCC
        go_upto_region 10 with (first | (refine wpList_loadK (b := g9 + 1) shC rfl _ rfl rfl U1.out rfl ?_) | (refine wpList_storeK (b := g) shC rfl _ _ rfl rfl rfl HC.out rfl rfl (cur_one _ _ _ _) ?_))
        have HL := Lib.hid (HL.out.off_row HC.out (by decide) (cur s p' s.size false))
        have HB := Lib.hid (below_setRow HB.out HGB.out (cur s p' s.size false))
        have HC := Lib.hid (HC.out.put (cur s p' s.size false))
        generalize w'.setRow g (cur s p' s.size false) = X at *
        have C0 := Lib.hid (Bk.Bk.new 102 X noC)
        go_wp2_with (first | (refine wpList_loadK (b := g) shC rfl _ rfl rfl HC.out rfl ?_) | (refine wpList_storeK (b := X.heap.size) shC rfl _ _ rfl rfl rfl C0.out rfl rfl (cur_one _ _ _ _) ?_))
        have hmm : s.size - curAt ((X.alloc (.cells noC 102)).setRow X.heap.size (cur s p' s.size false)) (.pointer (some ⟨X.heap.size, 0, none⟩)) < s.size - curAt wr (.pointer (some ⟨g, 0, none⟩)) := by
          rw [curAt_of (C0.out.put (cur s p' s.size false)), curAt_of HC0.out]
          simpa using HM.out
        have HMM := Lib.hid hmm
        have HB1 := Lib.hid (below_setRow (balloc (Below.refl _ X) (.cells noC 102)) (Nat.le_refl _) (cur s p' s.size false))
        clear hmm
        simp only [Act.put]
        go_roundw
        case rel => exact ⟨l ++ [x], p', X.heap.size, r', rfl, Lib.hid (C0.out.put _), Lib.hid HB.out.size, HP2, Lib.hid (HL.out.below HB1.out), HO, HE, Lib.hid (bcall HB.out HB1.out)⟩
        case measure => exact HMM.out
      · have PT := Lib.hid ht
        have HY := Lib.hid (out_no (base := base) HO.out HE.out hc hu)
        rw [HP.out] at HY
        clear hu hc ht HZ hd HP HE HO
        go_wp2_with (first | (refine wpList_loadK (b := g) shC rfl _ rfl rfl HC.out rfl ?_))
        refine (PL.out _).mono ?_
        rintro e w2 ⟨rfl, hb⟩
        have HB := Lib.hid (bcall HB.out hb)
        have HC := Lib.hid (HC.out.below hb)
        clear hb PL hc1
        go_wp2_with (first | (refine wpList_loadK (b := g) shC rfl _ rfl rfl HC.out rfl ?_))
        refine (PT.out _).mono ?_
        rintro e w3 ⟨rfl, hb⟩
        have HB := Lib.hid (bcall HB.out hb)
        have HC := Lib.hid (HC.out.below hb)
        clear hb PT
        have T0 : Hid (Bk 27 ((w3.alloc (.cells (cellsT zT) 27)).alloc (.cells noC 102)) w3.heap.size (cellsT zT)) := Lib.hid ((Bk.Bk.new _ _ _).old _)
        have U0 : Hid (Bk 102 (((w3.alloc (.cells (cellsT zT) 27)).alloc (.cells noC 102)).setRow w3.heap.size (cellsT t)) (w3.heap.size + 1) noC) := Lib.hid (by
          have := Bk.Bk.new 102 (w3.alloc (.cells (cellsT zT) 27)) noC
          rw [alloc_size] at this
          exact this.row (by omega) _)
        have U1 := Lib.hid (U0.out.put (cur s q s.size true))
        have HBB := Lib.hid (below_setRow (below_setRow (balloc (balloc (Below.refl _ w3) (.cells (cellsT zT) 27)) (.cells noC 102)) (Nat.le_refl _) (cellsT t)) (Nat.le_succ _) (cur s q s.size true))
        go_upto_region 5 with (first | (refine wpList_storeK (b := w3.heap.size) shT rfl _ _ rfl rfl rfl T0.out rfl rfl (oneT t) ?_) | (refine wpList_storeK (b := w3.heap.size + 1) shC rfl _ _ rfl rfl rfl U0.out rfl rfl (cur_one _ _ _ _) ?_))
        clear T0 U0
        change Code.wp _ _ _ _ ((((w3.alloc (.cells (cellsT zT) 27)).alloc (.cells noC 102)).setRow w3.heap.size (cellsT t)).setRow (w3.heap.size + 1) (cur s q s.size true))
        generalize (((w3.alloc (.cells (cellsT zT) 27)).alloc (.cells noC 102)).setRow w3.heap.size (cellsT t)).setRow (w3.heap.size + 1) (cur s q s.size true) = W4 at *
        have HC := Lib.hid (HC.out.below HBB.out)
        have HB := Lib.hid (bcall HB.out HBB.out)
        clear HBB
        have c3 := U1.out.cell 3 (.bool true) rfl
        have c1 := HC.out.cell 1 (.int .i64 p) rfl
        have hbp : IntKind.i64.wrap (base + (p : Int)) = base + (p : Int) := IntWalk.i64_in _ (by omega)
        have hbq : wrap64 (base + (p : Int)) = base + (p : Int) := IntWalk.wrap64_in _ (by omega)
        generalize (p : Int) = pi at *
        go_wp2
        go_quiet (fail)
        go_wp2
        go_ret3
        exact AnsT.no HY.out (Tl.below_drewN HB.out _)
end Go.Proofs.YteecialdkfaejaaGreatDoor.F4
namespace Go.Proofs.YteecialdkfaejaaGreatDoor.S5
open Go.ChangeShapes Go.WideShapes Go.ChangeAt Go.RowKit
open Go.Proofs.YteecialdkfaejaaGreatDoor.Ms
open Go.Proofs.YteecialdkfaejaaGreatDoor.Cnt
open Go.Proofs.YteecialdkfaejaaGreatDoor.S1
open Go.Proofs.YteecialdkfaejaaGreatDoor.S2
open Go.Proofs.YteecialdkfaejaaGreatDoor.F1 (enc1 encT outT placed placed_len okT size_of len_le)
open Go.Proofs.YteecialdkfaejaaGreatDoor.F4 (AnsT split_own)
open Go.Proofs.YteecialdkfaejaaGreatDoor.Tl (TRow cellsT indexT add_two)
open Go.Proofs.YteecialdkfaejaaGreatDoor.Sx (cellsS Lst bs_one app_one cells_new)
open Go.Proofs.YteecialdkfaejaaGreatDoor.Bk (Bk Sh wpList_builtK)
set_option linter.unusedVariables false
set_option maxRecDepth 100000
set_option maxRecDepth 100000

/-- The first k of TLVs with places, without them. -/
def els (l : List F1.T) (k : Nat) : List El := (l.take k).map Prod.snd
theorem els_zero (l : List F1.T) : els l 0 = [] := by unfold els; simp
theorem els_snoc (l : List F1.T) (k : Nat) (h : k < l.length) : els l (k + 1) = els l k ++ [l[k].2] := by
  unfold els
  rw [List.take_succ_eq_append_getElem h, List.map_append]
  rfl
theorem els_all (l : List F1.T) : els l l.length = l.map Prod.snd := by unfold els; rw [List.take_length]
theorem els_len (l : List F1.T) (k : Nat) : (els l k).length ≤ k := by unfold els; rw [List.length_map, List.length_take]; omega
theorem lst_mono {B B' : Nat} {w : World} {v : Value} {l : List El} (h : Lst B w v l) (hB : B' ≤ B) : Lst B' w v l := by
  refine ⟨h.1, ?_⟩
  rcases h.2 with h | ⟨k, cap, cur, a, b, c, d⟩
  · exact .inl h
  · exact .inr ⟨k, cap, cur, a, Nat.le_trans hB b, c, d⟩
/-- The answer of a sifting: those kept (the list is the call's own), and whether none must be known. -/
def AnsF (l : List El) (w : World) (e : Ending) (w' : World) : Prop :=
  ∃ a c, e = .returned (.tuple #[.slice a (keep l).length c, .bool (knownB l)]) ∧ Lst w.heap.size w' (.slice a (keep l).length c) (keep l) ∧ Below w.heap.size w w'
theorem AnsF.of {l : List El} {w w' : World} {v : Value} {k : Bool} (hk : k = knownB l) (hl : Lst w.heap.size w' v (keep l)) (hb : Below w.heap.size w w') : AnsF l w (.returned (.tuple #[v, .bool k])) w' := by
  obtain ⟨a, c, rfl⟩ := hl.slice
  exact ⟨a, c, by rw [hk], hl, hb⟩
theorem bool_val {a b : Bool} (h : a = b) : Value.bool a = Value.bool b := by rw [h]

set_option maxHeartbeats 3200000 in
theorem sift_any (a : Option Addr) (c : Nat) (l : List F1.T) (w : World) (hl : TRow w a l) (ln : l.length ≤ 100000) :
    Calls Tryz.prog 82 #[.slice a l.length c] w (AnsF (l.map Prod.snd) w) := by
  have HLn := Lib.hid ln
  clear ln
  go_enter Tryz.func82, Tryz.ntmps82
  go_wp2
  go_loopw [4, 5, 10] (fun v kn i wr => ∃ k : Nat, k ≤ l.length ∧ i = .int .i64 k ∧ kn = .bool (knownB (els l k)) ∧ Hid (Lst w.heap.size wr v (keep (els l k))) ∧ Hid (Below w.heap.size w wr)) (fun _ _ i _ => l.length - (intOf i).toNat)
  case atStart => exact ⟨0, Nat.zero_le _, rfl, by rw [els_zero]; rfl, Lib.hid (by rw [els_zero]; exact Lst.nil _ _), Lib.hid (Below.refl _ _)⟩
  case round =>
    obtain ⟨k, hk, rfl, rfl, HV, HB⟩ := hrel
    by_cases hlt : k < l.length
    · obtain ⟨p, rfl, hp, c0, c1, c2⟩ := (hl.below HB.out) k hlt
      have ix := fun W => indexT p l.length c k hlt W
      have HT := Lib.hid (els_snoc l k hlt)
      have hk2 : (k : Int) ≤ 100000 := by have := HLn.out; omega
      have HC : Hid ((keep (els l k)).length ≤ 100000) := Lib.hid (by have := HLn.out; have := keep_len (els l k); have := els_len l k; omega)
      rw [add_one] at c1
      rw [add_two] at c2
      generalize l[k] = u at *
      generalize els l k = lk at *
      obtain ⟨at0, d, n⟩ := u
      simp only [] at c0 c1 c2 HT
      have HX := Lib.hid (Bk.Bk.new 27 wr (cellsT (at0, d, n)))
      have HV := Lib.hid (HV.out.below (balloc (Below.refl _ wr) (.cells (cellsT (at0, d, n)) 27)))
      have HB := Lib.hid (balloc HB.out (.cells (cellsT (at0, d, n)) 27))
      go_upto_region 6 with fail
      change Code.wp _ _ _ _ (wr.alloc (.cells (cellsT (at0, d, n)) 27))
      generalize wr.alloc (.cells (cellsT (at0, d, n)) 27) = W at *
      generalize wr.heap.size = q at *
      clear c0 c1 c2 hp ix
      have c0 := HX.out.cell 0 (.int .i64 n) rfl
      have c2 := HX.out.cell 2 (.string d) rfl
      by_cases h1 : n < 2
      · have hk0 : keepB (d, n) = false := by unfold keepB; simp; omega
        have e1 := keep_no hk0 lk
        have e2 : knownB (lk ++ [(d, n)]) = knownB lk := by rw [known_snoc]; simp; omega
        rw [← HT.out] at e1 e2
        rw [← e1] at HV
        have E2 := Lib.hid e2
        clear e1 e2 hk0 HX
        go_wp2
        go_roundw
        case rel => exact ⟨k + 1, hlt, by go_num, bool_val E2.out.symm, HV, HB⟩
        case measure => simp [intOf]; omega
      by_cases h2 : 127 < n
      · have hk0 : keepB (d, n) = false := by unfold keepB; simp; omega
        have e1 := keep_no hk0 lk
        have e2 : knownB (lk ++ [(d, n)]) = false := by rw [known_snoc]; simp; omega
        rw [← HT.out] at e1 e2
        rw [← e1] at HV
        have E2 := Lib.hid e2
        clear e1 e2 hk0 HX
        go_wp2
        go_roundw
        case rel => exact ⟨k + 1, hlt, by go_num, bool_val E2.out.symm, HV, HB⟩
        case measure => simp [intOf]; omega
      have hk0 : keepB (d, n) = true := by unfold keepB; simp; omega
      have e1 := keep_yes hk0 lk
      have e2 : knownB (lk ++ [(d, n)]) = knownB lk := by rw [known_snoc]; simp; omega
      rw [← HT.out] at e1 e2
      have E1 := Lib.hid e1
      have E2 := Lib.hid e2
      clear e1 e2 hk0
      generalize keep lk = kl at *
      have HLA := Lib.hid (HV.out.below (balloc (Below.refl _ W) (.cells (cellsS (d, n)) 45)))
      have HBA := Lib.hid (balloc HB.out (.cells (cellsS (d, n)) 45))
      go_upto_region 10 with (first | (refine wpList_builtK rfl 45 _ rfl (cellsS (d, n)) (by kernel_rfl) ?_) | (refine bs_one rfl _ rfl (m := (d, n)) rfl ?_) | (at_builtin; refine app_one rfl _ _ rfl w.heap.size _ kl (d, n) W.heap.size 1 rfl HLA.out rfl (cells_new (d, n) W) HC.out HBA.out.size ?_))
      intro v' w' hl2 hb _
      have HV : Hid (Lst w.heap.size w' v' (keep (els l (k + 1)))) := Lib.hid (by rw [E1.out]; exact hl2)
      have HB := Lib.hid (HBA.out.trans hb)
      clear hl2 hb HLA HBA HX c0 c2
      go_wp2
      go_roundw
      case rel => exact ⟨k + 1, hlt, by go_num, bool_val E2.out.symm, HV, HB⟩
      case measure => simp [intOf]; omega
    · obtain rfl : k = l.length := by omega
      rw [els_all] at HV
      go_wp2
      go_ret2
      exact AnsF.of (by rw [els_all]) HV.out HB.out
/-- The answer of Get: Subs (the list is the call's own), whether none must be known, an error. -/
def AnsS (p : List El × Bool × Int) (w : World) (e : Ending) (w' : World) : Prop :=
  ∃ a c, e = .returned (.tuple #[.slice a p.1.length c, .bool p.2.1, .int .i64 p.2.2]) ∧ Lst w.heap.size w' (.slice a p.1.length c) p.1 ∧ Below w.heap.size w w'
theorem AnsS.no {p : List El × Bool × Int} {w w' : World} {d : Int} (h : p = ([], false, d)) (hb : Below w.heap.size w w') : AnsS p w (.returned (.tuple #[.slice none 0 0, .bool false, .int .i64 d])) w' := by
  subst h
  exact ⟨none, 0, rfl, Lst.nil _ _, hb⟩
theorem AnsS.yes {p : List El × Bool × Int} {w w' : World} {a : Option Addr} {c n : Nat} {l : List El} {k : Bool} (h : p = (l, k, 0)) (hn : l.length = n) (hl : Lst w.heap.size w' (.slice a n c) l) (hb : Below w.heap.size w w') : AnsS p w (.returned (.tuple #[.slice a n c, .bool k, .int .i64 0])) w' := by
  subst h hn
  exact ⟨a, c, rfl, hl, hb⟩
set_option maxHeartbeats 3200000 in
theorem get_own (s : ByteArray) (w : World) (hs : s.size ≤ 100000) : Calls Tryz.prog 66 #[.string s] w (AnsS (outS s) w) := by
  have P1 := Lib.hid (split_own s 0 w hs (by omega) (by omega))
  rcases outS_cases s with ⟨l, ho, he, e, hk⟩ | ⟨p, e, hk⟩
  rotate_left
  · have HY := Lib.hid hk
    rw [e] at P1
    clear e hk hs
    go_enter Tryz.func66, Tryz.ntmps66
    go_wp2_with fail
    refine P1.out.mono ?_
    rintro r w1 ⟨a1, c1, rfl, h1, hb⟩
    have HB := Lib.hid hb
    clear h1 hb P1
    dsimp only [List.length_nil]
    go_wp2
    go_ret3
    exact AnsS.no HY.out HB.out
  have HZ := size_of he
  have hls := len_le l
  have HS := Lib.hid (show l.length ≤ 100000 by omega)
  have HQ := Lib.hid (show bytesN (keep l) ≤ 100000 by have := keep_size l; omega)
  have HK := Lib.hid (show (keep l).length ≤ 100000 by have := keep_len l; omega)
  have HP := Lib.hid (show (placed 0 l).length ≤ 100000 by rw [placed_len]; omega)
  have HD := Lib.hid (placed_snd l 0)
  have HY := Lib.hid hk
  rw [e] at P1
  clear e hk hs ho he HZ hls
  go_enter Tryz.func66, Tryz.ntmps66
  go_wp2_with fail
  refine P1.out.mono ?_
  rintro r w1 ⟨a1, c1, rfl, h1, hb⟩
  have P2 := Lib.hid (sift_any a1 c1 (placed 0 l) w1 h1.row HP.out)
  rw [HD.out] at P2
  have HB := Lib.hid hb
  clear h1 hb P1
  dsimp only
  generalize (placed 0 l).length = np at *
  go_wp2_with fail
  refine P2.out.mono ?_
  rintro r w2 ⟨a2, c2, rfl, h2, hb⟩
  have HL := Lib.hid (lst_mono h2 HB.out.size)
  have HB := Lib.hid (bcall HB.out hb)
  have P3 := Lib.hid (bytes_any a2 c2 (keep l) w2 h2.row (by have := HK.out; omega) (by have := HQ.out; omega))
  clear h2 hb P2
  have HE := HY.out
  clear HY
  rcases HE with ⟨hq, e⟩ | ⟨hq, e⟩
  · have HY := Lib.hid e
    have hq2 : ((bytesN (keep l) : Nat) : Int) ≤ 200 := by omega
    clear hq e
    generalize ((bytesN (keep l) : Nat) : Int) = n at *
    generalize hg : keep l = kl at *
    clear hg
    go_wp2_with fail
    refine P3.out.mono ?_
    rintro r w3 ⟨rfl, hb⟩
    have HL := Lib.hid (HL.out.below hb)
    have HB := Lib.hid (bcall HB.out hb)
    clear hb P3
    go_wp2
    go_ret3
    exact AnsS.yes HY.out rfl HL.out HB.out
  · have HY := Lib.hid e
    have hq2 : 200 < ((bytesN (keep l) : Nat) : Int) := by omega
    clear hq e
    generalize ((bytesN (keep l) : Nat) : Int) = n at *
    generalize hg : keep l = kl at *
    clear hg
    go_wp2_with fail
    refine P3.out.mono ?_
    rintro r w3 ⟨rfl, hb⟩
    have HB := Lib.hid (bcall HB.out hb)
    clear hb P3 HL
    go_wp2
    go_ret3
    exact AnsS.no HY.out HB.out
end Go.Proofs.YteecialdkfaejaaGreatDoor.S5
namespace Go.Proofs.YteecialdkfaejaaGreatDoor.J5
open Go.ChangeShapes Go.WideShapes Go.ChangeAt Go.RowKit
open Go.Proofs.YteecialdkfaejaaGreatDoor.Ms
open Go.Proofs.YteecialdkfaejaaGreatDoor.Box
open Go.Proofs.YteecialdkfaejaaGreatDoor.S1
open Go.Proofs.YteecialdkfaejaaGreatDoor.S5 (AnsS)
open Go.Proofs.YteecialdkfaejaaGreatDoor.Nu
open Go.Proofs.YteecialdkfaejaaGreatDoor.J1
open Go.Proofs.YteecialdkfaejaaGreatDoor.J2
open Go.Proofs.YteecialdkfaejaaGreatDoor.J4
open Go.Proofs.YteecialdkfaejaaGreatDoor.Rg
open Go.Proofs.YteecialdkfaejaaGreatDoor.An
open Go.Proofs.YteecialdkfaejaaGreatDoor.Tc
open Go.Proofs.YteecialdkfaejaaGreatDoor.F1 (bt bt_nn bt_lt num_one)
open Go.Proofs.YteecialdkfaejaaGreatDoor.Cur (numL)
open Go.Proofs.YteecialdkfaejaaGreatDoor.Bk (Bk Sh loadVarK wpList_builtK wpList_loadK wpList_storeK alloc_size)
open Go.Proofs.YteecialdkfaejaaGreatDoor.Hs
set_option linter.unusedVariables false
set_option maxRecDepth 100000
set_option maxRecDepth 100000
theorem nx_was {s : ByteArray} {k : Nat} {p : Nat × Bool} (h : (nx s k p).2 = false) : p.2 = false ∧ p.1 + k ≤ s.size ∧ nx s k p = (p.1 + k, false) := by
  obtain ⟨a, y⟩ := p
  cases y with
  | true => rw [nx_bad (s := s) (k := k) (p := (a, true)) rfl] at h; cases h
  | false =>
    by_cases hk : a + k ≤ s.size
    · exact ⟨rfl, hk, nx_yes hk⟩
    · rw [nx_no hk] at h; cases h
theorem at1 {s : ByteArray} {a : Nat} (h : a + 1 ≤ s.size) : rdV s (a, false) 1 = bt s a := (v_yes h).trans (num_one s a h)
theorem at2 {s : ByteArray} {a : Nat} (h : a + 2 ≤ s.size) : rdV s (a, false) 2 = num2 s a := v_yes h
/-- What update answers. -/
def pU (s : ByteArray) : Nat × Bool := nx s 2 (nx s 2 (nx s 2 (nx s 1 (nx s 1 (nx s 1 (nx s 1 (0, false)))))))
theorem isU (s : ByteArray) : (s.size < 10 → (pU s).2 = true) ∧ (¬ s.size < 10 → pU s = (10, false) ∧ R8 s = hdK s) := by
  refine ⟨fun h => ?_, fun h => ?_⟩
  · cases e : (pU s).2
    · have e : (nx s 2 (nx s 2 (nx s 2 (nx s 1 (nx s 1 (nx s 1 (nx s 1 (0, false)))))))).2 = false := e
      obtain ⟨f6, g6, _⟩ := nx_was e
      obtain ⟨f5, g5, w5⟩ := nx_was f6
      obtain ⟨f4, g4, w4⟩ := nx_was f5
      obtain ⟨f3, g3, w3⟩ := nx_was f4
      obtain ⟨f2, g2, w2⟩ := nx_was f3
      obtain ⟨f1, g1, w1⟩ := nx_was f2
      obtain ⟨_, g0, w0⟩ := nx_was f1
      rw [w5] at g6
      rw [w4] at g6
      rw [w3] at g6
      rw [w2] at g6
      rw [w1] at g6
      rw [w0] at g6
      simp only [] at g6
      omega
    · rfl
  · have e1 : nx s 1 (0, false) = (1, false) := nx_yes (by omega)
    have e2 : nx s 1 (1, false) = (2, false) := nx_yes (by omega)
    have e3 : nx s 1 (2, false) = (3, false) := nx_yes (by omega)
    have e4 : nx s 1 (3, false) = (4, false) := nx_yes (by omega)
    have e5 : nx s 2 (4, false) = (6, false) := nx_yes (by omega)
    have e6 : nx s 2 (6, false) = (8, false) := nx_yes (by omega)
    have e7 : nx s 2 (8, false) = (10, false) := nx_yes (by omega)
    refine ⟨?_, ?_⟩
    · show nx s 2 (nx s 2 (nx s 2 (nx s 1 (nx s 1 (nx s 1 (nx s 1 (0, false))))))) = (10, false)
      rw [e1, e2, e3, e4, e5, e6, e7]
    · unfold R8 hdK
      rw [e1, e2, e3, e4, e5, e6, at1 (by omega), at1 (by omega), at1 (by omega), at1 (by omega), at2 (by omega), at2 (by omega), at2 (by omega)]
/-- The cells of what stands behind the fields. -/
def cellsN (x : En) (sa : Option Addr) (sc : Nat) : Array Value := #[.string x.bytes, .slice sa x.sl.length sc, .bool x.known]
theorem oneN (x : En) (sa : Option Addr) (sc : Nat) : ((cellsN x sa sc).all fun x => x.oneCell') = true := by simp [cellsN, Value.oneCell']
theorem shN : Sh Tryz.prog 108 3 := ⟨_, Tryz.underlying108, by kernel_rfl⟩
theorem wpList_storeN {ops : Array Oper} {rest : List Oper} {o : Oper} {a : Act} {w : World} {Q : Exit → Act → World → Prop} (hgd : o.guard = none) (x y : Operand) (ho : o.op = .store 108 x y) {b : Nat} (hx : a.eval x = .pointer (some ⟨b, 0, none⟩)) (m' : En) (sa : Option Addr) (sc : Nat) {m : En} {sa0 : Option Addr} {sc0 : Nat} (hy : a.eval y = .agg (cellsN m' sa sc)) (hb : Bk 108 w b (cellsN m sa0 sc0))
    (h : wpList Tryz.prog ops Q rest (a.put o.dst undef) (w.setRow b (cellsN m' sa sc))) : wpList Tryz.prog ops Q (o :: rest) a w := wpList_storeK shN hgd x y ho hx hy hb rfl rfl (oneN m' sa sc) h
/-- What ending answers. -/
def AnsE (o : En × Bool × Int) (b : Nat) (w : World) (e : Ending) (w' : World) : Prop :=
  ∃ sa sc, e = .returned (.tuple #[.agg (cellsN o.1 sa sc), .bool o.2.1, .int .i64 o.2.2]) ∧ Sx.Lst w.heap.size w' (.slice sa o.1.sl.length sc) o.1.sl ∧ Bel w.heap.size b w w'
theorem AnsE.no {o : En × Bool × Int} {b : Nat} {w w' : World} {d : Int} (h : o = (En.zero, false, d)) (hb : Bel w.heap.size b w w') : AnsE o b w (.returned (.tuple #[.agg (cellsN En.zero none 0), .bool false, .int .i64 d])) w' := by
  subst h
  exact ⟨none, 0, rfl, Sx.Lst.nil _ _, hb⟩
theorem AnsE.yes {o : En × Bool × Int} {b B : Nat} {w w' : World} {x : En} {sa : Option Addr} {sc : Nat} (h : o = (x, true, 0)) (hl : Sx.Lst B w' (.slice sa x.sl.length sc) x.sl) (hB : w.heap.size ≤ B) (hb : Bel w.heap.size b w w') : AnsE o b w (.returned (.tuple #[.agg (cellsN x sa sc), .bool true, .int .i64 0])) w' := by
  subst h
  exact ⟨sa, sc, rfl, lst_mono hl hB, hb⟩
set_option maxHeartbeats 6400000 in
theorem ending_bad (s : ByteArray) (a b : Nat) (ae p om : Int) (o : En × Bool × Int) (ho : o = (En.zero, false, 2)) (w : World) (hb : Bk 105 w b (cu s (a, true))) :
    Calls Tryz.prog 86 #[.pointer (some ⟨b, 0, none⟩), .int .i64 ae, .int .i64 p, .int .i64 om] w (AnsE o b w) := by
  have HY := Lib.hid ho
  have HR := Lib.hid hb
  clear ho hb
  go_enter Tryz.func86, Tryz.ntmps86
  go_upto_region 1 with fail
  change Code.wp _ _ _ _ (w.alloc (.cells (cellsN En.zero none 0) 108))
  have hz := alloc_size w (.cells (cellsN En.zero none 0) 108)
  have X0 := Lib.hid (Bk.Bk.new 108 w (cellsN En.zero none 0))
  have HL := Lib.hid (show Bel w.heap.size b w (w.alloc (.cells (cellsN En.zero none 0) 108)) from Bel.of (balloc (Below.refl _ w) _))
  have R0 := Lib.hid (HR.out.old (.cells (cellsN En.zero none 0) 108))
  have hlt := HR.out.lt
  clear HR
  generalize w.alloc (.cells (cellsN En.zero none 0) 108) = W at *
  have c3 := R0.out.cell 3 (.bool true) rfl
  go_wp2_with (first | (refine wpList_builtK rfl 108 _ rfl (cellsN En.zero none 0) (by kernel_rfl) ?_) | (refine wpList_storeN (b := w.heap.size) rfl _ _ rfl rfl En.zero none 0 (m := En.zero) rfl X0.out ?_))
  exact bodyPost_ret (v := .tuple #[.agg (cellsN En.zero none 0), .bool false, .int .i64 2]) (results_three rfl _ _ w.heap.size _ rfl (loadVarK shN (X0.out.put (cellsN En.zero none 0)) rfl) (.bool false) rfl (.int .i64 2) rfl) rfl (AnsE.no HY.out (HL.out.row (Nat.le_refl _) _))
set_option maxHeartbeats 12800000 in
theorem ending_any (s : ByteArray) (z b : Nat) (ae p om : Int) (hs : s.size ≤ 100000) (hz1 : z ≤ s.size) (h0 : 0 ≤ ae) (h1 : 0 ≤ om) (h2 : om ≤ 255) (w : World) (hb : Bk 105 w b (cu s (z, false))) (ht : Tab w) (hb0 : 1 < b) :
    Calls Tryz.prog 86 #[.pointer (some ⟨b, 0, none⟩), .int .i64 ae, .int .i64 p, .int .i64 om] w (AnsE (endE s z ae p om) b w) := by
  have hm : s.size ≤ maxLen := by unfold maxLen; omega
  have hzz : ¬ s.size < z := by omega
  have HR := Lib.hid hb
  have HT := Lib.hid ht
  have PA := Lib.hid (fun V => ae_any ae V)
  have PN := Lib.hid (fun V (h : Tab V) => length_any ae p V h)
  have hw0 := ht.pos
  clear hb ht
  by_cases k : 3 < ae
  · have HY := Lib.hid (end_none (p := p) (om := om) hzz k)
    rw [decide_eq_false (by omega)] at PA
    generalize endE s z ae p om = o at *
    go_enter Tryz.func86, Tryz.ntmps86
    go_upto_region 1 with fail
    change Code.wp _ _ _ _ (w.alloc (.cells (cellsN En.zero none 0) 108))
    have hz := alloc_size w (.cells (cellsN En.zero none 0) 108)
    have X0 := Lib.hid (Bk.Bk.new 108 w (cellsN En.zero none 0))
    have HL := Lib.hid (show Bel w.heap.size b w (w.alloc (.cells (cellsN En.zero none 0) 108)) from Bel.of (balloc (Below.refl _ w) _))
    have R0 := Lib.hid (HR.out.old (.cells (cellsN En.zero none 0) 108))
    have hlt := HR.out.lt
    clear HR
    generalize w.alloc (.cells (cellsN En.zero none 0) 108) = W at *
    have c3 := R0.out.cell 3 (.bool false) rfl
    go_wp2_with fail
    refine (PA.out _).mono ?_
    rintro e w' ⟨rfl, rfl⟩
    go_wp2_with (first | (refine wpList_builtK rfl 108 _ rfl (cellsN En.zero none 0) (by kernel_rfl) ?_) | (refine wpList_storeN (b := w.heap.size) rfl _ _ rfl rfl En.zero none 0 (m := En.zero) rfl X0.out ?_))
    exact bodyPost_ret (v := .tuple #[.agg (cellsN En.zero none 0), .bool false, .int .i64 0]) (results_three rfl _ _ w.heap.size _ rfl (loadVarK shN (X0.out.put (cellsN En.zero none 0)) rfl) (.bool false) rfl (.int .i64 0) rfl) rfl (AnsE.no HY.out (HL.out.row (Nat.le_refl _) _))
  rw [decide_eq_true (by omega)] at PA
  cases g1 : lenB ae p
  · have HY := Lib.hid (end_range (om := om) hzz k (.inl g1))
    rw [g1] at PN
    clear g1
    generalize endE s z ae p om = o at *
    go_enter Tryz.func86, Tryz.ntmps86
    go_upto_region 1 with fail
    change Code.wp _ _ _ _ (w.alloc (.cells (cellsN En.zero none 0) 108))
    have hz := alloc_size w (.cells (cellsN En.zero none 0) 108)
    have X0 := Lib.hid (Bk.Bk.new 108 w (cellsN En.zero none 0))
    have HL := Lib.hid (show Bel w.heap.size b w (w.alloc (.cells (cellsN En.zero none 0) 108)) from Bel.of (balloc (Below.refl _ w) _))
    have R0 := Lib.hid (HR.out.old (.cells (cellsN En.zero none 0) 108))
    have hlt := HR.out.lt
    clear HR
    generalize w.alloc (.cells (cellsN En.zero none 0) 108) = W at *
    have c3 := R0.out.cell 3 (.bool false) rfl
    go_wp2_with fail
    refine (PA.out _).mono ?_
    rintro e w' ⟨rfl, rfl⟩
    go_wp2_with fail
    refine (PN.out _ (HL.out.tab hw0 hb0 HT.out)).mono ?_
    rintro e w' ⟨rfl, rfl⟩
    go_wp2_with (first | (refine wpList_builtK rfl 108 _ rfl (cellsN En.zero none 0) (by kernel_rfl) ?_) | (refine wpList_storeN (b := w.heap.size) rfl _ _ rfl rfl En.zero none 0 (m := En.zero) rfl X0.out ?_))
    exact bodyPost_ret (v := .tuple #[.agg (cellsN En.zero none 0), .bool false, .int .i64 6]) (results_three rfl _ _ w.heap.size _ rfl (loadVarK shN (X0.out.put (cellsN En.zero none 0)) rfl) (.bool false) rfl (.int .i64 6) rfl) rfl (AnsE.no HY.out (HL.out.row (Nat.le_refl _) _))
  rw [g1] at PN
  have PC := Lib.hid (fun V => count_any ae p V g1)
  have hc16 := (count_le g1).1
  by_cases g2 : (countN ae p : Int) < om
  · have HY := Lib.hid (end_range hzz k (.inr g2))
    clear g1
    generalize endE s z ae p om = o at *
    generalize countN ae p = c at *
    go_enter Tryz.func86, Tryz.ntmps86
    go_upto_region 1 with fail
    change Code.wp _ _ _ _ (w.alloc (.cells (cellsN En.zero none 0) 108))
    have hz := alloc_size w (.cells (cellsN En.zero none 0) 108)
    have X0 := Lib.hid (Bk.Bk.new 108 w (cellsN En.zero none 0))
    have HL := Lib.hid (show Bel w.heap.size b w (w.alloc (.cells (cellsN En.zero none 0) 108)) from Bel.of (balloc (Below.refl _ w) _))
    have R0 := Lib.hid (HR.out.old (.cells (cellsN En.zero none 0) 108))
    have hlt := HR.out.lt
    clear HR
    generalize w.alloc (.cells (cellsN En.zero none 0) 108) = W at *
    have c3 := R0.out.cell 3 (.bool false) rfl
    go_wp2_with fail
    refine (PA.out _).mono ?_
    rintro e w' ⟨rfl, rfl⟩
    go_wp2_with fail
    refine (PN.out _ (HL.out.tab hw0 hb0 HT.out)).mono ?_
    rintro e w' ⟨rfl, rfl⟩
    go_wp2_with fail
    refine (PC.out _).mono ?_
    rintro e w' ⟨rfl, rfl⟩
    go_wp2_with (first | (refine wpList_builtK rfl 108 _ rfl (cellsN En.zero none 0) (by kernel_rfl) ?_) | (refine wpList_storeN (b := w.heap.size) rfl _ _ rfl rfl En.zero none 0 (m := En.zero) rfl X0.out ?_))
    exact bodyPost_ret (v := .tuple #[.agg (cellsN En.zero none 0), .bool false, .int .i64 6]) (results_three rfl _ _ w.heap.size _ rfl (loadVarK shN (X0.out.put (cellsN En.zero none 0)) rfl) (.bool false) rfl (.int .i64 6) rfl) rfl (AnsE.no HY.out (HL.out.row (Nat.le_refl _) _))
  obtain ⟨n, hn⟩ : ∃ n, countN ae p - om.toNat = n := ⟨_, rfl⟩
  have hr : restN z ae p om = z + n := by unfold restN; rw [hn]
  have hni : (countN ae p : Int) - om = (n : Int) := by omega
  have hw : wrap64 ((countN ae p : Int) - om) = (n : Int) := by rw [IntWalk.wrap64_in _ ⟨by omega, by omega⟩, hni]
  have PT := Lib.hid (fun V (h : Bk 105 V b (cu s (z, false))) => rdtext s (z, false) n b n rfl hm hz1 V h)
  by_cases c2 : s.size < z + n
  · have HY := Lib.hid (end_cut hzz k g1 g2 (by rw [hr]; exact c2))
    rw [nx_no (by omega)] at PT
    clear g1 hr hn
    generalize endE s z ae p om = o at *
    generalize countN ae p = c at *
    generalize rdT s (z, false) n = tx at *
    go_enter Tryz.func86, Tryz.ntmps86
    go_upto_region 1 with fail
    change Code.wp _ _ _ _ (w.alloc (.cells (cellsN En.zero none 0) 108))
    have hz := alloc_size w (.cells (cellsN En.zero none 0) 108)
    have X0 := Lib.hid (Bk.Bk.new 108 w (cellsN En.zero none 0))
    have HL := Lib.hid (show Bel w.heap.size b w (w.alloc (.cells (cellsN En.zero none 0) 108)) from Bel.of (balloc (Below.refl _ w) _))
    have R0 := Lib.hid (HR.out.old (.cells (cellsN En.zero none 0) 108))
    have hlt := HR.out.lt
    clear HR
    generalize w.alloc (.cells (cellsN En.zero none 0) 108) = W at *
    have c3 := R0.out.cell 3 (.bool false) rfl
    go_wp2_with fail
    refine (PA.out _).mono ?_
    rintro e w' ⟨rfl, rfl⟩
    go_wp2_with fail
    refine (PN.out _ (HL.out.tab hw0 hb0 HT.out)).mono ?_
    rintro e w' ⟨rfl, rfl⟩
    go_wp2_with fail
    refine (PC.out _).mono ?_
    rintro e w' ⟨rfl, rfl⟩
    go_wp2_with fail
    refine (PC.out _).mono ?_
    rintro e w' ⟨rfl, rfl⟩
    go_wp2_with fail
    refine (PT.out _ R0.out).mono ?_
    rintro e w2 ⟨rfl, hr2, hbel⟩
    have X0 := Lib.hid (hbel.bk (by omega) X0.out)
    have hWs := HL.out.size
    have HL := Lib.hid (HL.out.trans (hbel.mono (by omega)))
    have R0 := Lib.hid hr2
    clear hr2 hbel c3 PT
    have c3 := R0.out.cell 3 (.bool true) rfl
    go_wp2_with (first | (refine wpList_builtK rfl 108 _ rfl (cellsN En.zero none 0) (by kernel_rfl) ?_) | (refine wpList_storeN (b := w.heap.size) rfl _ _ rfl rfl En.zero none 0 (m := En.zero) rfl X0.out ?_))
    exact bodyPost_ret (v := .tuple #[.agg (cellsN En.zero none 0), .bool false, .int .i64 2]) (results_three rfl _ _ w.heap.size _ rfl (loadVarK shN (X0.out.put (cellsN En.zero none 0)) rfl) (.bool false) rfl (.int .i64 2) rfl) rfl (AnsE.no HY.out (HL.out.row (Nat.le_refl _) _))
  have hle : z + n ≤ s.size := by omega
  rw [nx_yes hle, t_yes hle] at PT
  have PR := Lib.hid (fun V r => rest_any s (z + n) b hm hle V r)
  have PS := Lib.hid (fun V => S5.get_own (s.extract (z + n) s.size) V (by simp; omega))
  obtain ⟨⟨l, kn, er⟩, ho⟩ : ∃ q, outS (s.extract (z + n) s.size) = q := ⟨_, rfl⟩
  rw [ho] at PS
  rw [← hr] at ho
  by_cases he : er = 0
  rotate_left
  · have HY := Lib.hid (end_sub hzz k g1 g2 (by rw [hr]; exact c2) ho he)
    have e1 : (er == 0) = false := by simpa using he
    have e2 : (er != 0) = true := by rw [bne, e1]; rfl
    clear g1 hr hn ho he
    generalize endE s z ae p om = o at *
    generalize countN ae p = c at *
    generalize s.extract z (z + n) = tx at *
    generalize s.extract (z + n) s.size = rx at *
    go_enter Tryz.func86, Tryz.ntmps86
    go_upto_region 1 with fail
    change Code.wp _ _ _ _ (w.alloc (.cells (cellsN En.zero none 0) 108))
    have hz := alloc_size w (.cells (cellsN En.zero none 0) 108)
    have X0 := Lib.hid (Bk.Bk.new 108 w (cellsN En.zero none 0))
    have HL := Lib.hid (show Bel w.heap.size b w (w.alloc (.cells (cellsN En.zero none 0) 108)) from Bel.of (balloc (Below.refl _ w) _))
    have R0 := Lib.hid (HR.out.old (.cells (cellsN En.zero none 0) 108))
    have hlt := HR.out.lt
    clear HR
    generalize w.alloc (.cells (cellsN En.zero none 0) 108) = W at *
    have c3 := R0.out.cell 3 (.bool false) rfl
    go_wp2_with fail
    refine (PA.out _).mono ?_
    rintro e w' ⟨rfl, rfl⟩
    go_wp2_with fail
    refine (PN.out _ (HL.out.tab hw0 hb0 HT.out)).mono ?_
    rintro e w' ⟨rfl, rfl⟩
    go_wp2_with fail
    refine (PC.out _).mono ?_
    rintro e w' ⟨rfl, rfl⟩
    go_wp2_with fail
    refine (PC.out _).mono ?_
    rintro e w' ⟨rfl, rfl⟩
    go_wp2_with fail
    refine (PT.out _ R0.out).mono ?_
    rintro e w2 ⟨rfl, hr2, hbel⟩
    have X0 := Lib.hid (hbel.bk (by omega) X0.out)
    have hWs := HL.out.size
    have HL := Lib.hid (HL.out.trans (hbel.mono (by omega)))
    have R0 := Lib.hid hr2
    clear hr2 hbel c3 PT
    have c3 := R0.out.cell 3 (.bool false) rfl
    go_wp2_with fail
    refine (PR.out _ R0.out).mono ?_
    rintro e w3 ⟨rfl, hr3, hbel⟩
    have hWs2 := X0.out.lt
    have X0 := Lib.hid (hbel.bk (by omega) X0.out)
    have hWs3 := HL.out.size
    have HL := Lib.hid (HL.out.trans (hbel.mono (by omega)))
    clear hr3 hbel c3 PR R0
    go_wp2_with fail
    refine (PS.out _).mono ?_
    rintro e w4 ⟨sa, sc, rfl, hl, hb⟩
    have hWs4 := X0.out.lt
    have hWs5 := HL.out.size
    have X0 := Lib.hid (X0.out.below hb)
    have HL := Lib.hid (HL.out.trans ((Bel.of hb).mono (by omega)))
    have HK := Lib.hid hl
    clear hb hl PS
    simp only [] at HK
    go_wp2_with (first | (refine wpList_builtK rfl 108 _ rfl (cellsN En.zero none 0) (by kernel_rfl) ?_) | (refine wpList_storeN (b := w.heap.size) rfl _ _ rfl rfl En.zero none 0 (m := En.zero) rfl X0.out ?_))
    exact bodyPost_ret (v := .tuple #[.agg (cellsN En.zero none 0), .bool false, .int .i64 er]) (results_three rfl _ _ w.heap.size _ rfl (loadVarK shN (X0.out.put (cellsN En.zero none 0)) rfl) (.bool false) rfl (.int .i64 er) rfl) rfl (AnsE.no HY.out (HL.out.row (Nat.le_refl _) _))
  subst he
  have HY := Lib.hid (end_yes hzz k g1 g2 (by rw [hr]; exact c2) ho)
  rw [hr] at HY
  clear g1 hr hn ho
  generalize endE s z ae p om = o at *
  generalize countN ae p = c at *
  generalize s.extract z (z + n) = tx at *
  generalize s.extract (z + n) s.size = rx at *
  go_enter Tryz.func86, Tryz.ntmps86
  go_upto_region 1 with fail
  change Code.wp _ _ _ _ (w.alloc (.cells (cellsN En.zero none 0) 108))
  have hz := alloc_size w (.cells (cellsN En.zero none 0) 108)
  have X0 := Lib.hid (Bk.Bk.new 108 w (cellsN En.zero none 0))
  have HL := Lib.hid (show Bel w.heap.size b w (w.alloc (.cells (cellsN En.zero none 0) 108)) from Bel.of (balloc (Below.refl _ w) _))
  have R0 := Lib.hid (HR.out.old (.cells (cellsN En.zero none 0) 108))
  have hlt := HR.out.lt
  clear HR
  generalize w.alloc (.cells (cellsN En.zero none 0) 108) = W at *
  have c3 := R0.out.cell 3 (.bool false) rfl
  go_wp2_with fail
  refine (PA.out _).mono ?_
  rintro e w' ⟨rfl, rfl⟩
  go_wp2_with fail
  refine (PN.out _ (HL.out.tab hw0 hb0 HT.out)).mono ?_
  rintro e w' ⟨rfl, rfl⟩
  go_wp2_with fail
  refine (PC.out _).mono ?_
  rintro e w' ⟨rfl, rfl⟩
  go_wp2_with fail
  refine (PC.out _).mono ?_
  rintro e w' ⟨rfl, rfl⟩
  go_wp2_with fail
  refine (PT.out _ R0.out).mono ?_
  rintro e w2 ⟨rfl, hr2, hbel⟩
  have X0 := Lib.hid (hbel.bk (by omega) X0.out)
  have hWs := HL.out.size
  have HL := Lib.hid (HL.out.trans (hbel.mono (by omega)))
  have R0 := Lib.hid hr2
  clear hr2 hbel c3 PT
  have c3 := R0.out.cell 3 (.bool false) rfl
  go_wp2_with fail
  refine (PR.out _ R0.out).mono ?_
  rintro e w3 ⟨rfl, hr3, hbel⟩
  have hWs2 := X0.out.lt
  have X0 := Lib.hid (hbel.bk (by omega) X0.out)
  have hWs3 := HL.out.size
  have HL := Lib.hid (HL.out.trans (hbel.mono (by omega)))
  clear hr3 hbel c3 PR R0
  go_wp2_with fail
  refine (PS.out _).mono ?_
  rintro e w4 ⟨sa, sc, rfl, hl, hb⟩
  have hWs4 := X0.out.lt
  have hWs5 := HL.out.size
  have X0 := Lib.hid (X0.out.below hb)
  have HL := Lib.hid (HL.out.trans ((Bel.of hb).mono (by omega)))
  have HK := Lib.hid hl
  clear hb hl PS
  simp only [] at HK
  go_wp2_with (first | (refine wpList_builtK rfl 108 _ rfl (cellsN ⟨tx, l, kn⟩ sa sc) (by kernel_rfl) ?_) | (refine wpList_storeN (b := w.heap.size) rfl _ _ rfl rfl ⟨tx, l, kn⟩ sa sc (m := En.zero) rfl X0.out ?_))
  exact bodyPost_ret (v := .tuple #[.agg (cellsN ⟨tx, l, kn⟩ sa sc), .bool true, .int .i64 0]) (results_three rfl _ _ w.heap.size _ rfl (loadVarK shN (X0.out.put (cellsN ⟨tx, l, kn⟩ sa sc)) rfl) (.bool true) rfl (.int .i64 0) rfl) rfl (AnsE.yes HY.out (lst_under HK.out hWs4 _) hWs5 (HL.out.row (Nat.le_refl _) _))
/-- Both. -/
theorem ending_is (s : ByteArray) (z b : Nat) (q : Nat × Bool) (ae p om : Int) (hs : s.size ≤ 100000) (hq : (s.size < z → q.2 = true) ∧ (¬ s.size < z → q = (z, false) ∧ 0 ≤ ae ∧ 0 ≤ om ∧ om ≤ 255)) (w : World) (hb : Bk 105 w b (cu s q)) (ht : Tab w) (hb0 : 1 < b) :
    Calls Tryz.prog 86 #[.pointer (some ⟨b, 0, none⟩), .int .i64 ae, .int .i64 p, .int .i64 om] w (AnsE (endE s z ae p om) b w) := by
  by_cases h : s.size < z
  · obtain ⟨a, y⟩ := q
    obtain rfl : y = true := hq.1 h
    exact ending_bad s a b ae p om _ (end_short h) w hb
  · obtain ⟨rfl, h0, h1, h2⟩ := hq.2 h
    exact ending_any s z b ae p om hs (by omega) h0 h1 h2 w hb ht hb0
end Go.Proofs.YteecialdkfaejaaGreatDoor.J5
namespace Go.Proofs.YteecialdkfaejaaGreatDoor.J6
open Go.ChangeShapes Go.WideShapes Go.ChangeAt Go.RowKit
open Go.Proofs.YteecialdkfaejaaGreatDoor.Ms
open Go.Proofs.YteecialdkfaejaaGreatDoor.Box
open Go.Proofs.YteecialdkfaejaaGreatDoor.S1
open Go.Proofs.YteecialdkfaejaaGreatDoor.J1
open Go.Proofs.YteecialdkfaejaaGreatDoor.J2
open Go.Proofs.YteecialdkfaejaaGreatDoor.J4
open Go.Proofs.YteecialdkfaejaaGreatDoor.J5
open Go.Proofs.YteecialdkfaejaaGreatDoor.Rg
open Go.Proofs.YteecialdkfaejaaGreatDoor.An
open Go.Proofs.YteecialdkfaejaaGreatDoor.Tc
open Go.Proofs.YteecialdkfaejaaGreatDoor.F1 (bt bt_nn bt_lt)
open Go.Proofs.YteecialdkfaejaaGreatDoor.Tl (cellsT)
open Go.Proofs.YteecialdkfaejaaGreatDoor.Cur (new_any)
open Go.Proofs.YteecialdkfaejaaGreatDoor.Bk (Bk loadVarK wpList_builtK alloc_size)
open Go.Proofs.YteecialdkfaejaaGreatDoor.Hs
set_option linter.unusedVariables false
set_option maxRecDepth 100000
set_option maxRecDepth 100000
theorem lst_cell {B : Nat} {w : World} {v u : Value} {l : List El} {p : Addr} (h : Sx.Lst B w v l) (hg : p.block < B) : Sx.Lst B (w.setCell p u) v l := by
  refine ⟨h.1, ?_⟩
  rcases h.2 with h | ⟨k, cap, cur, a, b, c, d⟩
  · exact .inl h
  · exact .inr ⟨k, cap, cur, a, b, (heap_setCell_other w p k u (by omega)).trans c, d⟩
/-- What Take answers: an Update (its Subs are the call's own), whether it is one, an error. -/
def AnsU (p : Up × Bool × Int) (w : World) (e : Ending) (w' : World) : Prop :=
  ∃ sa sc, e = .returned (.tuple #[.agg (Up.cells { p.1 with sa := sa, sc := sc }), .bool p.2.1, .int .i64 p.2.2]) ∧
    Sx.Lst w.heap.size w' (.slice sa p.1.sl.length sc) p.1.sl ∧ Below w.heap.size w w'
theorem AnsU.no {p : Up × Bool × Int} {w w' : World} {d : Int} (h : p = (Up.zero, false, d)) (hb : Below w.heap.size w w') : AnsU p w (.returned (.tuple #[.agg Up.zero.cells, .bool false, .int .i64 d])) w' := by
  subst h
  exact ⟨none, 0, rfl, Sx.Lst.nil _ _, hb⟩
theorem AnsU.yes {p : Up × Bool × Int} {w w' : World} {r : Up} {a : Option Addr} {l : List El} {c B : Nat} (h : p = ({ r with sl := l }, true, 0)) (hl : Sx.Lst B w' (.slice a l.length c) l) (hB : w.heap.size ≤ B) (hb : Below w.heap.size w w') :
    AnsU p w (.returned (.tuple #[.agg (Up.cells { r with sa := a, sl := l, sc := c }), .bool true, .int .i64 0])) w' := by
  subst h
  exact ⟨a, c, rfl, lst_mono hl hB, hb⟩
set_option maxHeartbeats 12800000 in
theorem take_own (a : Int) (s : ByteArray) (w : World) (hs : s.size ≤ 100000) (ht : Tab w) : Calls Tryz.prog 68 #[.agg (cellsT (a, (s, 8)))] w (AnsU (outK s) w) := by
  have hm : s.size ≤ maxLen := by unfold maxLen; omega
  have PF := Lib.hid (fun b V r => show Calls Tryz.prog 85 #[.pointer (some ⟨b, 0, none⟩)] V (Took (.agg (R8 s).cells) s (pU s) b V) from update_any s b hm V r)
  have HI := Lib.hid (isU s)
  have PE := Lib.hid (fun b V r q hb0 (hq : (s.size < 10 → (pU s).2 = true) ∧ (¬ s.size < 10 → pU s = (10, false) ∧ 0 ≤ bt s 0 ∧ 0 ≤ bt s 3 ∧ bt s 3 ≤ 255)) => ending_is s 10 b (pU s) (bt s 0) (bt s 2) (bt s 3) hs hq V r q hb0)
  have PZ := Lib.hid (fun b V r q hb0 (h : s.size < 10) => ending_is s 10 b (pU s) (R8 s).ae (R8 s).plen (R8 s).om hs ⟨fun _ => HI.out.1 h, fun k => absurd h k⟩ V r q hb0)
  have PN := Lib.hid (fun V => new_any s V hm)
  have h0 := ht.pos
  go_enter Tryz.func68, Tryz.ntmps68
  go_upto_region 1 with fail
  change Code.wp _ _ _ _ ((w.alloc (.cells (cellsT (a, (s, 8))) 27)).alloc (.cells Up.zero.cells 74))
  have hz := alloc_size w (.cells (cellsT (a, (s, 8))) 27)
  have X0 := Bk.Bk.new 74 (w.alloc (.cells (cellsT (a, (s, 8))) 27)) Up.zero.cells
  rw [hz] at X0
  have X0 := Lib.hid X0
  have T0 := Lib.hid ((Bk.Bk.new 27 w (cellsT (a, (s, 8)))).old (.cells Up.zero.cells 74))
  have HB := Lib.hid (balloc (balloc (Below.refl _ w) (.cells (cellsT (a, (s, 8))) 27)) (.cells Up.zero.cells 74))
  have HT := Lib.hid (ht.below HB.out)
  clear hz ht
  generalize (w.alloc (.cells (cellsT (a, (s, 8))) 27)).alloc (.cells Up.zero.cells 74) = W at *
  have c0 := T0.out.cell 0 (.int .i64 8) rfl
  have c2 := T0.out.cell 2 (.string s) rfl
  go_wp2_with fail
  refine (PN.out _).mono ?_
  rintro e w1 ⟨rfl, hb⟩
  have X0 := Lib.hid (X0.out.below hb)
  have HT := Lib.hid (HT.out.below hb)
  have HB := Lib.hid (bcall HB.out hb)
  clear hb c0 c2 PN T0
  go_upto_region 4 with fail
  change Code.wp _ _ _ _ (w1.alloc (.cells (cu s (0, false)) 105))
  have bel := balloc (Below.refl w1.heap.size w1) (.cells (cu s (0, false)) 105)
  have hlt := X0.out.lt
  have X0 := Lib.hid (X0.out.below bel)
  have HT := Lib.hid (HT.out.below bel)
  have HB := Lib.hid (bcall HB.out bel)
  have R0 := Lib.hid (Bk.Bk.new 105 w1 (cu s (0, false)))
  clear bel
  generalize w1.alloc (.cells (cu s (0, false)) 105) = W1 at *
  generalize w1.heap.size = b at *
  go_wp2_with fail
  refine (PF.out b _ R0.out).mono ?_
  rintro e w2 ⟨rfl, hr, hbel⟩
  have X0 := Lib.hid (hbel.bk (by omega) X0.out)
  have R0 := Lib.hid hr
  have hW1 := HB.out.size
  have hW2 := X0.out.lt
  have HB := Lib.hid (HB.out.trans (hbel.to (C := w.heap.size) (by omega) (by omega)))
  have HT := Lib.hid (hbel.tab (by omega) (by omega) HT.out)
  clear hr hbel PF
  go_upto_region 5 with (refine wpList_storeU (b := w2.heap.size) (m := Up.zero) (m' := R8 s) rfl _ _ rfl rfl rfl (Bk.Bk.new 74 w2 Up.zero.cells) ?_)
  change Code.wp _ _ _ _ ((w2.alloc (.cells Up.zero.cells 74)).setRow w2.heap.size (R8 s).cells)
  rw [World.setRow_alloc_new]
  have bel := balloc (Below.refl w2.heap.size w2) (.cells (R8 s).cells 74)
  have hlt2 := R0.out.lt
  have X0 := Lib.hid (X0.out.below bel)
  have R0 := Lib.hid (R0.out.below bel)
  have HT := Lib.hid (HT.out.below bel)
  have HB := Lib.hid (bcall HB.out bel)
  have XM := Lib.hid (Bk.Bk.new 74 w2 (R8 s).cells)
  clear bel
  generalize w2.alloc (.cells (R8 s).cells 74) = V at *
  generalize w2.heap.size = g at *
  by_cases hsz : s.size < 10
  · have HY := Lib.hid (outK_no (d := s) (end_short hsz))
    have PZ := Lib.hid (fun b V r q hb0 => PZ.out b V r q hb0 hsz)
    rw [end_short hsz] at PZ
    clear PE HI hsz
    generalize R8 s = x at *
    have c0 := XM.out.cell 0 (.int .i64 x.ae) rfl
    have c2 := XM.out.cell 2 (.int .i64 x.plen) rfl
    have c3 := XM.out.cell 3 (.int .i64 x.om) rfl
    have XM0 := XM
    go_wp2_with fail
    refine (PZ.out b _ R0.out HT.out (by omega)).mono ?_
    rintro e w3 ⟨sa, sc, rfl, hl, hbel⟩
    have X0 := Lib.hid (hbel.bk (by omega) X0.out)
    have XM := Lib.hid (hbel.bk (by omega) XM.out)
    have hV1 := HB.out.size
    have HB := Lib.hid (HB.out.trans (hbel.to (C := w.heap.size) (by omega) (by omega)))
    have HL := Lib.hid hl
    have hV := XM0.out.lt
    have hx3 := X0.out.lt
    have hm3 := XM.out.lt
    clear hl hbel R0 HT XM0 c0 c2 c3
    go_upto_region 6 with (refine wpList_storeN (b := w3.heap.size) rfl _ _ rfl rfl En.zero sa sc (m := En.zero) (sa0 := none) (sc0 := 0) rfl (Bk.Bk.new 108 w3 (cellsN En.zero none 0)) ?_)
    change Code.wp _ _ _ _ ((w3.alloc (.cells (cellsN En.zero none 0) 108)).setRow w3.heap.size (cellsN En.zero sa sc))
    rw [World.setRow_alloc_new]
    have bel := balloc (Below.refl w3.heap.size w3) (.cells (cellsN En.zero sa sc) 108)
    have X0 := Lib.hid (X0.out.below bel)
    have XM := Lib.hid (XM.out.below bel)
    have HL := Lib.hid (HL.out.below bel)
    have HB := Lib.hid (bcall HB.out bel)
    have XE := Lib.hid (Bk.Bk.new 108 w3 (cellsN En.zero sa sc))
    clear bel
    generalize w3.alloc (.cells (cellsN En.zero sa sc) 108) = V3 at *
    generalize w3.heap.size = ge at *
    go_wp2_with (first | (refine wpList_builtK rfl 74 _ rfl (Up.cells Up.zero) (by kernel_rfl) ?_) | (refine wpList_storeU (b := w.heap.size + 1) (m := Up.zero) (m' := Up.zero) rfl _ _ rfl rfl rfl X0.out ?_))
    exact bodyPost_ret (v := .tuple #[.agg Up.zero.cells, .bool false, .int .i64 2]) (results_three rfl _ _ (w.heap.size + 1) _ rfl (loadVarK shU (X0.out.put (Up.cells Up.zero)) rfl) (.bool false) rfl (.int .i64 2) rfl) rfl (AnsU.no HY.out (Box.below_setRow HB.out (by omega) _))
  obtain ⟨hq, hR⟩ := HI.out.2 hsz
  have PE := Lib.hid (fun b V r q hb0 => PE.out b V r q hb0 ⟨fun k => absurd k hsz, fun _ => ⟨hq, bt_nn s 0, bt_nn s 3, by have := bt_lt s 3; omega⟩⟩)
  rw [hR] at XM
  have E0 := Lib.hid (show (hdK s).ae = bt s 0 from rfl)
  have E2 := Lib.hid (show (hdK s).plen = bt s 2 from rfl)
  have E3 := Lib.hid (show (hdK s).om = bt s 3 from rfl)
  clear PZ HI hq hR
  have c0 := XM.out.cell 0 (.int .i64 (hdK s).ae) rfl
  have c2 := XM.out.cell 2 (.int .i64 (hdK s).plen) rfl
  have c3 := XM.out.cell 3 (.int .i64 (hdK s).om) rfl
  rw [E0.out] at c0
  rw [E2.out] at c2
  rw [E3.out] at c3
  have XM0 := XM
  rcases end_cases s 10 (bt s 0) (bt s 2) (bt s 3) with ⟨er, hE⟩ | ⟨y, hE⟩
  · have HY := Lib.hid (outK_no (d := s) hE)
    rw [hE] at PE
    clear hE
    generalize hdK s = x at *
    generalize bt s 0 = y0 at *
    generalize bt s 2 = y2 at *
    generalize bt s 3 = y3 at *
    go_wp2_with fail
    refine (PE.out b _ R0.out HT.out (by omega)).mono ?_
    rintro e w3 ⟨sa, sc, rfl, hl, hbel⟩
    have X0 := Lib.hid (hbel.bk (by omega) X0.out)
    have XM := Lib.hid (hbel.bk (by omega) XM.out)
    have hV1 := HB.out.size
    have HB := Lib.hid (HB.out.trans (hbel.to (C := w.heap.size) (by omega) (by omega)))
    have HL := Lib.hid hl
    have hV := XM0.out.lt
    have hx3 := X0.out.lt
    have hm3 := XM.out.lt
    clear hl hbel R0 HT XM0 c0 c2 c3
    go_upto_region 6 with (refine wpList_storeN (b := w3.heap.size) rfl _ _ rfl rfl En.zero sa sc (m := En.zero) (sa0 := none) (sc0 := 0) rfl (Bk.Bk.new 108 w3 (cellsN En.zero none 0)) ?_)
    change Code.wp _ _ _ _ ((w3.alloc (.cells (cellsN En.zero none 0) 108)).setRow w3.heap.size (cellsN En.zero sa sc))
    rw [World.setRow_alloc_new]
    have bel := balloc (Below.refl w3.heap.size w3) (.cells (cellsN En.zero sa sc) 108)
    have X0 := Lib.hid (X0.out.below bel)
    have XM := Lib.hid (XM.out.below bel)
    have HL := Lib.hid (HL.out.below bel)
    have HB := Lib.hid (bcall HB.out bel)
    have XE := Lib.hid (Bk.Bk.new 108 w3 (cellsN En.zero sa sc))
    clear bel
    generalize w3.alloc (.cells (cellsN En.zero sa sc) 108) = V3 at *
    generalize w3.heap.size = ge at *
    go_wp2_with (first | (refine wpList_builtK rfl 74 _ rfl (Up.cells Up.zero) (by kernel_rfl) ?_) | (refine wpList_storeU (b := w.heap.size + 1) (m := Up.zero) (m' := Up.zero) rfl _ _ rfl rfl rfl X0.out ?_))
    exact bodyPost_ret (v := .tuple #[.agg Up.zero.cells, .bool false, .int .i64 er]) (results_three rfl _ _ (w.heap.size + 1) _ rfl (loadVarK shU (X0.out.put (Up.cells Up.zero)) rfl) (.bool false) rfl (.int .i64 er) rfl) rfl (AnsU.no HY.out (Box.below_setRow HB.out (by omega) _))
  have HY := Lib.hid (outK_yes hE.eq)
  rw [hE.eq] at PE
  have HH := Lib.hid (show (hdK s).hav = 0 from rfl)
  have HS := Lib.hid (show (hdK s).bytes = ByteArray.empty ∧ (hdK s).sa = none ∧ (hdK s).sl = [] ∧ (hdK s).sc = 0 from ⟨rfl, rfl, rfl, rfl⟩)
  clear hE
  obtain ⟨yb, yl, kn⟩ := y
  generalize hdK s = x at *
  generalize bt s 0 = y0 at *
  generalize bt s 2 = y2 at *
  generalize bt s 3 = y3 at *
  simp only [] at HY PE
  go_wp2_with fail
  refine (PE.out b _ R0.out HT.out (by omega)).mono ?_
  rintro e w3 ⟨sa, sc, rfl, hl, hbel⟩
  have X0 := Lib.hid (hbel.bk (by omega) X0.out)
  have XM := Lib.hid (hbel.bk (by omega) XM.out)
  have hV1 := HB.out.size
  have HB := Lib.hid (HB.out.trans (hbel.to (C := w.heap.size) (by omega) (by omega)))
  have HL := Lib.hid hl
  have hV := XM0.out.lt
  have hx3 := X0.out.lt
  have hm3 := XM.out.lt
  clear hl hbel R0 HT XM0 c0 c2 c3
  go_upto_region 6 with (refine wpList_storeN (b := w3.heap.size) rfl _ _ rfl rfl ⟨yb, yl, kn⟩ sa sc (m := En.zero) (sa0 := none) (sc0 := 0) rfl (Bk.Bk.new 108 w3 (cellsN En.zero none 0)) ?_)
  change Code.wp _ _ _ _ ((w3.alloc (.cells (cellsN En.zero none 0) 108)).setRow w3.heap.size (cellsN ⟨yb, yl, kn⟩ sa sc))
  rw [World.setRow_alloc_new]
  have bel := balloc (Below.refl w3.heap.size w3) (.cells (cellsN ⟨yb, yl, kn⟩ sa sc) 108)
  have X0 := Lib.hid (X0.out.below bel)
  have XM := Lib.hid (XM.out.below bel)
  have HL := Lib.hid (HL.out.below bel)
  have HB := Lib.hid (bcall HB.out bel)
  have XE := Lib.hid (Bk.Bk.new 108 w3 (cellsN ⟨yb, yl, kn⟩ sa sc))
  clear bel
  generalize w3.alloc (.cells (cellsN ⟨yb, yl, kn⟩ sa sc) 108) = V3 at *
  generalize w3.heap.size = ge at *
  go_upto_region 8 with fail
  refine wp_region_held_drew (S := fun W => W.cell? ⟨ge, 0, none⟩ = some (.string yb) ∧ W.cell? ⟨ge, 1, none⟩ = some (.slice sa yl.length sc)) (by kernel_rfl) ⟨XE.out.cell 0 _ rfl, XE.out.cell 1 _ rfl⟩ (fun hS => ?_)
  have X0 := Lib.hid (show Bk 74 V3.drew (w.heap.size + 1) Up.zero.cells from X0.out)
  have XM := Lib.hid (show Bk 74 V3.drew g x.cells from XM.out)
  have XE := Lib.hid (show Bk 108 V3.drew ge (cellsN ⟨yb, yl, kn⟩ sa sc) from XE.out)
  have HL := Lib.hid (show Sx.Lst _ V3.drew (.slice sa yl.length sc) yl from HL.out)
  have HB := Lib.hid HB.out.drew
  generalize V3.drew = X8 at *
  refine H.tk (i := 0) (v := ?v0) ?h0 hS ?_
  case h0 => (intro w hw; go_simp; first | done | (with_reducible rfl))
  try simp only [Act.put, List.setIfInBounds_toArray, List.set_cons_zero, List.set_cons_succ]
  refine H.tk (i := 1) (v := .string yb) ?h1 hS ?_
  case h1 => exact (fun w hw => by have c := hw.1; go_simp)
  try simp only [Act.put, List.setIfInBounds_toArray, List.set_cons_zero, List.set_cons_succ]
  refine H.tk (i := 2) (v := ?v2) ?h2 hS ?_
  case h2 => (intro w hw; go_simp; first | done | (with_reducible rfl))
  try simp only [Act.put, List.setIfInBounds_toArray, List.set_cons_zero, List.set_cons_succ]
  refine H.tk (i := 3) (v := .slice sa yl.length sc) ?h3 hS ?_
  case h3 => exact (fun w hw => by have c := hw.2; go_simp)
  try simp only [Act.put, List.setIfInBounds_toArray, List.set_cons_zero, List.set_cons_succ]
  refine H.tk (i := 4) (v := ?v4) ?h4 hS ?_
  case h4 => (intro w hw; go_simp; first | done | (with_reducible rfl))
  try simp only [Act.put, List.setIfInBounds_toArray, List.set_cons_zero, List.set_cons_succ]
  refine wpAnyH_ready (rs := [5]) (by kernel_rfl) (by simp) ?_
  refine AllReadyH.cons rfl (fun K hK => ?_) AllReadyH.nil
  have cx := XM.out.cell 8 _ rfl
  have fx := XM.out.frozen 8
  go_simp
  have XM := Lib.hid (XM.out.set (i := 8) (v := .string yb) (cs' := Up.cells { x with bytes := yb }) rfl)
  have X0 := Lib.hid (X0.out.off (p := ⟨g, 8, none⟩) (by show w.heap.size + 1 ≠ g; omega) (.string yb))
  have XE := Lib.hid (XE.out.off (p := ⟨g, 8, none⟩) (by show ge ≠ g; omega) (.string yb))
  have HB := Lib.hid (HB.out.setCell (p := ⟨g, 8, none⟩) (by show w.heap.size ≤ g; omega) (.string yb))
  have HL := Lib.hid (lst_cell (u := .string yb) (p := ⟨g, 8, none⟩) HL.out (by show g < _; omega))
  refine hK.out _ _ ⟨XE.out.cell 0 _ rfl, XE.out.cell 1 _ rfl⟩ (fun hS' => ?_)
  clear hK K hS cx fx
  have hS := hS'
  clear hS'
  generalize World.setCell _ ⟨g, 8, none⟩ _ = Y5 at *
  try simp only [Act.put, List.setIfInBounds_toArray, List.set_cons_zero, List.set_cons_succ]
  refine H.tk (i := 6) (v := ?v6) ?h6 hS ?_
  case h6 => (intro w hw; go_simp; first | done | (with_reducible rfl))
  try simp only [Act.put, List.setIfInBounds_toArray, List.set_cons_zero, List.set_cons_succ]
  refine wpAnyH_ready (rs := [7]) (by kernel_rfl) (by simp) ?_
  refine AllReadyH.cons rfl (fun K hK => ?_) AllReadyH.nil
  have cx := XM.out.cell 9 _ rfl
  have fx := XM.out.frozen 9
  go_simp
  have XM := Lib.hid (XM.out.set (i := 9) (v := .slice sa yl.length sc) (cs' := Up.cells { x with bytes := yb, sa := sa, sl := yl, sc := sc }) rfl)
  have X0 := Lib.hid (X0.out.off (p := ⟨g, 9, none⟩) (by show w.heap.size + 1 ≠ g; omega) (.slice sa yl.length sc))
  have XE := Lib.hid (XE.out.off (p := ⟨g, 9, none⟩) (by show ge ≠ g; omega) (.slice sa yl.length sc))
  have HB := Lib.hid (HB.out.setCell (p := ⟨g, 9, none⟩) (by show w.heap.size ≤ g; omega) (.slice sa yl.length sc))
  have HL := Lib.hid (lst_cell (u := .slice sa yl.length sc) (p := ⟨g, 9, none⟩) HL.out (by show g < _; omega))
  refine hK.out _ _ ⟨XE.out.cell 0 _ rfl, XE.out.cell 1 _ rfl⟩ (fun hS' => ?_)
  clear hK K hS cx fx
  have hS := hS'
  clear hS'
  generalize World.setCell _ ⟨g, 9, none⟩ _ = Y7 at *
  try simp only [Act.put, List.setIfInBounds_toArray, List.set_cons_zero, List.set_cons_succ]
  refine wpAnyH_done (by kernel_rfl) ?_ _
  have e2 := XE.out.cell 2 (.bool kn) rfl
  cases kn with
  | false =>
    have HY := Lib.hid (show outK s = ({ ({ x with bytes := yb } : Up) with sl := yl }, true, 0) by rw [HY.out]; obtain ⟨_, _, _, _, _, _, _, xh, _, _, _, _⟩ := x; obtain rfl : xh = 0 := HH.out; rfl)
    go_wp2_with (first | (refine wpList_loadU (b := g) (m := { x with bytes := yb, sa := sa, sl := yl, sc := sc }) rfl _ rfl rfl XM.out ?_) | (refine wpList_storeU (b := w.heap.size + 1) (m := Up.zero) (m' := { x with bytes := yb, sa := sa, sl := yl, sc := sc }) rfl _ _ rfl rfl rfl X0.out ?_))
    exact bodyPost_ret (v := .tuple #[.agg (Up.cells { x with bytes := yb, sa := sa, sl := yl, sc := sc }), .bool true, .int .i64 0]) (results_three rfl _ _ (w.heap.size + 1) _ rfl (loadVarK shU (X0.out.put (Up.cells { x with bytes := yb, sa := sa, sl := yl, sc := sc })) rfl) (.bool true) rfl (.int .i64 0) rfl) rfl (AnsU.yes (r := { x with bytes := yb }) HY.out (lst_under HL.out (by omega) _) (by omega) (Box.below_setRow HB.out (by omega) _))
  | true =>
    have HY := Lib.hid (show outK s = ({ ({ x with hav := 1, bytes := yb } : Up) with sl := yl }, true, 0) by rw [HY.out]; rfl)
    have d := XM.out.cell 7 _ rfl
    have fd := XM.out.frozen 7
    go_upto_region 11 with fail
    have XM := Lib.hid (XM.out.set (i := 7) (v := .int .i64 1) (cs' := Up.cells { x with hav := 1, bytes := yb, sa := sa, sl := yl, sc := sc }) rfl)
    have X0 := Lib.hid (X0.out.off (p := ⟨g, 7, none⟩) (by show w.heap.size + 1 ≠ g; omega) (.int .i64 1))
    have HB := Lib.hid (HB.out.setCell (p := ⟨g, 7, none⟩) (by show w.heap.size ≤ g; omega) (.int .i64 1))
    have HL := Lib.hid (lst_cell (u := .int .i64 1) (p := ⟨g, 7, none⟩) HL.out (by show g < _; omega))
    clear d fd e2 XE
    generalize World.setCell _ ⟨g, 7, none⟩ (.int .i64 1) = Y9 at *
    go_wp2_with (first | (refine wpList_loadU (b := g) (m := { x with hav := 1, bytes := yb, sa := sa, sl := yl, sc := sc }) rfl _ rfl rfl XM.out ?_) | (refine wpList_storeU (b := w.heap.size + 1) (m := Up.zero) (m' := { x with hav := 1, bytes := yb, sa := sa, sl := yl, sc := sc }) rfl _ _ rfl rfl rfl X0.out ?_))
    exact bodyPost_ret (v := .tuple #[.agg (Up.cells { x with hav := 1, bytes := yb, sa := sa, sl := yl, sc := sc }), .bool true, .int .i64 0]) (results_three rfl _ _ (w.heap.size + 1) _ rfl (loadVarK shU (X0.out.put (Up.cells { x with hav := 1, bytes := yb, sa := sa, sl := yl, sc := sc })) rfl) (.bool true) rfl (.int .i64 0) rfl) rfl (AnsU.yes (r := { x with hav := 1, bytes := yb }) HY.out (lst_under HL.out (by omega) _) (by omega) (Box.below_setRow HB.out (by omega) _))
end Go.Proofs.YteecialdkfaejaaGreatDoor.J6
