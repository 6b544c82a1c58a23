/-
  The TLVs of bytes: the program's Split. Condition: at most 100000 bytes, from a place of at most 2^40 on.
-/
import Derived.Test.YteecialdkfaejaaDoorF3
namespace Go.Proofs.YteecialdkfaejaaDoor.F4
open Go.ChangeShapes Go.WideShapes Go.ChangeAt Go.RowKit
open Go.Proofs.YteecialdkfaejaaDoor.F1
open Go.Proofs.YteecialdkfaejaaDoor.F2
open Go.Proofs.YteecialdkfaejaaDoor.F3
open Go.Proofs.YteecialdkfaejaaDoor.Cur (new_any left_ok)
open Go.Proofs.YteecialdkfaejaaDoor.Bk (Bk Sh shC cur cur_one loadVarK wpList_builtK wpList_loadK wpList_storeK run_loadK below_setRow alloc_size)
open Go.Proofs.YteecialdkfaejaaDoor.Hs
open Go.Proofs.YteecialdkfaejaaDoor.Hx (conv8 ex_built H.storeRow)
open Go.Proofs.YteecialdkfaejaaDoor.Tl (cellsT oneT shT Lst TRow bs_one app_one cells_new)
set_option linter.unusedVariables false
set_option maxRecDepth 100000
set_option maxRecDepth 100000

/-- The answer: TLVs, a place, an error; the list is the call's own. -/
def AnsT (p : List T × Int × Int) (w : World) (e : Ending) (w' : World) : Prop :=
  ∃ a c, e = .returned (.tuple #[.slice a p.1.length c, .int .i64 p.2.1, .int .i64 p.2.2]) ∧ Lst w.heap.size w' (.slice a p.1.length c) p.1 ∧ Below w.heap.size w w'
theorem AnsT.no {p : List T × Int × Int} {w w' : World} {c d : Int} (h : p = ([], c, d)) (hb : Below w.heap.size w w') : AnsT p w (.returned (.tuple #[.slice none 0 0, .int .i64 c, .int .i64 d])) w' := by
  subst h
  exact ⟨none, 0, rfl, Lst.nil _ _, hb⟩
theorem AnsT.yes {p : List T × Int × Int} {w w' : World} {a : Option Addr} {c n : Nat} {l : List T} (h : p = (l, 0, 0)) (hn : l.length = n) (hl : Lst w.heap.size w' (.slice a n c) l) (hb : Below w.heap.size w w') : AnsT p w (.returned (.tuple #[.slice a n c, .int .i64 0, .int .i64 0])) w' := by
  subst h hn
  exact ⟨a, c, rfl, hl, hb⟩
/-- Where the cursor in a block stands. -/
def curAt (w : World) (v : Value) : Nat := match v with
  | .pointer (some p) => match w.cell? (p.add 1) with
    | some (.int _ n) => n.toNat
    | _ => 0
  | _ => 0
theorem curAt_of {w : World} {g : Nat} {s : ByteArray} {a n : Int} {b : Bool} (h : Bk 105 w g (cur s a n b)) : curAt w (.pointer (some ⟨g, 0, none⟩)) = a.toNat := by
  have h1 := h.cell 1 (.int .i64 a) rfl
  unfold curAt
  simp only [Tl.add_one, Nat.zero_add, h1]
theorem left_is (s : ByteArray) (p : Nat) (d : Int) (hs : s.size ≤ 1048576) (hp : p ≤ s.size) (hd : d = (s.size : Int) - p) (w : World) :
    Calls Tryd.prog 83 #[.agg (cur s p s.size false)] w fun e w' => e = .returned (.int .i64 d) ∧ Below w.heap.size w w' := by
  have h := left_ok s p s.size w
  rw [IntWalk.wrap64_in ((s.size : Int) - (p : Int)) (by omega)] at h
  rw [hd]
  exact h
set_option maxHeartbeats 6400000 in
theorem split_own (s : ByteArray) (base : Int) (w : World) (hs : s.size ≤ 100000) (h0 : 0 ≤ base) (h1 : base ≤ 1099511627776) : Calls Tryd.prog 70 #[.string s, .int .i64 base] w (AnsT (outT base s) w) := by
  have HS := Lib.hid hs
  have HN := Lib.hid (fun V => new_any s V (by unfold maxLen; omega))
  clear hs
  go_enter Tryd.func70, Tryd.ntmps70
  go_wp2_with fail
  refine (HN.out _).mono ?_
  rintro e w1 ⟨rfl, hb⟩
  have C0 := Lib.hid (Bk.Bk.new 105 w1 noC)
  have C1 := Lib.hid (C0.out.put (cur s (0 : Nat) s.size false))
  have HB := Lib.hid (below_setRow (balloc hb (.cells noC 105)) hb.size (cur s (0 : Nat) s.size false))
  have HG1 : Hid (w.heap.size ≤ w1.heap.size) := Lib.hid hb.size
  clear hb HN
  go_wp2_with (first | (refine wpList_storeK (b := w1.heap.size) shC rfl _ _ rfl rfl rfl C0.out rfl rfl (cur_one _ _ _ _) ?_))
  change Code.wp _ _ _ _ ((w1.alloc (.cells noC 105)).setRow w1.heap.size (cur s (0 : Nat) s.size false))
  clear C0
  generalize (w1.alloc (.cells noC 105)).setRow w1.heap.size (cur s (0 : Nat) s.size false) = W1 at *
  generalize w1.heap.size = g1 at *
  change Code.wp _ _ _ (Act.mk _ _) _
  go_loopw [7, 8] (fun v pv wr => ∃ (l : List El) (p g : Nat) (r : List UInt8), pv = .pointer (some ⟨g, 0, none⟩) ∧ Hid (Bk 105 wr g (cur s p s.size false)) ∧ Hid (w.heap.size ≤ g) ∧ Hid ((encT l).length = p) ∧ Hid (Lst w.heap.size wr v (placed base l)) ∧ Hid (okT l) ∧ Hid (s.data.toList = encT l ++ r) ∧ Hid (Below w.heap.size w wr)) (fun _ pv wr => s.size - curAt wr pv)
  case atStart => exact ⟨[], 0, g1, s.data.toList, rfl, C1, HG1, Lib.hid rfl, Lib.hid (Lst.nil _ _), Lib.hid okT_nil, Lib.hid rfl, HB⟩
  case round =>
    obtain ⟨l, p, g, r, rfl, HC, HGB, HP, HL, HO, HE, HB⟩ := hrel
    clear C1 HG1
    have HZ : Hid (s.size = p + r.length) := Lib.hid (by rw [size_of HE.out, List.length_append, HP.out])
    have HC0 := HC
    have hc1 := HC.out.cell 1 (.int .i64 p) rfl
    have hp0 : 0 ≤ (p : Int) := Int.natCast_nonneg _
    have hp1 : (p : Int) ≤ 100000 := by have := HZ.out; have := HS.out; omega
    obtain ⟨d, hd⟩ : ∃ d, d = (s.size : Int) - p := ⟨_, rfl⟩
    have PL := Lib.hid (fun V => left_is s p d (by have := HS.out; omega) (by have := HZ.out; omega) hd V)
    by_cases hu : r = []
    · subst hu
      have HY := Lib.hid (out_yes (base := base) HO.out (by rw [HE.out, List.append_nil]))
      have e1 : ¬ 0 < d := by have := HZ.out; simp only [List.length_nil] at this; omega
      obtain ⟨a, c, rfl⟩ := HL.out.slice
      have HW := Lib.hid HL.out
      clear HL HP HZ HE hd hc1
      generalize (p : Int) = pi at *
      go_wp2_with (first | (refine wpList_loadK (b := g) shC rfl _ rfl rfl HC.out rfl ?_))
      refine (PL.out _).mono ?_
      rintro e w2 ⟨rfl, hb⟩
      have HW := Lib.hid (HW.out.below hb)
      have HB := Lib.hid (bcall HB.out hb)
      clear hb PL HC
      go_wp2
      go_ret3
      exact AnsT.yes HY.out rfl HW.out HB.out
    · have hr : 0 < r.length := by
        cases r with
        | nil => exact absurd rfl hu
        | cons _ _ => simp
      have e1 : 0 < d := by have := HZ.out; omega
      clear hr
      rcases take_any HE.out HP.out hu (by have := HS.out; omega) with ⟨x, r', hc, ht⟩ | ⟨hc, t, q, ht⟩
      · have PT := Lib.hid ht
        obtain ⟨ho, he⟩ := cut1_some hc
        have HO := Lib.hid (okT_snoc HO.out ho)
        have HE : Hid (s.data.toList = encT (l ++ [x]) ++ r') := Lib.hid (by rw [HE.out, he, encT_snoc, List.append_assoc])
        have HCC : Hid ((placed base l).length ≤ 100000) := Lib.hid (by rw [placed_len]; have := HS.out; have := HP.out; have := HZ.out; have := len_le l; omega)
        have HPL : Hid (placed base (l ++ [x]) = placed base l ++ [(base + (p : Int), x)]) := Lib.hid (by rw [placed_snoc, HP.out])
        have HP2 : Hid ((encT (l ++ [x])).length = p + (enc1 x).length) := Lib.hid (by rw [encT_snoc, List.length_append, HP.out])
        have HM : Hid (s.size - (p + (enc1 x).length) < s.size - p) := Lib.hid (by
          have := HZ.out
          have h1 := congrArg List.length he
          rw [List.length_append] at h1
          have := enc1_pos x
          omega)
        clear hu hc ht ho he HZ hd
        generalize p + (enc1 x).length = p' at *
        generalize placed base l = lp at *
        go_wp2_with (first | (refine wpList_loadK (b := g) shC rfl _ rfl rfl HC.out rfl ?_))
        refine (PL.out _).mono ?_
        rintro e w2 ⟨rfl, hb⟩
        have HL := Lib.hid (HL.out.below hb)
        have HB := Lib.hid (bcall HB.out hb)
        have HC := Lib.hid (HC.out.below hb)
        clear hb PL hc1
        go_wp2_with (first | (refine wpList_loadK (b := g) shC rfl _ rfl rfl HC.out rfl ?_))
        refine (PT.out _).mono ?_
        rintro e w3 ⟨rfl, hb⟩
        have HL := Lib.hid (HL.out.below hb)
        have HB := Lib.hid (bcall HB.out hb)
        have HC := Lib.hid (HC.out.below hb)
        clear hb PT
        have hg : Hid (g < w3.heap.size) := Lib.hid HC.out.lt
        have hgB : Hid (w.heap.size ≤ w3.heap.size) := Lib.hid HB.out.size
        have T0 : Hid (Bk 29 ((w3.alloc (.cells (cellsT zT) 29)).alloc (.cells noC 105)) w3.heap.size (cellsT zT)) := Lib.hid ((Bk.Bk.new _ _ _).old _)
        have U0 : Hid (Bk 105 (((w3.alloc (.cells (cellsT zT) 29)).alloc (.cells noC 105)).setRow w3.heap.size (cellsT (0, x))) (w3.heap.size + 1) noC) := Lib.hid (by
          have := Bk.Bk.new 105 (w3.alloc (.cells (cellsT zT) 29)) noC
          rw [alloc_size] at this
          exact this.row (by omega) _)
        have T1 := Lib.hid ((T0.out.put (cellsT (0, x))).row (g := w3.heap.size + 1) (by omega) (cur s p' s.size false))
        have U1 := Lib.hid (U0.out.put (cur s p' s.size false))
        have HBB := Lib.hid (below_setRow (below_setRow (balloc (balloc (Below.refl _ w3) (.cells (cellsT zT) 29)) (.cells noC 105)) (Nat.le_refl _) (cellsT (0, x))) (Nat.le_succ _) (cur s p' s.size false))
        go_upto_region 5 with (first | (refine wpList_storeK (b := w3.heap.size) shT rfl _ _ rfl rfl rfl T0.out rfl rfl (oneT (0, x)) ?_) | (refine wpList_storeK (b := w3.heap.size + 1) shC rfl _ _ rfl rfl rfl U0.out rfl rfl (cur_one _ _ _ _) ?_))
        clear T0 U0
        change Code.wp _ _ _ _ ((((w3.alloc (.cells (cellsT zT) 29)).alloc (.cells noC 105)).setRow w3.heap.size (cellsT (0, x))).setRow (w3.heap.size + 1) (cur s p' s.size false))
        generalize (((w3.alloc (.cells (cellsT zT) 29)).alloc (.cells noC 105)).setRow w3.heap.size (cellsT (0, x))).setRow (w3.heap.size + 1) (cur s p' s.size false) = W4 at *
        have HC := Lib.hid (HC.out.below HBB.out)
        have c3 := U1.out.cell 3 (.bool false) rfl
        have c1 := HC.out.cell 1 (.int .i64 p) rfl
        have f1 := T1.out.frozen 1
        have d1 := T1.out.cell 1 (.int .i64 0) rfl
        have hbp : IntKind.i64.wrap (base + (p : Int)) = base + (p : Int) := IntWalk.i64_in _ (by omega)
        have hbq : wrap64 (base + (p : Int)) = base + (p : Int) := IntWalk.wrap64_in _ (by omega)
        go_upto_region 8 with fail
        have T1 := Lib.hid (T1.out.set (i := 1) (v := .int .i64 (base + (p : Int))) (cs' := cellsT (base + (p : Int), x)) rfl)
        have U1 := Lib.hid (U1.out.off (p := ⟨w3.heap.size, 1, none⟩) (by show w3.heap.size + 1 ≠ w3.heap.size; omega) (.int .i64 (base + (p : Int))))
        have HC := Lib.hid (HC.out.off (p := ⟨w3.heap.size, 1, none⟩) (by show g ≠ w3.heap.size; have := hg.out; omega) (.int .i64 (base + (p : Int))))
        have HBB := Lib.hid (HBB.out.setCell (p := ⟨w3.heap.size, 1, none⟩) (Nat.le_refl _) (.int .i64 (base + (p : Int))))
        have HL := Lib.hid (HL.out.below HBB.out)
        have HB := Lib.hid (bcall HB.out HBB.out)
        clear HBB
        generalize W4.setCell ⟨w3.heap.size, 1, none⟩ (.int .i64 (base + (p : Int))) = W5 at *
        generalize w3.heap.size = g9 at *
        clear c3 c1 f1 d1 hbp hbq
        have HLA := Lib.hid (HL.out.below (balloc (Below.refl _ W5) (.cells (cellsT (base + (p : Int), x)) 29)))
        have HBA := Lib.hid (balloc HB.out (.cells (cellsT (base + (p : Int), x)) 29))
        clear HL HB hg hgB HBB
        go_upto_region 9 with (first | (refine wpList_loadK (b := g9) shT rfl _ rfl rfl T1.out rfl ?_) | (refine bs_one rfl _ rfl (m := (base + (p : Int), x)) rfl ?_) | (at_builtin; refine app_one rfl _ _ rfl w.heap.size _ lp (base + (p : Int), x) W5.heap.size 1 rfl HLA.out rfl (cells_new (base + (p : Int), x) W5) HCC.out HBA.out.size ?_))
        intro v' w' hl hgr hb
        have HC := Lib.hid (HLA.out.keeps hgr (HC.out.old _) (by decide))
        have U1 := Lib.hid (HLA.out.keeps hgr (U1.out.old _) (by decide))
        have HL := Lib.hid hl
        have HB := Lib.hid (HBA.out.trans hb)
        rw [← HPL.out] at HL
        clear hl hgr hb HLA HBA T1 HPL HCC
        go_upto_region 10 with (first | (refine wpList_loadK (b := g9 + 1) shC rfl _ rfl rfl U1.out rfl ?_) | (refine wpList_storeK (b := g) shC rfl _ _ rfl rfl rfl HC.out rfl rfl (cur_one _ _ _ _) ?_))
        have HL := Lib.hid (HL.out.off_row HC.out (by decide) (cur s p' s.size false))
        have HB := Lib.hid (below_setRow HB.out HGB.out (cur s p' s.size false))
        have HC := Lib.hid (HC.out.put (cur s p' s.size false))
        generalize w'.setRow g (cur s p' s.size false) = X at *
        have C0 := Lib.hid (Bk.Bk.new 105 X noC)
        go_wp2_with (first | (refine wpList_loadK (b := g) shC rfl _ rfl rfl HC.out rfl ?_) | (refine wpList_storeK (b := X.heap.size) shC rfl _ _ rfl rfl rfl C0.out rfl rfl (cur_one _ _ _ _) ?_))
        have hmm : s.size - curAt ((X.alloc (.cells noC 105)).setRow X.heap.size (cur s p' s.size false)) (.pointer (some ⟨X.heap.size, 0, none⟩)) < s.size - curAt wr (.pointer (some ⟨g, 0, none⟩)) := by
          rw [curAt_of (C0.out.put (cur s p' s.size false)), curAt_of HC0.out]
          simpa using HM.out
        have HMM := Lib.hid hmm
        have HB1 := Lib.hid (below_setRow (balloc (Below.refl _ X) (.cells noC 105)) (Nat.le_refl _) (cur s p' s.size false))
        clear hmm
        simp only [Act.put]
        go_roundw
        case rel => exact ⟨l ++ [x], p', X.heap.size, r', rfl, Lib.hid (C0.out.put _), Lib.hid HB.out.size, HP2, Lib.hid (HL.out.below HB1.out), HO, HE, Lib.hid (bcall HB.out HB1.out)⟩
        case measure => exact HMM.out
      · have PT := Lib.hid ht
        have HY := Lib.hid (out_no (base := base) HO.out HE.out hc hu)
        rw [HP.out] at HY
        clear hu hc ht HZ hd HP HE HO
        go_wp2_with (first | (refine wpList_loadK (b := g) shC rfl _ rfl rfl HC.out rfl ?_))
        refine (PL.out _).mono ?_
        rintro e w2 ⟨rfl, hb⟩
        have HB := Lib.hid (bcall HB.out hb)
        have HC := Lib.hid (HC.out.below hb)
        clear hb PL hc1
        go_wp2_with (first | (refine wpList_loadK (b := g) shC rfl _ rfl rfl HC.out rfl ?_))
        refine (PT.out _).mono ?_
        rintro e w3 ⟨rfl, hb⟩
        have HB := Lib.hid (bcall HB.out hb)
        have HC := Lib.hid (HC.out.below hb)
        clear hb PT
        have T0 : Hid (Bk 29 ((w3.alloc (.cells (cellsT zT) 29)).alloc (.cells noC 105)) w3.heap.size (cellsT zT)) := Lib.hid ((Bk.Bk.new _ _ _).old _)
        have U0 : Hid (Bk 105 (((w3.alloc (.cells (cellsT zT) 29)).alloc (.cells noC 105)).setRow w3.heap.size (cellsT t)) (w3.heap.size + 1) noC) := Lib.hid (by
          have := Bk.Bk.new 105 (w3.alloc (.cells (cellsT zT) 29)) noC
          rw [alloc_size] at this
          exact this.row (by omega) _)
        have U1 := Lib.hid (U0.out.put (cur s q s.size true))
        have HBB := Lib.hid (below_setRow (below_setRow (balloc (balloc (Below.refl _ w3) (.cells (cellsT zT) 29)) (.cells noC 105)) (Nat.le_refl _) (cellsT t)) (Nat.le_succ _) (cur s q s.size true))
        go_upto_region 5 with (first | (refine wpList_storeK (b := w3.heap.size) shT rfl _ _ rfl rfl rfl T0.out rfl rfl (oneT t) ?_) | (refine wpList_storeK (b := w3.heap.size + 1) shC rfl _ _ rfl rfl rfl U0.out rfl rfl (cur_one _ _ _ _) ?_))
        clear T0 U0
        change Code.wp _ _ _ _ ((((w3.alloc (.cells (cellsT zT) 29)).alloc (.cells noC 105)).setRow w3.heap.size (cellsT t)).setRow (w3.heap.size + 1) (cur s q s.size true))
        generalize (((w3.alloc (.cells (cellsT zT) 29)).alloc (.cells noC 105)).setRow w3.heap.size (cellsT t)).setRow (w3.heap.size + 1) (cur s q s.size true) = W4 at *
        have HC := Lib.hid (HC.out.below HBB.out)
        have HB := Lib.hid (bcall HB.out HBB.out)
        clear HBB
        have c3 := U1.out.cell 3 (.bool true) rfl
        have c1 := HC.out.cell 1 (.int .i64 p) rfl
        have hbp : IntKind.i64.wrap (base + (p : Int)) = base + (p : Int) := IntWalk.i64_in _ (by omega)
        have hbq : wrap64 (base + (p : Int)) = base + (p : Int) := IntWalk.wrap64_in _ (by omega)
        generalize (p : Int) = pi at *
        go_wp2
        go_quiet (fail)
        go_wp2
        go_ret3
        exact AnsT.no HY.out (Tl.below_drewN HB.out _)
end Go.Proofs.YteecialdkfaejaaDoor.F4
