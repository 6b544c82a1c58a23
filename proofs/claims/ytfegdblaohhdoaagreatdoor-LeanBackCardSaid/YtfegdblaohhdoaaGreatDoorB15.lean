/-
  What TLVs tell, taken one by one where something is known: the law's take. Conditions: the bytes are those of TLVs of the types from 2 on, which aren't long; what is known may be; none of them is in error.
  Whether what is known may be: the document's answer. No condition.
  The document's example; the cells of a list of one message. Condition: the variables have what they are laid with.
  What a message's bytes tell, taken where they were written: that message alone. Conditions: what is known may be; the message may be.
-/
import Derived.Test.YtfegdblaohhdoaaGreatDoorB07
import Derived.Test.YtfegdblaohhdoaaGreatDoorB10
import Derived.Test.YtfegdblaohhdoaaGreatDoorB11
import Derived.Test.YtfegdblaohhdoaaGreatDoorB12
import Derived.Test.YtfegdblaohhdoaaGreatDoorB14
import Derived.Deep.CutBlock
namespace Go.Proofs.YtfegdblaohhdoaaGreatDoor.Lt
open Go.ChangeShapes Go.WideShapes Go.ChangeAt Go.RowKit
open Go.Proofs.YtfegdblaohhdoaaGreatDoor.Ms
open Go.Proofs.YtfegdblaohhdoaaGreatDoor.Box
open Go.Proofs.YtfegdblaohhdoaaGreatDoor.An
open Go.Proofs.YtfegdblaohhdoaaGreatDoor.K1
open Go.Proofs.YtfegdblaohhdoaaGreatDoor.Kb
open Go.Proofs.YtfegdblaohhdoaaGreatDoor.I1
open Go.Proofs.YtfegdblaohhdoaaGreatDoor.Lm
open Go.Proofs.YtfegdblaohhdoaaGreatDoor.Fq (ex_loadT one_few)
open Go.Proofs.YtfegdblaohhdoaaGreatDoor.Cx
open Go.Proofs.YtfegdblaohhdoaaGreatDoor.G1 (outF)
open Go.Proofs.YtfegdblaohhdoaaGreatDoor.J1 (outJ)
open Go.Proofs.YtfegdblaohhdoaaGreatDoor.Tl (cellsT TRow indexT)
open Go.Proofs.YtfegdblaohhdoaaGreatDoor.F1 (outT)
open Go.Proofs.YtfegdblaohhdoaaGreatDoor.F4 (AnsT)
open Go.Proofs.YtfegdblaohhdoaaGreatDoor.Or (st_yes)
open Go.Proofs.YtfegdblaohhdoaaGreatDoor.Hs
open Go.Proofs.YtfegdblaohhdoaaGreatDoor.Hy (H.one H.two wp_valW)
open Go.Proofs.YtfegdblaohhdoaaGreatDoor.Hx (ex_built)
open Go.Proofs.YtfegdblaohhdoaaGreatDoor.Bk (Bk wpList_builtK run_loadK loadVarK alloc_size)
set_option linter.unusedVariables false
set_option maxRecDepth 100000
theorem AnsB.parts {p : M × Bool × Int} {w : World} {e : Ending} {w' : World} (h : AnsB p w e w') : ∃ n : M, e = .returned (.tuple #[.agg n.cells, .bool p.2.1, .int .i64 p.2.2]) ∧ Pl n p.1 ∧ Sx.Lst w.heap.size w' (.slice n.sa n.sl.length n.sc) n.sl ∧ Below w.heap.size w w' := by
  obtain ⟨sa, sc, h1, h3, h4⟩ := h
  exact ⟨_, h1, rfl, h3, h4⟩
/-- What the boxes hold: what is known, the result's. -/
structure Tk (w : World) (c : Kx) (W : World) : Prop where
  s0 : Bk 25 W w.heap.size c.cells
  r0 : Bk 25 W (w.heap.size + 1) Kx.zero.cells
  bel : Below w.heap.size w W
theorem Tk.call {w V W : World} {c : Kx} (h : Tk w c V) (hb : Below V.heap.size V W) : Tk w c W := ⟨h.s0.below hb, h.r0.below hb, bcall h.bel hb⟩
theorem Tk.under {w V W : World} {c : Kx} {B : Nat} (h : Tk w c V) (hb : Below B V W) (hB : w.heap.size + 1 < B) : Tk w c W := ⟨h.s0.under hb (by omega), h.r0.under hb hB, h.bel.trans (hb.mono (by omega))⟩
theorem Tk.row {w V : World} {c : Kx} {g : Nat} (h : Tk w c V) (hg : w.heap.size + 1 < g) (cs : Array Value) : Tk w c (V.setRow g cs) := ⟨h.s0.row (by omega) _, h.r0.row (by omega) _, Box.below_setRow h.bel (by omega) _⟩
theorem Tk.put {w V : World} {c : Kx} (h : Tk w c V) (x : Kx) : Tk w x (V.setRow w.heap.size x.cells) := ⟨h.s0.put x.cells, h.r0.row (by omega) _, Box.below_setRow h.bel (Nat.le_refl _) _⟩
theorem Tk.start (w : World) (c : Kx) : Tk w c ((w.alloc (.cells c.cells 25)).alloc (.cells Kx.zero.cells 25)) := by
  refine ⟨(Bk.Bk.new 25 w c.cells).old _, ?_, balloc (balloc (Below.refl _ w) _) _⟩
  have := Bk.Bk.new 25 (w.alloc (.cells c.cells 25)) Kx.zero.cells
  rw [alloc_size] at this
  exact this
/-- The rows of a list of TLVs of a call's own, as long as their block stands still. -/
theorem rows_of {B : Nat} {w : World} {a : Option Addr} {k : Nat} {l : List F1.T} (h : Tl.Lst B w (.slice a l.length k) l) (h0 : 0 < l.length) : ∃ g cur, a = some ⟨g, 0, none⟩ ∧ B ≤ g ∧ Bk 62 w g cur ∧
    ∀ W, Bk 62 W g cur → ∀ i (hi : i < l.length), W.cell? ⟨g, i * 3, none⟩ = some (.int .i64 l[i].2.2) ∧ W.cell? ((⟨g, i * 3, none⟩ : Addr).add 1) = some (.int .i64 l[i].1) ∧ W.cell? ((⟨g, i * 3, none⟩ : Addr).add 2) = some (.string l[i].2.1) := by
  have hh := h.2
  rcases hh with ⟨_, e⟩ | ⟨g, cap, cur, hv, hB, hg, h1, h2, h3, h4⟩
  · omega
  · simp at hv
    obtain ⟨rfl, rfl⟩ := hv
    refine ⟨g, cur, rfl, hB, hg, fun W hW i hi => ?_⟩
    have hL : Tl.Lst B W (.slice (some ⟨g, 0, none⟩) l.length k) l := ⟨h.1, .inr ⟨g, k, cur, rfl, hB, hW, h1, h2, h3, h4⟩⟩
    obtain ⟨q, e, _, c0, c1, c2⟩ := hL.row i hi
    obtain rfl := Option.some.inj e
    rw [Tl.add_at, Nat.zero_add] at c0 c1 c2
    exact ⟨c0, c1, c2⟩
theorem wpList_loadT {ops : Array Oper} {rest : List Oper} {o : Oper} {a : Act} {w : World} {Q : Exit → Act → World → Prop} (hgd : o.guard = none) (x : Operand) (ho : o.op = .load 62 x) {q : Addr} {u : F1.T} (hx : a.eval x = .pointer (some q))
    (hc : w.cell? q = some (.int .i64 u.2.2) ∧ w.cell? (q.add 1) = some (.int .i64 u.1) ∧ w.cell? (q.add 2) = some (.string u.2.1)) (h : wpList Tryz.prog ops Q rest (a.put o.dst (.agg (cellsT u))) w) : wpList Tryz.prog ops Q (o :: rest) a w :=
  wpList_plain hgd fun K hK => by
    unfold Oper.wp
    rw [ex_loadT ho hx hc]
    exact hK _ _ h
/-- One round of a fold that comes to no error. -/
theorem fold_round {l : List F1.T} {c c0 cf : Kx} {o r : List M} {k : Nat} (hk : k < l.length) (h : foldI l c0 [] = foldI (l.drop k) c o) (hf : foldI l c0 [] = (r, cf, 0, 0)) :
    (one c l[k].2.2 l[k].2.1).2.2 = 0 ∧ foldI l c0 [] = foldI (l.drop (k + 1)) (one c l[k].2.2 l[k].2.1).1 (o ++ (one c l[k].2.2 l[k].2.1).2.1) := by
  rw [List.drop_eq_getElem_cons hk] at h
  by_cases h0 : (one c l[k].2.2 l[k].2.1).2.2 = 0
  · refine ⟨h0, ?_⟩
    rcases hp : one c l[k].2.2 l[k].2.1 with ⟨c', r', e⟩
    rw [hp] at h0
    obtain rfl : e = 0 := h0
    exact h.trans (fold_ok hp)
  · rw [fold_err h0, hf] at h
    injection h with _ h; injection h with _ h; injection h with _ h
    exact absurd h.symm h0
/-- The ways that tell a message: which one, and by which call. -/
theorem one_way (c : Kx) {t : Int} (d : ByteArray) (h : 2 ≤ t) (h' : ¬ (t = 6 ∨ t = 7 ∨ t = 8)) : ∃ p : M × Bool × Int, one c t d = tell c p ∧ p.1.ll = [] ∧
    (((t = 2 ∨ t = 3 ∨ t = 4 ∨ t = 5) ∧ p = outF t d) ∨ ((t = 9 ∨ t = 10) ∧ p = outJ t d) ∨ (10 < t ∧ p = (opM t d, true, 0))) := by
  by_cases h1 : 2 ≤ t ∧ t ≤ 5
  · exact ⟨_, one_f h1.1 h1.2 c d, (G1.out_len t d h1.1 h1.2).2.1, .inl ⟨by omega, rfl⟩⟩
  by_cases h2 : t = 9 ∨ t = 10
  · exact ⟨_, one_j h2 c d, (J1.out_len t d h2).2.1, .inr (.inl ⟨h2, rfl⟩)⟩
  have h3 : t < 0 ∨ 10 < t := by omega
  exact ⟨(opM t d, true, 0), one_o h3 c d, rfl, .inr (.inr ⟨by omega, rfl⟩)⟩
theorem tell_pl {c : Kx} {p : M × Bool × Int} {n : M} {ls o : List M} (hp : PlL ls o) (hn : Pl n p.1) (h0 : p.2.2 = 0) : PlL (ls ++ if p.2.1 = true then [n] else []) (o ++ (tell c p).2.1) := by
  refine Fq.PlL.app hp ?_
  unfold tell
  by_cases h : p.2.1 = true
  · rw [if_pos h, if_pos ⟨h0, h⟩]; exact PlL.one hn
  · rw [if_neg h, if_neg (fun k => h k.2)]; exact PlL.nil
set_option maxHeartbeats 51200000 in
set_option maxRecDepth 100000 in
theorem take_any (c0 cf : Kx) (s : ByteArray) (l : List F1.T) (r : List M) (w : World) (hz : s.size ≤ 100000) (hl : outT 0 s = (l, 0, 0)) (hn : 0 < l.length) (h50 : l.length ≤ 50000) (h2 : ∀ x ∈ l, 2 ≤ x.2.2) (hd : ∀ x ∈ l, x.2.1.size ≤ 100000) (hc : okC c0 = true) (hf : foldI l c0 [] = (r, cf, 0, 0)) :
    Calls Tryz.prog 15 #[.agg c0.cells, .string s] w fun e w' => ∃ a k ls, e = .returned (.tuple #[.slice a ls.length k, .agg cf.cells, .bool true]) ∧ PlL ls r ∧ MOwn w.heap.size w' a ls ∧ Below w.heap.size w w' := by
  have PSX := fun V => F5.rsplit_own s 0 V hz (by decide) (by decide)
  rw [hl] at PSX
  have PS := Lib.hid (fun V => (PSX V).mono (fun e w' x => (show ∃ a c, e = .returned (.tuple #[.slice a l.length c, .int .i64 0, .int .i64 0]) ∧ Tl.Lst V.heap.size w' (.slice a l.length c) l ∧ Below V.heap.size V w' from x)))
  have H2 := Lib.hid h2
  have HD := Lib.hid hd
  have HFF := Lib.hid hf
  have HOK := Lib.hid hc
  have D := Lib.hid (Tk.start w c0)
  clear PSX hl h2 hd hf hc hz
  go_enter Tryz.func15, Tryz.ntmps15
  go_upto_region 1 with fail
  change Code.wp _ _ _ _ ((w.alloc (.cells c0.cells 25)).alloc (.cells Kx.zero.cells 25))
  generalize (w.alloc (.cells c0.cells 25)).alloc (.cells Kx.zero.cells 25) = V at *
  have hzV : w.heap.size + 1 < V.heap.size := D.out.r0.lt
  go_wp2_with fail
  refine (PS.out _).mono ?_
  rintro e w1 ⟨a, kc, rfl, hl, hb⟩
  have hl : Tl.Lst V.heap.size w1 (.slice a l.length kc) l := hl
  have D := Lib.hid (D.out.call hb)
  obtain ⟨gl, cur, rfl, hBg, hbk, hrows⟩ := rows_of hl hn
  have HT := Lib.hid hbk
  have HR := Lib.hid hrows
  have hglt : gl < w1.heap.size := hbk.lt
  have hwg : w.heap.size + 1 < gl := by omega
  clear hb hl hbk hrows PS hBg hzV hn
  go_wp2_with fail
  go_loopw [9, 10, 11] (fun e v i wr => ∃ (k : Nat) (c : Kx) (o ls : List M), k ≤ l.length ∧ i = .int .i64 k ∧ e = .int .i64 0 ∧ Hid (okC c = true) ∧ Hid (foldI l c0 [] = foldI (l.drop k) c o) ∧ Hid (PlL ls o) ∧ Hid (ls.length ≤ k) ∧ Hid (LM w1.heap.size w1.heap.size wr v ls) ∧ Hid (Tk w c wr) ∧ Hid (Bk 62 wr gl cur) ∧ Hid (w1.heap.size ≤ wr.heap.size)) (fun _ _ i _ => l.length - (intOf i).toNat)
  case atStart => exact ⟨0, c0, [], [], Nat.zero_le _, rfl, rfl, HOK, Lib.hid rfl, Lib.hid PlL.nil, Lib.hid (Nat.le_refl _), Lib.hid (LM.nil _ _ _), D, HT, Lib.hid (Nat.le_refl _)⟩
  case round =>
    clear D HT
    obtain ⟨k, c, o, ls, hk, rfl, rfl, HC, HF, HP0, HK0, HM0, D, HT, HZ⟩ := hrel
    by_cases hlt : k < l.length
    rotate_left
    · obtain rfl : k = l.length := by omega
      have hfin := HF.out
      rw [List.drop_length, fold_nil, HFF.out] at hfin
      injection hfin with hr hfin
      injection hfin with hcf _
      have HRR := Lib.hid (show PlL ls r by rw [hr]; exact HP0.out)
      subst hcf
      obtain ⟨va, vc, rfl⟩ := HM0.out.slice
      clear HF HR H2 HD HFF hlt hk hr HP0 HOK
      have hzr := HZ.out
      go_upto_region 23 with fail
      have HLM := Lib.hid (HM0.out.below (Below.refl _ wr).drew)
      have R0 := Lib.hid (show Bk 25 wr.drew (w.heap.size + 1) Kx.zero.cells from D.out.r0)
      have HB := Lib.hid D.out.bel.drew
      refine wp_region_held_drew (S := fun X => Bk 25 X w.heap.size cf.cells) (by kernel_rfl) (D.out.s0) (fun hS => ?_)
      clear D HM0 HT
      generalize wr.drew = Z0 at *
      refine H.tk (i := 0) (v := .slice va ls.length vc) ?h0x1e hS ?_
      case h0x1e => exact (fun w hw => by go_simp)
      try simp only [Act.put, List.setIfInBounds_toArray, List.set_cons_zero, List.set_cons_succ]
      refine H.tk (i := 1) (v := .agg cf.cells) ?h1x2e hS ?_
      case h1x2e => exact (fun w hw => run_loadK shX (x := .tmp 2) rfl rfl hw rfl)
      try simp only [Act.put, List.setIfInBounds_toArray, List.set_cons_zero, List.set_cons_succ]
      refine H.tk (i := 2) (v := ?v2x3e) ?h2x3e hS ?_
      case h2x3e => (intro w hw; go_simp; first | done | (with_reducible rfl))
      try simp only [Act.put, List.setIfInBounds_toArray, List.set_cons_zero, List.set_cons_succ]
      refine H.one (i := 3) (by simp only [List.getElem?_toArray, List.getElem?_cons_succ, List.getElem?_cons_zero]; rfl) (by kernel_rfl) (by kernel_rfl) (fun K hK => ?_)
      refine wp_store_row 25 _ _ rfl (w.heap.size + 1) cf.cells rfl rfl 25 Kx.zero.cells R0.out infoX rfl (oneX _) ?_
      refine hK.out _ _ (hS.row (by omega) _) ?_
      clear hK K
      have hS := (show Bk 25 (Z0.setRow (w.heap.size + 1) cf.cells) w.heap.size cf.cells from hS.row (by omega) _)
      try simp only [Act.put]
      refine H.tk (i := 4) (v := (Value.bool true)) (fun w _ => rfl) hS ?_
      try simp only [Act.put, List.setIfInBounds_toArray, List.set_cons_zero, List.set_cons_succ]
      refine wpAnyH_done (by kernel_rfl) ?_ _
      go_wp2_with fail
      exact bodyPost_ret (v := .tuple #[.slice va ls.length vc, .agg (Kx.cells cf), .bool true]) (results_mid (ty := 25) rfl _ _ (w.heap.size + 1) (.agg (Kx.cells cf)) (.slice va ls.length vc) rfl rfl (loadVarK shX (R0.out.put (Kx.cells cf)) rfl) (.bool true) rfl) rfl ⟨va, vc, ls, rfl, HRR.out, ((HLM.out.under (by omega) (by omega) _).own (Nat.le_refl _)).mono (by omega), Box.below_setRow HB.out (by omega) _⟩
    have hst := fold_round hlt HF.out HFF.out
    have HFS := Lib.hid hst.2
    have HER := Lib.hid hst.1
    have hdk := HD.out _ (List.getElem_mem hlt)
    have h2k := H2.out _ (List.getElem_mem hlt)
    have ix := fun W => indexT ⟨gl, 0, none⟩ l.length kc k hlt W
    rw [Tl.add_at, Nat.zero_add] at ix
    have HA := Lib.hid (fun W (h : Bk 62 W gl cur) => HR.out W h k hlt)
    clear hst HF
    generalize l[k] = u at *
    obtain ⟨at0, d, n⟩ := u
    simp only [] at HA HFS HER hdk h2k
    have hfew := one_few HC.out n d
    have HG := Lib.hid (one_fine HC.out n d).ok
    have hzr := HZ.out
    go_upto_region 9 with fail
    change Code.wp _ _ _ _ (wr.alloc (.cells M.zero.cells 29))
    have X0 := Lib.hid (Bx.new wr M.zero)
    have bel := balloc (Below.refl wr.heap.size wr) (.cells M.zero.cells 29)
    have D := Lib.hid (D.out.call bel)
    have HT := Lib.hid (HT.out.below bel)
    have HMF := Lib.hid (fun X (h : Below wr.heap.size wr X) => HM0.out.below h)
    have HW := Lib.hid bel
    have HM0 := Lib.hid (HM0.out.below bel)
    have hgV : wr.heap.size < (wr.alloc (.cells M.zero.cells 29)).heap.size := X0.out.lt
    clear bel
    generalize wr.alloc (.cells M.zero.cells 29) = V2 at *
    generalize wr.heap.size = g at *
    go_upto_block 2 with fail
    obtain ⟨q, hq⟩ : ∃ q, one c n d = q := ⟨_, rfl⟩
    rw [hq] at HFS HER HG hfew
    go_cut [9, 10, 13] (fun m9 m10 m13 wx => ∃ (lx : List M) (nn : M) (b : Bool), m9 = .int .i64 0 ∧ m13 = .bool b ∧ Tk w q.1 wx ∧ Bk 62 wx gl cur ∧ LM w1.heap.size w1.heap.size wx m10 lx ∧ lx.length ≤ k + 1 ∧ (lx ++ if b = true then [nn] else []).length ≤ k + 1 ∧ PlL (lx ++ if b = true then [nn] else []) (o ++ q.2.1) ∧ (b = true → Bx wx g nn ∧ nn.ll = [] ∧ Sx.Lst w1.heap.size wx (.slice nn.sa nn.sl.length nn.sc) nn.sl) ∧ w1.heap.size ≤ wx.heap.size)
    case first =>
      by_cases h6 : n = 6 ∨ n = 7 ∨ n = 8
      rotate_left
      · obtain ⟨p, hp1, hll, hp2⟩ := one_way c d h2k h6
        have hqe : q = tell c p := by rw [← hq]; exact hp1
        have hq1 : q.1 = c := by rw [hqe]; rfl
        have he0 : p.2.2 = 0 := by have := HER.out; rw [hqe] at this; exact this
        have HTP := Lib.hid (fun (nn : M) (hn : Pl nn p.1) => show PlL (ls ++ if p.2.1 = true then [nn] else []) (o ++ q.2.1) from by rw [hqe]; exact tell_pl HP0.out hn he0)
        have HLL := Lib.hid hll
        have HQ1 := Lib.hid hq1
        have HE0 := Lib.hid he0
        clear hp1 hll hqe hq hq1 he0 HER HG HFS
        rcases hp2 with ⟨h5, hp⟩ | ⟨h9, hp⟩ | ⟨h11, hp⟩
        · have P1 := Lib.hid (fun V => G8.rget_own n at0 d V (by omega) (by omega) hdk)
          rw [← hp] at P1
          clear hp h6
          rcases h5 with rfl | rfl | rfl | rfl
          · have ct := (HA.out _ HT.out).1
            go_wp2_with (first | (refine wpList_loadT (u := (at0, (d, 2))) rfl _ rfl rfl (HA.out _ HT.out) ?_))
            refine (P1.out _).mono ?_
            intro e w2 ha
            obtain ⟨n1, rfl, hn, hl, hb⟩ := AnsB.parts ha
            have D := Lib.hid (D.out.call hb)
            have HT := Lib.hid (HT.out.below hb)
            have HW := Lib.hid (HW.out.trans (hb.mono (by omega)))
            have X0 := Lib.hid (X0.out.below hb)
            have hz2 := hb.size
            clear hb ha ct
            go_wp2_with (first | (refine wpList_storeM (b := g) (m := M.zero) (m' := n1) rfl _ _ rfl rfl rfl X0.out ?_))
            go_meet
            exact ⟨ls, n1, p.2.1, by rw [HE0.out], rfl, by rw [HQ1.out]; exact D.out.row (by omega) _, HT.out.row (by omega) _, HMF.out _ (Box.below_setRow HW.out (Nat.le_refl _) _), by have := HK0.out; omega, by have := HK0.out; rw [List.length_append]; split <;> simp <;> omega, HTP.out n1 hn, fun _ => ⟨X0.out.put, by rw [show n1.ll = p.1.ll by rw [show n1 = _ from hn]]; exact HLL.out, lst_mono (lst_under hl (by omega) _) (by omega)⟩, by simp; omega⟩
          · have ct := (HA.out _ HT.out).1
            go_wp2_with (first | (refine wpList_loadT (u := (at0, (d, 3))) rfl _ rfl rfl (HA.out _ HT.out) ?_))
            refine (P1.out _).mono ?_
            intro e w2 ha
            obtain ⟨n1, rfl, hn, hl, hb⟩ := AnsB.parts ha
            have D := Lib.hid (D.out.call hb)
            have HT := Lib.hid (HT.out.below hb)
            have HW := Lib.hid (HW.out.trans (hb.mono (by omega)))
            have X0 := Lib.hid (X0.out.below hb)
            have hz2 := hb.size
            clear hb ha ct
            go_wp2_with (first | (refine wpList_storeM (b := g) (m := M.zero) (m' := n1) rfl _ _ rfl rfl rfl X0.out ?_))
            go_meet
            exact ⟨ls, n1, p.2.1, by rw [HE0.out], rfl, by rw [HQ1.out]; exact D.out.row (by omega) _, HT.out.row (by omega) _, HMF.out _ (Box.below_setRow HW.out (Nat.le_refl _) _), by have := HK0.out; omega, by have := HK0.out; rw [List.length_append]; split <;> simp <;> omega, HTP.out n1 hn, fun _ => ⟨X0.out.put, by rw [show n1.ll = p.1.ll by rw [show n1 = _ from hn]]; exact HLL.out, lst_mono (lst_under hl (by omega) _) (by omega)⟩, by simp; omega⟩
          · have ct := (HA.out _ HT.out).1
            go_wp2_with (first | (refine wpList_loadT (u := (at0, (d, 4))) rfl _ rfl rfl (HA.out _ HT.out) ?_))
            refine (P1.out _).mono ?_
            intro e w2 ha
            obtain ⟨n1, rfl, hn, hl, hb⟩ := AnsB.parts ha
            have D := Lib.hid (D.out.call hb)
            have HT := Lib.hid (HT.out.below hb)
            have HW := Lib.hid (HW.out.trans (hb.mono (by omega)))
            have X0 := Lib.hid (X0.out.below hb)
            have hz2 := hb.size
            clear hb ha ct
            go_wp2_with (first | (refine wpList_storeM (b := g) (m := M.zero) (m' := n1) rfl _ _ rfl rfl rfl X0.out ?_))
            go_meet
            exact ⟨ls, n1, p.2.1, by rw [HE0.out], rfl, by rw [HQ1.out]; exact D.out.row (by omega) _, HT.out.row (by omega) _, HMF.out _ (Box.below_setRow HW.out (Nat.le_refl _) _), by have := HK0.out; omega, by have := HK0.out; rw [List.length_append]; split <;> simp <;> omega, HTP.out n1 hn, fun _ => ⟨X0.out.put, by rw [show n1.ll = p.1.ll by rw [show n1 = _ from hn]]; exact HLL.out, lst_mono (lst_under hl (by omega) _) (by omega)⟩, by simp; omega⟩
          · have ct := (HA.out _ HT.out).1
            go_wp2_with (first | (refine wpList_loadT (u := (at0, (d, 5))) rfl _ rfl rfl (HA.out _ HT.out) ?_))
            refine (P1.out _).mono ?_
            intro e w2 ha
            obtain ⟨n1, rfl, hn, hl, hb⟩ := AnsB.parts ha
            have D := Lib.hid (D.out.call hb)
            have HT := Lib.hid (HT.out.below hb)
            have HW := Lib.hid (HW.out.trans (hb.mono (by omega)))
            have X0 := Lib.hid (X0.out.below hb)
            have hz2 := hb.size
            clear hb ha ct
            go_wp2_with (first | (refine wpList_storeM (b := g) (m := M.zero) (m' := n1) rfl _ _ rfl rfl rfl X0.out ?_))
            go_meet
            exact ⟨ls, n1, p.2.1, by rw [HE0.out], rfl, by rw [HQ1.out]; exact D.out.row (by omega) _, HT.out.row (by omega) _, HMF.out _ (Box.below_setRow HW.out (Nat.le_refl _) _), by have := HK0.out; omega, by have := HK0.out; rw [List.length_append]; split <;> simp <;> omega, HTP.out n1 hn, fun _ => ⟨X0.out.put, by rw [show n1.ll = p.1.ll by rw [show n1 = _ from hn]]; exact HLL.out, lst_mono (lst_under hl (by omega) _) (by omega)⟩, by simp; omega⟩
        · have P1 := Lib.hid (fun V => J8.rget_own n at0 d V h9 hdk)
          rw [← hp] at P1
          clear hp h6
          rcases h9 with rfl | rfl
          · have ct := (HA.out _ HT.out).1
            go_wp2_with (first | (refine wpList_loadT (u := (at0, (d, 9))) rfl _ rfl rfl (HA.out _ HT.out) ?_))
            refine (P1.out _).mono ?_
            intro e w2 ha
            obtain ⟨n1, rfl, hn, hl, hb⟩ := AnsB.parts ha
            have D := Lib.hid (D.out.call hb)
            have HT := Lib.hid (HT.out.below hb)
            have HW := Lib.hid (HW.out.trans (hb.mono (by omega)))
            have X0 := Lib.hid (X0.out.below hb)
            have hz2 := hb.size
            clear hb ha ct
            go_wp2_with (first | (refine wpList_storeM (b := g) (m := M.zero) (m' := n1) rfl _ _ rfl rfl rfl X0.out ?_))
            go_meet
            exact ⟨ls, n1, p.2.1, by rw [HE0.out], rfl, by rw [HQ1.out]; exact D.out.row (by omega) _, HT.out.row (by omega) _, HMF.out _ (Box.below_setRow HW.out (Nat.le_refl _) _), by have := HK0.out; omega, by have := HK0.out; rw [List.length_append]; split <;> simp <;> omega, HTP.out n1 hn, fun _ => ⟨X0.out.put, by rw [show n1.ll = p.1.ll by rw [show n1 = _ from hn]]; exact HLL.out, lst_mono (lst_under hl (by omega) _) (by omega)⟩, by simp; omega⟩
          · have ct := (HA.out _ HT.out).1
            go_wp2_with (first | (refine wpList_loadT (u := (at0, (d, 10))) rfl _ rfl rfl (HA.out _ HT.out) ?_))
            refine (P1.out _).mono ?_
            intro e w2 ha
            obtain ⟨n1, rfl, hn, hl, hb⟩ := AnsB.parts ha
            have D := Lib.hid (D.out.call hb)
            have HT := Lib.hid (HT.out.below hb)
            have HW := Lib.hid (HW.out.trans (hb.mono (by omega)))
            have X0 := Lib.hid (X0.out.below hb)
            have hz2 := hb.size
            clear hb ha ct
            go_wp2_with (first | (refine wpList_storeM (b := g) (m := M.zero) (m' := n1) rfl _ _ rfl rfl rfl X0.out ?_))
            go_meet
            exact ⟨ls, n1, p.2.1, by rw [HE0.out], rfl, by rw [HQ1.out]; exact D.out.row (by omega) _, HT.out.row (by omega) _, HMF.out _ (Box.below_setRow HW.out (Nat.le_refl _) _), by have := HK0.out; omega, by have := HK0.out; rw [List.length_append]; split <;> simp <;> omega, HTP.out n1 hn, fun _ => ⟨X0.out.put, by rw [show n1.ll = p.1.ll by rw [show n1 = _ from hn]]; exact HLL.out, lst_mono (lst_under hl (by omega) _) (by omega)⟩, by simp; omega⟩
        · have n2 : decide (n ≤ 5) = false := decide_eq_false (by omega)
          have n8 : decide (n ≤ 8) = false := decide_eq_false (by omega)
          have n9 : (n == 9) = false := by rw [beq_eq_false_iff_ne]; omega
          have n10 : (n == 10) = false := by rw [beq_eq_false_iff_ne]; omega
          have n0 : 2 ≤ n := by omega
          have n6 : 6 ≤ n := by omega
          have ct := (HA.out _ HT.out).1
          subst hp
          clear h6
          go_upto_region 10 with fail
          refine wp_region_held_drew (S := fun X => Bk 62 X gl cur) (by kernel_rfl) (HT.out) (fun hS => ?_)
          have D := Lib.hid (D.out.call (Below.refl _ V2).drew)
          have HW := Lib.hid HW.out.drew
          have X0 := Lib.hid (show Bx V2.drew g M.zero from X0.out)
          have hgV : g < V2.drew.heap.size := hgV
          clear HT ct
          generalize V2.drew = Z0 at *
          refine H.tk (i := 0) (v := ?v0x1o) ?h0x1o hS ?_
          case h0x1o => (intro w hw; go_simp; first | done | (with_reducible rfl))
          try simp only [Act.put, List.setIfInBounds_toArray, List.set_cons_zero, List.set_cons_succ]
          refine H.tk (i := 1) (v := ?v1x2o) ?h1x2o hS ?_
          case h1x2o => (intro w hw; go_simp; first | done | (with_reducible rfl))
          try simp only [Act.put, List.setIfInBounds_toArray, List.set_cons_zero, List.set_cons_succ]
          refine H.tk (i := 2) (v := .pointer (some ⟨gl, k * 3, none⟩)) ?h2x3o hS ?_
          case h2x3o => exact (fun w hw => by go_simp)
          try simp only [Act.put, List.setIfInBounds_toArray, List.set_cons_zero, List.set_cons_succ]
          refine H.tk (i := 3) (v := ?v3x4o) ?h3x4o hS ?_
          case h3x4o => (intro w hw; go_simp; first | done | (with_reducible rfl))
          try simp only [Act.put, List.setIfInBounds_toArray, List.set_cons_zero, List.set_cons_succ]
          refine H.tk (i := 4) (v := ?v4x5o) ?h4x5o hS ?_
          case h4x5o => (intro w hw; have c := (HA.out _ hw).1; go_simp; first | done | (with_reducible rfl))
          try simp only [Act.put, List.setIfInBounds_toArray, List.set_cons_zero, List.set_cons_succ]
          refine H.tk (i := 5) (v := ?v5x6o) ?h5x6o hS ?_
          case h5x6o => (intro w hw; go_simp; first | done | (with_reducible rfl))
          try simp only [Act.put, List.setIfInBounds_toArray, List.set_cons_zero, List.set_cons_succ]
          refine H.tk (i := 6) (v := ?v6x7o) ?h6x7o hS ?_
          case h6x7o => (intro w hw; go_simp; first | done | (with_reducible rfl))
          try simp only [Act.put, List.setIfInBounds_toArray, List.set_cons_zero, List.set_cons_succ]
          refine H.tk (i := 7) (v := .pointer (some ⟨gl, k * 3, none⟩)) ?h7x8o hS ?_
          case h7x8o => exact (fun w hw => by go_simp)
          try simp only [Act.put, List.setIfInBounds_toArray, List.set_cons_zero, List.set_cons_succ]
          refine H.tk (i := 8) (v := ?v8x9o) ?h8x9o hS ?_
          case h8x9o => (intro w hw; go_simp; first | done | (with_reducible rfl))
          try simp only [Act.put, List.setIfInBounds_toArray, List.set_cons_zero, List.set_cons_succ]
          refine H.tk (i := 9) (v := ?v9x10o) ?h9x10o hS ?_
          case h9x10o => (intro w hw; have c := (HA.out _ hw).2.2; rw [Tl.add_at] at c; go_simp; first | done | (with_reducible rfl))
          try simp only [Act.put, List.setIfInBounds_toArray, List.set_cons_zero, List.set_cons_succ]
          refine H.tk (i := 10) (v := .agg (M.cells (opM n d))) ?h10x11o hS ?_
          case h10x11o => exact (fun w hw => ex_built rfl (by kernel_rfl))
          try simp only [Act.put, List.setIfInBounds_toArray, List.set_cons_zero, List.set_cons_succ]
          refine H.one (i := 11) (by simp only [List.getElem?_toArray, List.getElem?_cons_succ, List.getElem?_cons_zero]; rfl) (by kernel_rfl) (by kernel_rfl) (fun K hK => ?_)
          refine wp_store_row 29 _ _ rfl g (M.cells (opM n d)) rfl rfl 29 M.zero.cells X0.out infoM rfl (oneM _) ?_
          refine hK.out _ _ (hS.row (by omega) _) ?_
          clear hK K
          have hS := (show Bk 62 (Z0.setRow g (M.cells (opM n d))) gl cur from hS.row (by omega) _)
          try simp only [Act.put]
          refine H.tk (i := 12) (v := (Value.bool true)) (fun w _ => rfl) hS ?_
          try simp only [Act.put, List.setIfInBounds_toArray, List.set_cons_zero, List.set_cons_succ]
          refine wpAnyH_done (by kernel_rfl) ?_ _
          go_wp2_with fail
          go_meet
          exact ⟨ls, opM n d, true, rfl, rfl, by rw [HQ1.out]; exact D.out.row (by omega) _, hS, HMF.out _ (Box.below_setRow HW.out (Nat.le_refl _) _), by have := HK0.out; omega, by have := HK0.out; rw [List.length_append]; simp; omega, HTP.out _ (Pl.refl _), fun _ => ⟨X0.out.put, rfl, Sx.Lst.nil _ _⟩, by simp; omega⟩
      · have P1 := Lib.hid (fun V => K8.rstep_any c at0 n d V h6 HC.out hdk)
        rw [← one_c (t := n) (by omega) (by omega) c d, hq] at P1
        clear hq HG HFS
        rcases h6 with rfl | rfl | rfl
        · have ct := (HA.out _ HT.out).1
          go_upto_region 16 with fail
          go_cut [14, 15, 16] (fun m1 m2 m3 wx => ∃ (g : Nat) (qa : Option Addr) (qk : Nat) (ls2 : List M), m1 = .pointer (some ⟨g, 0, none⟩) ∧ m2 = .slice qa ls2.length qk ∧ m3 = .int .i64 q.2.2 ∧ PlL ls2 q.2.1 ∧ MOwn V2.heap.size wx qa ls2 ∧ Bk 25 wx g q.1.cells ∧ V2.heap.size ≤ g ∧ Below V2.heap.size V2 wx)
          case first =>
            refine wp_region_held_drew (S := fun W => Below V2.heap.size V2 W) (by kernel_rfl) (Below.refl _ V2).drew (fun hS => ?_)
            have hz0 := hS.size
            generalize V2.drew = X0 at *
            refine H.tk (i := 0) (v := .agg c.cells) ?h0x1 hS ?_
            case h0x1 => exact (fun w hw => run_loadK shX (x := .tmp 2) rfl rfl (D.out.s0.below hw) rfl)
            try simp only [Act.put, List.setIfInBounds_toArray, List.set_cons_zero, List.set_cons_succ]
            refine H.tk (i := 1) (v := ?v1x2) ?h1x2 hS ?_
            case h1x2 => (intro w hw; go_simp; first | done | (with_reducible rfl))
            try simp only [Act.put, List.setIfInBounds_toArray, List.set_cons_zero, List.set_cons_succ]
            refine H.tk (i := 2) (v := ?v2x3) ?h2x3 hS ?_
            case h2x3 => (intro w hw; go_simp; first | done | (with_reducible rfl))
            try simp only [Act.put, List.setIfInBounds_toArray, List.set_cons_zero, List.set_cons_succ]
            refine H.tk (i := 3) (v := ?v3x4) ?h3x4 hS ?_
            case h3x4 => (intro w hw; go_simp; first | done | (with_reducible rfl))
            try simp only [Act.put, List.setIfInBounds_toArray, List.set_cons_zero, List.set_cons_succ]
            refine H.tk (i := 4) (v := .agg (cellsT (at0, (d, 6)))) ?h4x5 hS ?_
            case h4x5 => exact (fun _ hw => ex_loadT rfl rfl (HA.out _ (HT.out.below hw)))
            try simp only [Act.put, List.setIfInBounds_toArray, List.set_cons_zero, List.set_cons_succ]
            refine H.two (i := 5) (j := 10) (by simp only [List.getElem?_toArray, List.getElem?_cons_succ, List.getElem?_cons_zero]; rfl) (by kernel_rfl) (by simp only [List.getElem?_toArray, List.getElem?_cons_succ, List.getElem?_cons_zero]; rfl) (by kernel_rfl) (by kernel_rfl) (fun K hK => ?wa6) (fun K hK => ?wb6)
            case wa6 =>
              go_simp
              refine (P1.out _).mono ?_
              rintro e X1 ⟨qa, qk, ls2, rfl, hp, hm, hb⟩
              refine hK.out _ _ (bcall hS hb) ?_
              clear hK K
              have hS' := bcall hS hb
              clear hS
              have hS := hS'
              clear hS'
              have hz1 := hS.size
              have HP := Lib.hid hp
              have HM := Lib.hid hm
              clear hb hm hp
              try simp only [Act.put, List.setIfInBounds_toArray, List.set_cons_zero, List.set_cons_succ]
              refine H.tk (i := 6) (v := .tuple #[.agg q.1.cells, .slice qa ls2.length qk, .int .i64 q.2.2]) ?h6x7 hS ?_
              case h6x7 => exact (fun w hw => by go_simp)
              try simp only [Act.put, List.setIfInBounds_toArray, List.set_cons_zero, List.set_cons_succ]
              refine H.tk (i := 7) (v := .agg q.1.cells) ?h7x8 hS ?_
              case h7x8 => exact (fun w hw => by go_simp)
              try simp only [Act.put, List.setIfInBounds_toArray, List.set_cons_zero, List.set_cons_succ]
              refine H.tk (i := 8) (v := .slice qa ls2.length qk) ?h8x9 hS ?_
              case h8x9 => exact (fun w hw => by go_simp)
              try simp only [Act.put, List.setIfInBounds_toArray, List.set_cons_zero, List.set_cons_succ]
              refine H.tk (i := 9) (v := .int .i64 q.2.2) ?h9x10 hS ?_
              case h9x10 => exact (fun w hw => by go_simp)
              try simp only [Act.put, List.setIfInBounds_toArray, List.set_cons_zero, List.set_cons_succ]
              refine H.one (i := 10) (by simp only [List.getElem?_toArray, List.getElem?_cons_succ, List.getElem?_cons_zero]; rfl) (by kernel_rfl) (by kernel_rfl) (fun K hK => ?_)
              go_simp
              refine hK.out _ _ (balloc hS (.cells Kx.zero.cells 25)) ?_
              clear hK K
              change wpAnyH _ _ _ _ _ _ _ _ (X1.alloc (.cells Kx.zero.cells 25))
              have hS1 := Lib.hid hS
              have hS' := balloc hS (.cells Kx.zero.cells 25)
              clear hS
              have hS := hS'
              clear hS'
              try simp only [Act.put, List.setIfInBounds_toArray, List.set_cons_zero, List.set_cons_succ]
              refine H.one (i := 11) (by simp only [List.getElem?_toArray, List.getElem?_cons_succ, List.getElem?_cons_zero]; rfl) (by kernel_rfl) (by kernel_rfl) (fun K hK => ?_)
              refine wp_store_row 25 _ _ rfl X1.heap.size q.1.cells rfl rfl 25 Kx.zero.cells (heap_alloc_new _ _) infoX rfl (oneX _) ?_
              rw [World.setRow_alloc_new]
              refine hK.out _ _ (balloc hS1.out (.cells q.1.cells 25)) ?_
              clear hK K hS
              have hS := balloc hS1.out (.cells q.1.cells 25)
              have G0 := Lib.hid (Bk.Bk.new 25 X1 q.1.cells)
              have HM := Lib.hid ((HM.out.below (balloc (Below.refl _ X1) (.cells q.1.cells 25))).mono hz0)
              generalize X1.alloc (.cells q.1.cells 25) = Y at *
              clear hS1
              try simp only [Act.put]
              refine H.tk (i := 12) (v := .slice qa ls2.length qk) ?h12x11 hS ?_
              case h12x11 => exact (fun w hw => by go_simp)
              try simp only [Act.put, List.setIfInBounds_toArray, List.set_cons_zero, List.set_cons_succ]
              refine H.tk (i := 13) (v := .int .i64 q.2.2) ?h13x12 hS ?_
              case h13x12 => exact (fun w hw => by go_simp)
              try simp only [Act.put, List.setIfInBounds_toArray, List.set_cons_zero, List.set_cons_succ]
              refine wpAnyH_done (by kernel_rfl) ?_ _
              go_wp2_with fail
              go_meet
              exact ⟨X1.heap.size, qa, qk, ls2, rfl, rfl, rfl, HP.out, HM.out, G0.out, hz1, hS⟩
            case wb6 =>
              go_simp
              refine hK.out _ _ (balloc hS (.cells Kx.zero.cells 25)) ?_
              clear hK K
              change wpAnyH _ _ _ _ _ _ _ _ (X0.alloc (.cells Kx.zero.cells 25))
              have G0 := Lib.hid (Bk.Bk.new 25 X0 Kx.zero.cells)
              have hS' := balloc hS (.cells Kx.zero.cells 25)
              clear hS
              have hS := hS'
              clear hS'
              generalize X0.alloc (.cells Kx.zero.cells 25) = Y at *
              generalize X0.heap.size = g at *
              try simp only [Act.put, List.setIfInBounds_toArray, List.set_cons_zero, List.set_cons_succ]
              refine H.one (i := 5) (by simp only [List.getElem?_toArray, List.getElem?_cons_succ, List.getElem?_cons_zero]; rfl) (by kernel_rfl) (by kernel_rfl) (fun K hK => ?_)
              go_simp
              refine (P1.out _).mono ?_
              rintro e X1 ⟨qa, qk, ls2, rfl, hp, hm, hb⟩
              refine hK.out _ _ (bcall hS hb) ?_
              clear hK K
              have hS' := bcall hS hb
              have hgY := G0.out.lt
              have G0 := Lib.hid (G0.out.below hb)
              clear hS
              have hS := hS'
              clear hS'
              have hz1 := hS.size
              have HP := Lib.hid hp
              have HM := Lib.hid hm
              clear hb hm hp
              try simp only [Act.put, List.setIfInBounds_toArray, List.set_cons_zero, List.set_cons_succ]
              refine H.tk (i := 6) (v := .tuple #[.agg q.1.cells, .slice qa ls2.length qk, .int .i64 q.2.2]) ?h6x13 hS ?_
              case h6x13 => exact (fun w hw => by go_simp)
              try simp only [Act.put, List.setIfInBounds_toArray, List.set_cons_zero, List.set_cons_succ]
              refine H.tk (i := 7) (v := .agg q.1.cells) ?h7x14 hS ?_
              case h7x14 => exact (fun w hw => by go_simp)
              try simp only [Act.put, List.setIfInBounds_toArray, List.set_cons_zero, List.set_cons_succ]
              refine H.tk (i := 8) (v := .slice qa ls2.length qk) ?h8x15 hS ?_
              case h8x15 => exact (fun w hw => by go_simp)
              try simp only [Act.put, List.setIfInBounds_toArray, List.set_cons_zero, List.set_cons_succ]
              refine H.tk (i := 9) (v := .int .i64 q.2.2) ?h9x16 hS ?_
              case h9x16 => exact (fun w hw => by go_simp)
              try simp only [Act.put, List.setIfInBounds_toArray, List.set_cons_zero, List.set_cons_succ]
              refine H.one (i := 11) (by simp only [List.getElem?_toArray, List.getElem?_cons_succ, List.getElem?_cons_zero]; rfl) (by kernel_rfl) (by kernel_rfl) (fun K hK => ?_)
              refine wp_store_row 25 _ _ rfl g q.1.cells rfl rfl 25 Kx.zero.cells G0.out infoX rfl (oneX _) ?_
              refine hK.out _ _ (Box.below_setRow hS hz0 _) ?_
              clear hK K
              have hS' := Box.below_setRow hS hz0 q.1.cells
              clear hS
              have hS := hS'
              clear hS'
              have G0 := Lib.hid (G0.out.put q.1.cells)
              have HM := Lib.hid ((HM.out.under hgY q.1.cells).mono (B' := V2.heap.size) (by omega))
              generalize X1.setRow g q.1.cells = Y at *
              try simp only [Act.put]
              refine H.tk (i := 12) (v := .slice qa ls2.length qk) ?h12x17 hS ?_
              case h12x17 => exact (fun w hw => by go_simp)
              try simp only [Act.put, List.setIfInBounds_toArray, List.set_cons_zero, List.set_cons_succ]
              refine H.tk (i := 13) (v := .int .i64 q.2.2) ?h13x18 hS ?_
              case h13x18 => exact (fun w hw => by go_simp)
              try simp only [Act.put, List.setIfInBounds_toArray, List.set_cons_zero, List.set_cons_succ]
              refine wpAnyH_done (by kernel_rfl) ?_ _
              go_wp2_with fail
              go_meet
              exact ⟨g, qa, qk, ls2, rfl, rfl, rfl, HP.out, HM.out, G0.out, hz0, hS⟩
          case rest =>
            obtain ⟨g2, qa, qk, ls2, rfl, rfl, rfl, hp, hm, hg, hgr, hb⟩ := hcut
            have D := Lib.hid (D.out.call hb)
            have HT := Lib.hid (HT.out.below hb)
            have HM0 := Lib.hid (HM0.out.below hb)
            have HG2 := Lib.hid hg
            have HP2 := Lib.hid hp
            have HM2 := Lib.hid hm
            have hl2 : ls2.length ≤ 1 := by rw [hp.1]; exact hfew
            have hwc := hb.size
            clear hb hg hp hm P1
            generalize wc = W at *
            go_upto_region 18 with (first | (refine wpList_loadX (b := g2) (m := q.1) rfl _ rfl rfl HG2.out ?_) | (refine wpList_storeX (b := w.heap.size) (m := c) (m' := q.1) rfl _ _ rfl rfl rfl D.out.s0 ?_))
            have D := Lib.hid (D.out.put q.1)
            have HT := Lib.hid (HT.out.row (g := w.heap.size) (by omega) q.1.cells)
            have HM0 := Lib.hid (HM0.out.under (g := w.heap.size) (by omega) (by omega) q.1.cells)
            have HM2 := Lib.hid ((HM2.out.under (g := w.heap.size) (by omega) q.1.cells).mono (show w1.heap.size ≤ V2.heap.size by omega))
            have HWS := Lib.hid (show w1.heap.size ≤ (W.setRow w.heap.size q.1.cells).heap.size by simp; omega)
            clear HG2
            generalize W.setRow w.heap.size q.1.cells = W2 at *
            have HLN := Lib.hid (show ls.length + ls2.length ≤ 100000 by have := HK0.out; omega)
            go_wp2_with (at_builtin; refine app_list rfl _ _ rfl w1.heap.size w1.heap.size _ ls ls2 qa qk rfl HM0.out rfl HM2.out HLN.out HWS.out ?_)
            intro v' w' hl hb hgr2
            go_wp2_with fail
            go_meet
            exact ⟨ls ++ ls2, M.zero, false, by rw [HER.out], rfl, D.out.under hb (by omega), HT.out.under hb hglt, hl, by have := HK0.out; rw [List.length_append]; omega, by have := HK0.out; simp; omega, by simpa using Fq.PlL.app HP0.out HP2.out, fun h => (by cases h), by have := hb.size; have := HWS.out; omega⟩
        · have ct := (HA.out _ HT.out).1
          go_upto_region 16 with fail
          go_cut [14, 15, 16] (fun m1 m2 m3 wx => ∃ (g : Nat) (qa : Option Addr) (qk : Nat) (ls2 : List M), m1 = .pointer (some ⟨g, 0, none⟩) ∧ m2 = .slice qa ls2.length qk ∧ m3 = .int .i64 q.2.2 ∧ PlL ls2 q.2.1 ∧ MOwn V2.heap.size wx qa ls2 ∧ Bk 25 wx g q.1.cells ∧ V2.heap.size ≤ g ∧ Below V2.heap.size V2 wx)
          case first =>
            refine wp_region_held_drew (S := fun W => Below V2.heap.size V2 W) (by kernel_rfl) (Below.refl _ V2).drew (fun hS => ?_)
            have hz0 := hS.size
            generalize V2.drew = X0 at *
            refine H.tk (i := 0) (v := .agg c.cells) ?h0x1 hS ?_
            case h0x1 => exact (fun w hw => run_loadK shX (x := .tmp 2) rfl rfl (D.out.s0.below hw) rfl)
            try simp only [Act.put, List.setIfInBounds_toArray, List.set_cons_zero, List.set_cons_succ]
            refine H.tk (i := 1) (v := ?v1x2) ?h1x2 hS ?_
            case h1x2 => (intro w hw; go_simp; first | done | (with_reducible rfl))
            try simp only [Act.put, List.setIfInBounds_toArray, List.set_cons_zero, List.set_cons_succ]
            refine H.tk (i := 2) (v := ?v2x3) ?h2x3 hS ?_
            case h2x3 => (intro w hw; go_simp; first | done | (with_reducible rfl))
            try simp only [Act.put, List.setIfInBounds_toArray, List.set_cons_zero, List.set_cons_succ]
            refine H.tk (i := 3) (v := ?v3x4) ?h3x4 hS ?_
            case h3x4 => (intro w hw; go_simp; first | done | (with_reducible rfl))
            try simp only [Act.put, List.setIfInBounds_toArray, List.set_cons_zero, List.set_cons_succ]
            refine H.tk (i := 4) (v := .agg (cellsT (at0, (d, 7)))) ?h4x5 hS ?_
            case h4x5 => exact (fun _ hw => ex_loadT rfl rfl (HA.out _ (HT.out.below hw)))
            try simp only [Act.put, List.setIfInBounds_toArray, List.set_cons_zero, List.set_cons_succ]
            refine H.two (i := 5) (j := 10) (by simp only [List.getElem?_toArray, List.getElem?_cons_succ, List.getElem?_cons_zero]; rfl) (by kernel_rfl) (by simp only [List.getElem?_toArray, List.getElem?_cons_succ, List.getElem?_cons_zero]; rfl) (by kernel_rfl) (by kernel_rfl) (fun K hK => ?wa6) (fun K hK => ?wb6)
            case wa6 =>
              go_simp
              refine (P1.out _).mono ?_
              rintro e X1 ⟨qa, qk, ls2, rfl, hp, hm, hb⟩
              refine hK.out _ _ (bcall hS hb) ?_
              clear hK K
              have hS' := bcall hS hb
              clear hS
              have hS := hS'
              clear hS'
              have hz1 := hS.size
              have HP := Lib.hid hp
              have HM := Lib.hid hm
              clear hb hm hp
              try simp only [Act.put, List.setIfInBounds_toArray, List.set_cons_zero, List.set_cons_succ]
              refine H.tk (i := 6) (v := .tuple #[.agg q.1.cells, .slice qa ls2.length qk, .int .i64 q.2.2]) ?h6x7 hS ?_
              case h6x7 => exact (fun w hw => by go_simp)
              try simp only [Act.put, List.setIfInBounds_toArray, List.set_cons_zero, List.set_cons_succ]
              refine H.tk (i := 7) (v := .agg q.1.cells) ?h7x8 hS ?_
              case h7x8 => exact (fun w hw => by go_simp)
              try simp only [Act.put, List.setIfInBounds_toArray, List.set_cons_zero, List.set_cons_succ]
              refine H.tk (i := 8) (v := .slice qa ls2.length qk) ?h8x9 hS ?_
              case h8x9 => exact (fun w hw => by go_simp)
              try simp only [Act.put, List.setIfInBounds_toArray, List.set_cons_zero, List.set_cons_succ]
              refine H.tk (i := 9) (v := .int .i64 q.2.2) ?h9x10 hS ?_
              case h9x10 => exact (fun w hw => by go_simp)
              try simp only [Act.put, List.setIfInBounds_toArray, List.set_cons_zero, List.set_cons_succ]
              refine H.one (i := 10) (by simp only [List.getElem?_toArray, List.getElem?_cons_succ, List.getElem?_cons_zero]; rfl) (by kernel_rfl) (by kernel_rfl) (fun K hK => ?_)
              go_simp
              refine hK.out _ _ (balloc hS (.cells Kx.zero.cells 25)) ?_
              clear hK K
              change wpAnyH _ _ _ _ _ _ _ _ (X1.alloc (.cells Kx.zero.cells 25))
              have hS1 := Lib.hid hS
              have hS' := balloc hS (.cells Kx.zero.cells 25)
              clear hS
              have hS := hS'
              clear hS'
              try simp only [Act.put, List.setIfInBounds_toArray, List.set_cons_zero, List.set_cons_succ]
              refine H.one (i := 11) (by simp only [List.getElem?_toArray, List.getElem?_cons_succ, List.getElem?_cons_zero]; rfl) (by kernel_rfl) (by kernel_rfl) (fun K hK => ?_)
              refine wp_store_row 25 _ _ rfl X1.heap.size q.1.cells rfl rfl 25 Kx.zero.cells (heap_alloc_new _ _) infoX rfl (oneX _) ?_
              rw [World.setRow_alloc_new]
              refine hK.out _ _ (balloc hS1.out (.cells q.1.cells 25)) ?_
              clear hK K hS
              have hS := balloc hS1.out (.cells q.1.cells 25)
              have G0 := Lib.hid (Bk.Bk.new 25 X1 q.1.cells)
              have HM := Lib.hid ((HM.out.below (balloc (Below.refl _ X1) (.cells q.1.cells 25))).mono hz0)
              generalize X1.alloc (.cells q.1.cells 25) = Y at *
              clear hS1
              try simp only [Act.put]
              refine H.tk (i := 12) (v := .slice qa ls2.length qk) ?h12x11 hS ?_
              case h12x11 => exact (fun w hw => by go_simp)
              try simp only [Act.put, List.setIfInBounds_toArray, List.set_cons_zero, List.set_cons_succ]
              refine H.tk (i := 13) (v := .int .i64 q.2.2) ?h13x12 hS ?_
              case h13x12 => exact (fun w hw => by go_simp)
              try simp only [Act.put, List.setIfInBounds_toArray, List.set_cons_zero, List.set_cons_succ]
              refine wpAnyH_done (by kernel_rfl) ?_ _
              go_wp2_with fail
              go_meet
              exact ⟨X1.heap.size, qa, qk, ls2, rfl, rfl, rfl, HP.out, HM.out, G0.out, hz1, hS⟩
            case wb6 =>
              go_simp
              refine hK.out _ _ (balloc hS (.cells Kx.zero.cells 25)) ?_
              clear hK K
              change wpAnyH _ _ _ _ _ _ _ _ (X0.alloc (.cells Kx.zero.cells 25))
              have G0 := Lib.hid (Bk.Bk.new 25 X0 Kx.zero.cells)
              have hS' := balloc hS (.cells Kx.zero.cells 25)
              clear hS
              have hS := hS'
              clear hS'
              generalize X0.alloc (.cells Kx.zero.cells 25) = Y at *
              generalize X0.heap.size = g at *
              try simp only [Act.put, List.setIfInBounds_toArray, List.set_cons_zero, List.set_cons_succ]
              refine H.one (i := 5) (by simp only [List.getElem?_toArray, List.getElem?_cons_succ, List.getElem?_cons_zero]; rfl) (by kernel_rfl) (by kernel_rfl) (fun K hK => ?_)
              go_simp
              refine (P1.out _).mono ?_
              rintro e X1 ⟨qa, qk, ls2, rfl, hp, hm, hb⟩
              refine hK.out _ _ (bcall hS hb) ?_
              clear hK K
              have hS' := bcall hS hb
              have hgY := G0.out.lt
              have G0 := Lib.hid (G0.out.below hb)
              clear hS
              have hS := hS'
              clear hS'
              have hz1 := hS.size
              have HP := Lib.hid hp
              have HM := Lib.hid hm
              clear hb hm hp
              try simp only [Act.put, List.setIfInBounds_toArray, List.set_cons_zero, List.set_cons_succ]
              refine H.tk (i := 6) (v := .tuple #[.agg q.1.cells, .slice qa ls2.length qk, .int .i64 q.2.2]) ?h6x13 hS ?_
              case h6x13 => exact (fun w hw => by go_simp)
              try simp only [Act.put, List.setIfInBounds_toArray, List.set_cons_zero, List.set_cons_succ]
              refine H.tk (i := 7) (v := .agg q.1.cells) ?h7x14 hS ?_
              case h7x14 => exact (fun w hw => by go_simp)
              try simp only [Act.put, List.setIfInBounds_toArray, List.set_cons_zero, List.set_cons_succ]
              refine H.tk (i := 8) (v := .slice qa ls2.length qk) ?h8x15 hS ?_
              case h8x15 => exact (fun w hw => by go_simp)
              try simp only [Act.put, List.setIfInBounds_toArray, List.set_cons_zero, List.set_cons_succ]
              refine H.tk (i := 9) (v := .int .i64 q.2.2) ?h9x16 hS ?_
              case h9x16 => exact (fun w hw => by go_simp)
              try simp only [Act.put, List.setIfInBounds_toArray, List.set_cons_zero, List.set_cons_succ]
              refine H.one (i := 11) (by simp only [List.getElem?_toArray, List.getElem?_cons_succ, List.getElem?_cons_zero]; rfl) (by kernel_rfl) (by kernel_rfl) (fun K hK => ?_)
              refine wp_store_row 25 _ _ rfl g q.1.cells rfl rfl 25 Kx.zero.cells G0.out infoX rfl (oneX _) ?_
              refine hK.out _ _ (Box.below_setRow hS hz0 _) ?_
              clear hK K
              have hS' := Box.below_setRow hS hz0 q.1.cells
              clear hS
              have hS := hS'
              clear hS'
              have G0 := Lib.hid (G0.out.put q.1.cells)
              have HM := Lib.hid ((HM.out.under hgY q.1.cells).mono (B' := V2.heap.size) (by omega))
              generalize X1.setRow g q.1.cells = Y at *
              try simp only [Act.put]
              refine H.tk (i := 12) (v := .slice qa ls2.length qk) ?h12x17 hS ?_
              case h12x17 => exact (fun w hw => by go_simp)
              try simp only [Act.put, List.setIfInBounds_toArray, List.set_cons_zero, List.set_cons_succ]
              refine H.tk (i := 13) (v := .int .i64 q.2.2) ?h13x18 hS ?_
              case h13x18 => exact (fun w hw => by go_simp)
              try simp only [Act.put, List.setIfInBounds_toArray, List.set_cons_zero, List.set_cons_succ]
              refine wpAnyH_done (by kernel_rfl) ?_ _
              go_wp2_with fail
              go_meet
              exact ⟨g, qa, qk, ls2, rfl, rfl, rfl, HP.out, HM.out, G0.out, hz0, hS⟩
          case rest =>
            obtain ⟨g2, qa, qk, ls2, rfl, rfl, rfl, hp, hm, hg, hgr, hb⟩ := hcut
            have D := Lib.hid (D.out.call hb)
            have HT := Lib.hid (HT.out.below hb)
            have HM0 := Lib.hid (HM0.out.below hb)
            have HG2 := Lib.hid hg
            have HP2 := Lib.hid hp
            have HM2 := Lib.hid hm
            have hl2 : ls2.length ≤ 1 := by rw [hp.1]; exact hfew
            have hwc := hb.size
            clear hb hg hp hm P1
            generalize wc = W at *
            go_upto_region 18 with (first | (refine wpList_loadX (b := g2) (m := q.1) rfl _ rfl rfl HG2.out ?_) | (refine wpList_storeX (b := w.heap.size) (m := c) (m' := q.1) rfl _ _ rfl rfl rfl D.out.s0 ?_))
            have D := Lib.hid (D.out.put q.1)
            have HT := Lib.hid (HT.out.row (g := w.heap.size) (by omega) q.1.cells)
            have HM0 := Lib.hid (HM0.out.under (g := w.heap.size) (by omega) (by omega) q.1.cells)
            have HM2 := Lib.hid ((HM2.out.under (g := w.heap.size) (by omega) q.1.cells).mono (show w1.heap.size ≤ V2.heap.size by omega))
            have HWS := Lib.hid (show w1.heap.size ≤ (W.setRow w.heap.size q.1.cells).heap.size by simp; omega)
            clear HG2
            generalize W.setRow w.heap.size q.1.cells = W2 at *
            have HLN := Lib.hid (show ls.length + ls2.length ≤ 100000 by have := HK0.out; omega)
            go_wp2_with (at_builtin; refine app_list rfl _ _ rfl w1.heap.size w1.heap.size _ ls ls2 qa qk rfl HM0.out rfl HM2.out HLN.out HWS.out ?_)
            intro v' w' hl hb hgr2
            go_wp2_with fail
            go_meet
            exact ⟨ls ++ ls2, M.zero, false, by rw [HER.out], rfl, D.out.under hb (by omega), HT.out.under hb hglt, hl, by have := HK0.out; rw [List.length_append]; omega, by have := HK0.out; simp; omega, by simpa using Fq.PlL.app HP0.out HP2.out, fun h => (by cases h), by have := hb.size; have := HWS.out; omega⟩
        · have ct := (HA.out _ HT.out).1
          go_upto_region 16 with fail
          go_cut [14, 15, 16] (fun m1 m2 m3 wx => ∃ (g : Nat) (qa : Option Addr) (qk : Nat) (ls2 : List M), m1 = .pointer (some ⟨g, 0, none⟩) ∧ m2 = .slice qa ls2.length qk ∧ m3 = .int .i64 q.2.2 ∧ PlL ls2 q.2.1 ∧ MOwn V2.heap.size wx qa ls2 ∧ Bk 25 wx g q.1.cells ∧ V2.heap.size ≤ g ∧ Below V2.heap.size V2 wx)
          case first =>
            refine wp_region_held_drew (S := fun W => Below V2.heap.size V2 W) (by kernel_rfl) (Below.refl _ V2).drew (fun hS => ?_)
            have hz0 := hS.size
            generalize V2.drew = X0 at *
            refine H.tk (i := 0) (v := .agg c.cells) ?h0x1 hS ?_
            case h0x1 => exact (fun w hw => run_loadK shX (x := .tmp 2) rfl rfl (D.out.s0.below hw) rfl)
            try simp only [Act.put, List.setIfInBounds_toArray, List.set_cons_zero, List.set_cons_succ]
            refine H.tk (i := 1) (v := ?v1x2) ?h1x2 hS ?_
            case h1x2 => (intro w hw; go_simp; first | done | (with_reducible rfl))
            try simp only [Act.put, List.setIfInBounds_toArray, List.set_cons_zero, List.set_cons_succ]
            refine H.tk (i := 2) (v := ?v2x3) ?h2x3 hS ?_
            case h2x3 => (intro w hw; go_simp; first | done | (with_reducible rfl))
            try simp only [Act.put, List.setIfInBounds_toArray, List.set_cons_zero, List.set_cons_succ]
            refine H.tk (i := 3) (v := ?v3x4) ?h3x4 hS ?_
            case h3x4 => (intro w hw; go_simp; first | done | (with_reducible rfl))
            try simp only [Act.put, List.setIfInBounds_toArray, List.set_cons_zero, List.set_cons_succ]
            refine H.tk (i := 4) (v := .agg (cellsT (at0, (d, 8)))) ?h4x5 hS ?_
            case h4x5 => exact (fun _ hw => ex_loadT rfl rfl (HA.out _ (HT.out.below hw)))
            try simp only [Act.put, List.setIfInBounds_toArray, List.set_cons_zero, List.set_cons_succ]
            refine H.two (i := 5) (j := 10) (by simp only [List.getElem?_toArray, List.getElem?_cons_succ, List.getElem?_cons_zero]; rfl) (by kernel_rfl) (by simp only [List.getElem?_toArray, List.getElem?_cons_succ, List.getElem?_cons_zero]; rfl) (by kernel_rfl) (by kernel_rfl) (fun K hK => ?wa6) (fun K hK => ?wb6)
            case wa6 =>
              go_simp
              refine (P1.out _).mono ?_
              rintro e X1 ⟨qa, qk, ls2, rfl, hp, hm, hb⟩
              refine hK.out _ _ (bcall hS hb) ?_
              clear hK K
              have hS' := bcall hS hb
              clear hS
              have hS := hS'
              clear hS'
              have hz1 := hS.size
              have HP := Lib.hid hp
              have HM := Lib.hid hm
              clear hb hm hp
              try simp only [Act.put, List.setIfInBounds_toArray, List.set_cons_zero, List.set_cons_succ]
              refine H.tk (i := 6) (v := .tuple #[.agg q.1.cells, .slice qa ls2.length qk, .int .i64 q.2.2]) ?h6x7 hS ?_
              case h6x7 => exact (fun w hw => by go_simp)
              try simp only [Act.put, List.setIfInBounds_toArray, List.set_cons_zero, List.set_cons_succ]
              refine H.tk (i := 7) (v := .agg q.1.cells) ?h7x8 hS ?_
              case h7x8 => exact (fun w hw => by go_simp)
              try simp only [Act.put, List.setIfInBounds_toArray, List.set_cons_zero, List.set_cons_succ]
              refine H.tk (i := 8) (v := .slice qa ls2.length qk) ?h8x9 hS ?_
              case h8x9 => exact (fun w hw => by go_simp)
              try simp only [Act.put, List.setIfInBounds_toArray, List.set_cons_zero, List.set_cons_succ]
              refine H.tk (i := 9) (v := .int .i64 q.2.2) ?h9x10 hS ?_
              case h9x10 => exact (fun w hw => by go_simp)
              try simp only [Act.put, List.setIfInBounds_toArray, List.set_cons_zero, List.set_cons_succ]
              refine H.one (i := 10) (by simp only [List.getElem?_toArray, List.getElem?_cons_succ, List.getElem?_cons_zero]; rfl) (by kernel_rfl) (by kernel_rfl) (fun K hK => ?_)
              go_simp
              refine hK.out _ _ (balloc hS (.cells Kx.zero.cells 25)) ?_
              clear hK K
              change wpAnyH _ _ _ _ _ _ _ _ (X1.alloc (.cells Kx.zero.cells 25))
              have hS1 := Lib.hid hS
              have hS' := balloc hS (.cells Kx.zero.cells 25)
              clear hS
              have hS := hS'
              clear hS'
              try simp only [Act.put, List.setIfInBounds_toArray, List.set_cons_zero, List.set_cons_succ]
              refine H.one (i := 11) (by simp only [List.getElem?_toArray, List.getElem?_cons_succ, List.getElem?_cons_zero]; rfl) (by kernel_rfl) (by kernel_rfl) (fun K hK => ?_)
              refine wp_store_row 25 _ _ rfl X1.heap.size q.1.cells rfl rfl 25 Kx.zero.cells (heap_alloc_new _ _) infoX rfl (oneX _) ?_
              rw [World.setRow_alloc_new]
              refine hK.out _ _ (balloc hS1.out (.cells q.1.cells 25)) ?_
              clear hK K hS
              have hS := balloc hS1.out (.cells q.1.cells 25)
              have G0 := Lib.hid (Bk.Bk.new 25 X1 q.1.cells)
              have HM := Lib.hid ((HM.out.below (balloc (Below.refl _ X1) (.cells q.1.cells 25))).mono hz0)
              generalize X1.alloc (.cells q.1.cells 25) = Y at *
              clear hS1
              try simp only [Act.put]
              refine H.tk (i := 12) (v := .slice qa ls2.length qk) ?h12x11 hS ?_
              case h12x11 => exact (fun w hw => by go_simp)
              try simp only [Act.put, List.setIfInBounds_toArray, List.set_cons_zero, List.set_cons_succ]
              refine H.tk (i := 13) (v := .int .i64 q.2.2) ?h13x12 hS ?_
              case h13x12 => exact (fun w hw => by go_simp)
              try simp only [Act.put, List.setIfInBounds_toArray, List.set_cons_zero, List.set_cons_succ]
              refine wpAnyH_done (by kernel_rfl) ?_ _
              go_wp2_with fail
              go_meet
              exact ⟨X1.heap.size, qa, qk, ls2, rfl, rfl, rfl, HP.out, HM.out, G0.out, hz1, hS⟩
            case wb6 =>
              go_simp
              refine hK.out _ _ (balloc hS (.cells Kx.zero.cells 25)) ?_
              clear hK K
              change wpAnyH _ _ _ _ _ _ _ _ (X0.alloc (.cells Kx.zero.cells 25))
              have G0 := Lib.hid (Bk.Bk.new 25 X0 Kx.zero.cells)
              have hS' := balloc hS (.cells Kx.zero.cells 25)
              clear hS
              have hS := hS'
              clear hS'
              generalize X0.alloc (.cells Kx.zero.cells 25) = Y at *
              generalize X0.heap.size = g at *
              try simp only [Act.put, List.setIfInBounds_toArray, List.set_cons_zero, List.set_cons_succ]
              refine H.one (i := 5) (by simp only [List.getElem?_toArray, List.getElem?_cons_succ, List.getElem?_cons_zero]; rfl) (by kernel_rfl) (by kernel_rfl) (fun K hK => ?_)
              go_simp
              refine (P1.out _).mono ?_
              rintro e X1 ⟨qa, qk, ls2, rfl, hp, hm, hb⟩
              refine hK.out _ _ (bcall hS hb) ?_
              clear hK K
              have hS' := bcall hS hb
              have hgY := G0.out.lt
              have G0 := Lib.hid (G0.out.below hb)
              clear hS
              have hS := hS'
              clear hS'
              have hz1 := hS.size
              have HP := Lib.hid hp
              have HM := Lib.hid hm
              clear hb hm hp
              try simp only [Act.put, List.setIfInBounds_toArray, List.set_cons_zero, List.set_cons_succ]
              refine H.tk (i := 6) (v := .tuple #[.agg q.1.cells, .slice qa ls2.length qk, .int .i64 q.2.2]) ?h6x13 hS ?_
              case h6x13 => exact (fun w hw => by go_simp)
              try simp only [Act.put, List.setIfInBounds_toArray, List.set_cons_zero, List.set_cons_succ]
              refine H.tk (i := 7) (v := .agg q.1.cells) ?h7x14 hS ?_
              case h7x14 => exact (fun w hw => by go_simp)
              try simp only [Act.put, List.setIfInBounds_toArray, List.set_cons_zero, List.set_cons_succ]
              refine H.tk (i := 8) (v := .slice qa ls2.length qk) ?h8x15 hS ?_
              case h8x15 => exact (fun w hw => by go_simp)
              try simp only [Act.put, List.setIfInBounds_toArray, List.set_cons_zero, List.set_cons_succ]
              refine H.tk (i := 9) (v := .int .i64 q.2.2) ?h9x16 hS ?_
              case h9x16 => exact (fun w hw => by go_simp)
              try simp only [Act.put, List.setIfInBounds_toArray, List.set_cons_zero, List.set_cons_succ]
              refine H.one (i := 11) (by simp only [List.getElem?_toArray, List.getElem?_cons_succ, List.getElem?_cons_zero]; rfl) (by kernel_rfl) (by kernel_rfl) (fun K hK => ?_)
              refine wp_store_row 25 _ _ rfl g q.1.cells rfl rfl 25 Kx.zero.cells G0.out infoX rfl (oneX _) ?_
              refine hK.out _ _ (Box.below_setRow hS hz0 _) ?_
              clear hK K
              have hS' := Box.below_setRow hS hz0 q.1.cells
              clear hS
              have hS := hS'
              clear hS'
              have G0 := Lib.hid (G0.out.put q.1.cells)
              have HM := Lib.hid ((HM.out.under hgY q.1.cells).mono (B' := V2.heap.size) (by omega))
              generalize X1.setRow g q.1.cells = Y at *
              try simp only [Act.put]
              refine H.tk (i := 12) (v := .slice qa ls2.length qk) ?h12x17 hS ?_
              case h12x17 => exact (fun w hw => by go_simp)
              try simp only [Act.put, List.setIfInBounds_toArray, List.set_cons_zero, List.set_cons_succ]
              refine H.tk (i := 13) (v := .int .i64 q.2.2) ?h13x18 hS ?_
              case h13x18 => exact (fun w hw => by go_simp)
              try simp only [Act.put, List.setIfInBounds_toArray, List.set_cons_zero, List.set_cons_succ]
              refine wpAnyH_done (by kernel_rfl) ?_ _
              go_wp2_with fail
              go_meet
              exact ⟨g, qa, qk, ls2, rfl, rfl, rfl, HP.out, HM.out, G0.out, hz0, hS⟩
          case rest =>
            obtain ⟨g2, qa, qk, ls2, rfl, rfl, rfl, hp, hm, hg, hgr, hb⟩ := hcut
            have D := Lib.hid (D.out.call hb)
            have HT := Lib.hid (HT.out.below hb)
            have HM0 := Lib.hid (HM0.out.below hb)
            have HG2 := Lib.hid hg
            have HP2 := Lib.hid hp
            have HM2 := Lib.hid hm
            have hl2 : ls2.length ≤ 1 := by rw [hp.1]; exact hfew
            have hwc := hb.size
            clear hb hg hp hm P1
            generalize wc = W at *
            go_upto_region 18 with (first | (refine wpList_loadX (b := g2) (m := q.1) rfl _ rfl rfl HG2.out ?_) | (refine wpList_storeX (b := w.heap.size) (m := c) (m' := q.1) rfl _ _ rfl rfl rfl D.out.s0 ?_))
            have D := Lib.hid (D.out.put q.1)
            have HT := Lib.hid (HT.out.row (g := w.heap.size) (by omega) q.1.cells)
            have HM0 := Lib.hid (HM0.out.under (g := w.heap.size) (by omega) (by omega) q.1.cells)
            have HM2 := Lib.hid ((HM2.out.under (g := w.heap.size) (by omega) q.1.cells).mono (show w1.heap.size ≤ V2.heap.size by omega))
            have HWS := Lib.hid (show w1.heap.size ≤ (W.setRow w.heap.size q.1.cells).heap.size by simp; omega)
            clear HG2
            generalize W.setRow w.heap.size q.1.cells = W2 at *
            have HLN := Lib.hid (show ls.length + ls2.length ≤ 100000 by have := HK0.out; omega)
            go_wp2_with (at_builtin; refine app_list rfl _ _ rfl w1.heap.size w1.heap.size _ ls ls2 qa qk rfl HM0.out rfl HM2.out HLN.out HWS.out ?_)
            intro v' w' hl hb hgr2
            go_wp2_with fail
            go_meet
            exact ⟨ls ++ ls2, M.zero, false, by rw [HER.out], rfl, D.out.under hb (by omega), HT.out.under hb hglt, hl, by have := HK0.out; rw [List.length_append]; omega, by have := HK0.out; simp; omega, by simpa using Fq.PlL.app HP0.out HP2.out, fun h => (by cases h), by have := hb.size; have := HWS.out; omega⟩
    case rest =>
      obtain ⟨lx, nn, b, rfl, rfl, hD, hT, hM, hlx, hly, hP, hX, hzc⟩ := hcut
      have D := Lib.hid hD
      have HT := Lib.hid hT
      have HM := Lib.hid hM
      have HP := Lib.hid hP
      have HLX := Lib.hid hlx
      have HLY := Lib.hid hly
      clear hD hT hM hP hlx hly HM0 HP0 X0 HA ix hfew hq HER
      generalize wc = W at *
      cases b with
      | false =>
        clear hX
        have HP := Lib.hid (show PlL lx (o ++ q.2.1) by have := HP.out; simpa using this)
        have HZ := Lib.hid hzc
        clear hzc
        go_wp2_with fail
        go_roundw
        case rel => exact ⟨k + 1, q.1, o ++ q.2.1, lx, hlt, by go_num, rfl, HG, HFS, HP, HLX, HM, D, HT, HZ⟩
        case measure => simp [intOf]; omega
      | true =>
        obtain ⟨hx, hnl, hln⟩ := hX rfl
        have X0 := Lib.hid hx
        have HP := Lib.hid (show PlL (lx ++ [nn]) (o ++ q.2.1) from HP.out)
        have HLY := Lib.hid (show (lx ++ [nn]).length ≤ k + 1 from HLY.out)
        have bel := balloc (Below.refl W.heap.size W) (.cells nn.cells 29)
        have HM2 := Lib.hid (one_new (n := nn) hnl hln hzc)
        have HM := Lib.hid (HM.out.below bel)
        have HLN := Lib.hid (show lx.length + ([nn] : List M).length ≤ 100000 by have := HLX.out; show lx.length + 1 ≤ _; omega)
        have HWS := Lib.hid (Nat.le_trans hzc bel.size)
        have hwz := bel.size
        go_upto_region 7 with (first | (refine wpList_loadM (b := g) (m := nn) rfl _ rfl rfl X0.out ?_) | (refine Ap.bs_one (m := nn) rfl _ rfl rfl ?_) | (at_builtin; refine app_list rfl _ _ rfl w1.heap.size w1.heap.size _ lx [nn] (some ⟨W.heap.size, 0, none⟩) 1 rfl HM.out rfl HM2.out HLN.out HWS.out ?_))
        intro v' w' hl hb hgr
        have D := Lib.hid ((D.out.call bel).under hb (by omega))
        have HT := Lib.hid ((HT.out.below bel).under hb hglt)
        have HM := Lib.hid hl
        have HZ := Lib.hid (show w1.heap.size ≤ w'.heap.size from by have := hb.size; omega)
        clear hl hb hgr hx hnl hln hzc hX bel HM2 HLN HWS hwz
        go_wp2
        go_roundw
        case rel => exact ⟨k + 1, q.1, o ++ q.2.1, lx ++ [nn], hlt, by go_num, rfl, HG, HFS, HP, HLY, HM, D, HT, HZ⟩
        case measure => simp [intOf]; omega
end Go.Proofs.YtfegdblaohhdoaaGreatDoor.Lt
namespace Go.Proofs.YtfegdblaohhdoaaGreatDoor.Ko
open Go.ChangeShapes Go.WideShapes Go.ChangeAt Go.RowKit
open Go.Proofs.YtfegdblaohhdoaaGreatDoor.Ms
open Go.Proofs.YtfegdblaohhdoaaGreatDoor.Lk (link rlink_bel)
open Go.Proofs.YtfegdblaohhdoaaGreatDoor.J1
open Go.Proofs.YtfegdblaohhdoaaGreatDoor.J2 (nil_eq nil_em size_eq)
open Go.Proofs.YtfegdblaohhdoaaGreatDoor.K1
open Go.Proofs.YtfegdblaohhdoaaGreatDoor.Kb
open Go.Proofs.YtfegdblaohhdoaaGreatDoor.K2
open Go.Proofs.YtfegdblaohhdoaaGreatDoor.Bk (Bk alloc_size)
set_option linter.unusedVariables false
set_option maxRecDepth 100000
set_option maxRecDepth 100000
theorem wpList_store4 {ops : Array Oper} {rest : List Oper} {o : Oper} {a : Act} {w : World} {Q : Exit → Act → World → Prop} (hgd : o.guard = none) (x y : Operand) (ho : o.op = .store 22 x y)
    {g : Nat} (hx : a.eval x = .pointer (some ⟨g, 0, none⟩)) {p q r s p' q' r' s' : ByteArray} (hy : a.eval y = .agg #[.string p', .string q', .string r', .string s']) (hb : Bk 22 w g #[.string p, .string q, .string r, .string s])
    (h : wpList Tryz.prog ops Q rest (a.put o.dst undef) (w.setRow g #[.string p', .string q', .string r', .string s'])) : wpList Tryz.prog ops Q (o :: rest) a w :=
  wpList_store_row hgd 22 x y ho g _ hx hy 22 _ hb (by kernel_rfl) rfl (by simp [Value.oneCell']) h
theorem ne_of {x : Int} {k : Int} {b : Bool} (h : (x == k) = b) : (x != k) = !b := by rw [bne, h]
set_option maxHeartbeats 12800000 in
theorem rok_any (c : Kx) (w : World) : Calls Tryz.prog 7 #[.agg c.cells] w fun e w' => e = .returned (.bool (okC c)) ∧ Below w.heap.size w w' := by
  have HK := Lib.hid (show okC c = (decide (c.p0.size = 0) && ((decide (c.p1.size = 0) || decide (c.p1.size = 4)) && ((decide (c.p2.size = 0) || decide (c.p2.size = 16)) && ((decide (c.p3.size = 0) || link c.p3) && ((decide (c.n0.size = 0) || decide (c.n0.size = 4)) && ((decide (c.n1.size = 0) || decide (c.n1.size = 16)) && (decide (c.id.size = 0) || decide (c.id.size = 8)))))))) from rfl)
  have C0 := Lib.hid (Bk.Bk.new 25 w c.cells)
  have HB := Lib.hid (balloc (Below.refl _ w) (.cells c.cells 25))
  have PL := Lib.hid (fun V => rlink_bel c.p3 V)
  have n0 := nil_eq c.p0
  have m0 := nil_em c.p0
  have n1 := nil_eq c.p1
  have m1 := nil_em c.p1
  have q1 : ((c.p1.size : Int) == 4) = decide (c.p1.size = 4) := size_eq c.p1 4
  have r1 := ne_of q1
  have n2 := nil_eq c.p2
  have m2 := nil_em c.p2
  have q2 : ((c.p2.size : Int) == 16) = decide (c.p2.size = 16) := size_eq c.p2 16
  have r2 := ne_of q2
  have n3 := nil_eq c.p3
  have m3 := nil_em c.p3
  have n4 := nil_eq c.n0
  have m4 := nil_em c.n0
  have q4 : ((c.n0.size : Int) == 4) = decide (c.n0.size = 4) := size_eq c.n0 4
  have r4 := ne_of q4
  have n5 := nil_eq c.n1
  have m5 := nil_em c.n1
  have q5 : ((c.n1.size : Int) == 16) = decide (c.n1.size = 16) := size_eq c.n1 16
  have r5 := ne_of q5
  have n6 := nil_eq c.id
  have m6 := nil_em c.id
  have q6 : ((c.id.size : Int) == 8) = decide (c.id.size = 8) := size_eq c.id 8
  have r6 := ne_of q6
  generalize okC c = y at *
  generalize decide (c.p0.size = 0) = z0 at *
  generalize decide (c.p1.size = 0) = z1 at *
  generalize decide (c.p1.size = 4) = s1 at *
  generalize decide (c.p2.size = 0) = z2 at *
  generalize decide (c.p2.size = 16) = s2 at *
  generalize decide (c.p3.size = 0) = z3 at *
  generalize decide (c.n0.size = 0) = z4 at *
  generalize decide (c.n0.size = 4) = s4 at *
  generalize decide (c.n1.size = 0) = z5 at *
  generalize decide (c.n1.size = 16) = s5 at *
  generalize decide (c.id.size = 0) = z6 at *
  generalize decide (c.id.size = 8) = s6 at *
  generalize link c.p3 = s3 at *
  go_enter Tryz.func7, Tryz.ntmps7
  go_upto_region 1 with fail
  change Code.wp _ _ _ _ (w.alloc (.cells c.cells 25))
  generalize w.alloc (.cells c.cells 25) = V at *
  go_upto_region 2 with (first | (refine wpList_loadAt (b := w.heap.size) (off := 0) (l := [.string c.p0, .string c.p1, .string c.p2, .string c.p3]) rfl _ rfl rfl C0.out (four_in c) (agg4 _) (size4 _) ?_) | (refine wpList_store4 (g := V.heap.size) rfl _ _ rfl rfl rfl (Bk.Bk.new 22 V #[.string ByteArray.empty, .string ByteArray.empty, .string ByteArray.empty, .string ByteArray.empty]) ?_))
  change Code.wp _ _ _ _ ((V.alloc (.cells #[.string ByteArray.empty, .string ByteArray.empty, .string ByteArray.empty, .string ByteArray.empty] 22)).setRow V.heap.size #[.string c.p0, .string c.p1, .string c.p2, .string c.p3])
  rw [World.setRow_alloc_new]
  have A0 := Lib.hid (Bk.Bk.new 22 V #[.string c.p0, .string c.p1, .string c.p2, .string c.p3])
  have bel := balloc (Below.refl V.heap.size V) (.cells #[.string c.p0, .string c.p1, .string c.p2, .string c.p3] 22)
  have C0 := Lib.hid (C0.out.below bel)
  have HB := Lib.hid (bcall HB.out bel)
  clear bel
  generalize V.alloc (.cells #[.string c.p0, .string c.p1, .string c.p2, .string c.p3] 22) = W at *
  generalize V.heap.size = g at *
  simp only [Act.put]
  go_cut [41] (fun m wx => m = .bool (!(z0 && ((z1 || s1) && ((z2 || s2) && (z3 || s3))))) ∧ Below W.heap.size W wx)
  case first =>
    have HB := Lib.hid (Below.refl W.heap.size W)
    have a0 := A0.out.cell 0 (.string c.p0) rfl
    have a1 := A0.out.cell 1 (.string c.p1) rfl
    have a2 := A0.out.cell 2 (.string c.p2) rfl
    have a3 := A0.out.cell 3 (.string c.p3) rfl
    clear A0 C0 HK
    cases z0
    rotate_left
    · cases z1
      rotate_left
      · cases z2
        rotate_left
        · cases z3
          rotate_left
          · go_wp2_with fail
            go_meet
            exact ⟨rfl, HB.out⟩
          cases s3
          · go_wp2_with fail
            refine (PL.out _).mono ?_
            rintro r w' ⟨rfl, hb⟩
            have HB := Lib.hid (bcall HB.out hb)
            clear hb
            go_wp2_with fail
            go_meet
            exact ⟨rfl, HB.out⟩
          go_wp2_with fail
          refine (PL.out _).mono ?_
          rintro r w' ⟨rfl, hb⟩
          have HB := Lib.hid (bcall HB.out hb)
          clear hb
          go_wp2_with fail
          go_meet
          exact ⟨rfl, HB.out⟩
        cases s2
        · go_wp2_with fail
          go_meet
          exact ⟨rfl, HB.out⟩
        cases z3
        rotate_left
        · go_wp2_with fail
          go_meet
          exact ⟨rfl, HB.out⟩
        cases s3
        · go_wp2_with fail
          refine (PL.out _).mono ?_
          rintro r w' ⟨rfl, hb⟩
          have HB := Lib.hid (bcall HB.out hb)
          clear hb
          go_wp2_with fail
          go_meet
          exact ⟨rfl, HB.out⟩
        go_wp2_with fail
        refine (PL.out _).mono ?_
        rintro r w' ⟨rfl, hb⟩
        have HB := Lib.hid (bcall HB.out hb)
        clear hb
        go_wp2_with fail
        go_meet
        exact ⟨rfl, HB.out⟩
      cases s1
      · go_wp2_with fail
        go_meet
        exact ⟨rfl, HB.out⟩
      cases z2
      rotate_left
      · cases z3
        rotate_left
        · go_wp2_with fail
          go_meet
          exact ⟨rfl, HB.out⟩
        cases s3
        · go_wp2_with fail
          refine (PL.out _).mono ?_
          rintro r w' ⟨rfl, hb⟩
          have HB := Lib.hid (bcall HB.out hb)
          clear hb
          go_wp2_with fail
          go_meet
          exact ⟨rfl, HB.out⟩
        go_wp2_with fail
        refine (PL.out _).mono ?_
        rintro r w' ⟨rfl, hb⟩
        have HB := Lib.hid (bcall HB.out hb)
        clear hb
        go_wp2_with fail
        go_meet
        exact ⟨rfl, HB.out⟩
      cases s2
      · go_wp2_with fail
        go_meet
        exact ⟨rfl, HB.out⟩
      cases z3
      rotate_left
      · go_wp2_with fail
        go_meet
        exact ⟨rfl, HB.out⟩
      cases s3
      · go_wp2_with fail
        refine (PL.out _).mono ?_
        rintro r w' ⟨rfl, hb⟩
        have HB := Lib.hid (bcall HB.out hb)
        clear hb
        go_wp2_with fail
        go_meet
        exact ⟨rfl, HB.out⟩
      go_wp2_with fail
      refine (PL.out _).mono ?_
      rintro r w' ⟨rfl, hb⟩
      have HB := Lib.hid (bcall HB.out hb)
      clear hb
      go_wp2_with fail
      go_meet
      exact ⟨rfl, HB.out⟩
    go_wp2_with fail
    go_meet
    exact ⟨rfl, HB.out⟩
  case rest =>
    obtain ⟨rfl, hbc⟩ := hcut
    have C0 := Lib.hid (C0.out.below hbc)
    have HB := Lib.hid (bcall HB.out hbc)
    clear hbc A0 PL n0 n1 n2 n3 m0 m1 m2 m3 q1 q2 r1 r2
    generalize hzz : (z0 && ((z1 || s1) && ((z2 || s2) && (z3 || s3)))) = zz at *
    have HK := Lib.hid (show y = (zz && ((z4 || s4) && ((z5 || s5) && (z6 || s6)))) from by rw [HK.out, ← hzz]; simp only [Bool.and_assoc])
    clear hzz
    have c4 := C0.out.cell 4 (.string c.n0) rfl
    have c5 := C0.out.cell 5 (.string c.n1) rfl
    have c6 := C0.out.cell 6 (.string c.id) rfl
    clear C0
    cases zz
    · go_wp2
      go_ret
      exact ⟨bool_eq HK.out.symm, HB.out⟩
    cases z4
    rotate_left
    · cases z5
      rotate_left
      · cases z6
        rotate_left
        · go_wp2
          go_ret
          exact ⟨bool_eq HK.out.symm, HB.out⟩
        cases s6
        · go_wp2
          go_ret
          exact ⟨bool_eq HK.out.symm, HB.out⟩
        go_wp2
        go_ret
        exact ⟨bool_eq HK.out.symm, HB.out⟩
      cases s5
      · go_wp2
        go_ret
        exact ⟨bool_eq HK.out.symm, HB.out⟩
      cases z6
      rotate_left
      · go_wp2
        go_ret
        exact ⟨bool_eq HK.out.symm, HB.out⟩
      cases s6
      · go_wp2
        go_ret
        exact ⟨bool_eq HK.out.symm, HB.out⟩
      go_wp2
      go_ret
      exact ⟨bool_eq HK.out.symm, HB.out⟩
    cases s4
    · go_wp2
      go_ret
      exact ⟨bool_eq HK.out.symm, HB.out⟩
    cases z5
    rotate_left
    · cases z6
      rotate_left
      · go_wp2
        go_ret
        exact ⟨bool_eq HK.out.symm, HB.out⟩
      cases s6
      · go_wp2
        go_ret
        exact ⟨bool_eq HK.out.symm, HB.out⟩
      go_wp2
      go_ret
      exact ⟨bool_eq HK.out.symm, HB.out⟩
    cases s5
    · go_wp2
      go_ret
      exact ⟨bool_eq HK.out.symm, HB.out⟩
    cases z6
    rotate_left
    · go_wp2
      go_ret
      exact ⟨bool_eq HK.out.symm, HB.out⟩
    cases s6
    · go_wp2
      go_ret
      exact ⟨bool_eq HK.out.symm, HB.out⟩
    go_wp2
    go_ret
    exact ⟨bool_eq HK.out.symm, HB.out⟩
end Go.Proofs.YtfegdblaohhdoaaGreatDoor.Ko
namespace Go.Proofs.YtfegdblaohhdoaaGreatDoor.K9
open Go.ChangeShapes Go.WideShapes Go.ChangeAt Go.RowKit
open Go.Proofs.YtfegdblaohhdoaaGreatDoor.Ms
open Go.Proofs.YtfegdblaohhdoaaGreatDoor.Box
open Go.Proofs.YtfegdblaohhdoaaGreatDoor.S1
open Go.Proofs.YtfegdblaohhdoaaGreatDoor.J1
open Go.Proofs.YtfegdblaohhdoaaGreatDoor.An
open Go.Proofs.YtfegdblaohhdoaaGreatDoor.Tc
open Go.Proofs.YtfegdblaohhdoaaGreatDoor.All
open Go.Proofs.YtfegdblaohhdoaaGreatDoor.K1
open Go.Proofs.YtfegdblaohhdoaaGreatDoor.Kb
open Go.Proofs.YtfegdblaohhdoaaGreatDoor.K2
open Go.Proofs.YtfegdblaohhdoaaGreatDoor.F1 (bt)
open Go.Proofs.YtfegdblaohhdoaaGreatDoor.Tl (cellsT)
open Go.Proofs.YtfegdblaohhdoaaGreatDoor.Bk (Bk alloc_size wpList_builtK run_loadK)
open Go.Proofs.YtfegdblaohhdoaaGreatDoor.Hs
open Go.Proofs.YtfegdblaohhdoaaGreatDoor.Or (st_yes)
set_option linter.unusedVariables false
set_option maxRecDepth 100000
set_option maxRecDepth 100000
theorem add_zero (q : Addr) : q.add 0 = q := by unfold Addr.add; simp
/-- The cells of a list of one message. -/
structure One (W : World) (q : Addr) (n : M) : Prop where
  lt : q.block < W.heap.size
  cs : ∀ j v, (n.cells.toList)[j]? = some v → W.cell? (q.add j) = some v
  d : DRow W n.la n.ll
  s : SRow W n.sa n.sl
theorem One.below {W W' : World} {q : Addr} {n : M} (h : One W q n) (hb : Below W.heap.size W W') : One W' q n :=
  ⟨Nat.lt_of_lt_of_le h.lt hb.size, fun j v hv => (hb.cell (by rw [add_block]; exact h.lt)).trans (h.cs j v hv), h.d.below hb, h.s.below hb⟩
theorem one_of {B : Nat} {W : World} {a : Option Addr} {n : M} (h : MOwn B W a [n]) : ∃ q : Addr, a = some q ∧ One W q n := by
  obtain ⟨p, h1, _, h3, h4, h5, h6⟩ := h 0 (by simp)
  refine ⟨p, h1, h3, fun j v hv => ?_, by rw [show n.ll = [] from h5]; exact DRow.nil _ _, h6.row⟩
  have := h4 j v hv
  rw [Nat.zero_mul, add_zero] at this
  exact this
theorem One.in {W : World} {q : Addr} {n : M} (h : One W q n) (h1 : n.ll.length ≤ 1048576) (h2 : n.sl.length ≤ 1048576) : n.In W := ⟨h.d, h.s, h1, h2⟩
theorem run_loadO {o : Oper} {ρ : Operand → Value} {x : Operand} {q : Addr} {m : M} {w : World} (ho : o.op = .load 29 x) (hx : ρ x = .pointer (some q)) (h : One w q m) : (execOp ρ o).run Tryz.prog w = .ok (.value (.agg m.cells)) w := ex_loadA ho hx h.cs
end Go.Proofs.YtfegdblaohhdoaaGreatDoor.K9
namespace Go.Proofs.YtfegdblaohhdoaaGreatDoor.Le
open Go.ChangeShapes Go.WideShapes Go.ChangeAt Go.RowKit
open Go.Proofs.YtfegdblaohhdoaaGreatDoor.Ms
open Go.Proofs.YtfegdblaohhdoaaGreatDoor.Box
open Go.Proofs.YtfegdblaohhdoaaGreatDoor.An
open Go.Proofs.YtfegdblaohhdoaaGreatDoor.J1
open Go.Proofs.YtfegdblaohhdoaaGreatDoor.K1
open Go.Proofs.YtfegdblaohhdoaaGreatDoor.Kb
open Go.Proofs.YtfegdblaohhdoaaGreatDoor.G1 (okF typF)
open Go.Proofs.YtfegdblaohhdoaaGreatDoor.L1
open Go.Proofs.YtfegdblaohhdoaaGreatDoor.L2
open Go.Proofs.YtfegdblaohhdoaaGreatDoor.Lc
open Go.Proofs.YtfegdblaohhdoaaGreatDoor.F1 (placed placed_len encT)
open Go.Proofs.YtfegdblaohhdoaaGreatDoor.K9 (One one_of)
set_option linter.unusedVariables false
set_option maxRecDepth 100000
theorem same_symm (a b : M) : M.same a b = M.same b a := by
  unfold M.same M.flatE
  rw [Bool.eq_iff_iff]
  constructor <;> (intro h; simp only [Bool.and_eq_true, beq_iff_eq, decide_eq_true_eq] at h ⊢; simp [h])
theorem oth_type {m : M} (h : okL m = true) (k : ¬ m.kind = 11) : 2 ≤ (othE m).2 := by
  unfold othE
  rcases ok_not h k with hF | ⟨nF, hJ⟩ | ⟨nF, nJ, hO⟩
  · rw [if_pos hF]; have := G1.fld_len hF; show 2 ≤ typF m; omega
  · rw [if_neg (by rw [nF]; decide), if_pos hJ]; have := (J1.fld_len hJ).2; show 2 ≤ typJ m; omega
  · rw [if_neg (by rw [nF]; decide), if_neg (by rw [nJ]; decide)]; have := o_parts hO; show 2 ≤ m.typ; omega
theorem els_type {c : Kx} {m : M} (h : okL m = true) : ∀ x ∈ elsL c m, 2 ≤ x.2 := by
  intro x hx
  unfold elsL at hx
  by_cases k : m.kind = 11
  · rw [if_pos k] at hx
    rcases List.mem_append.1 hx with hx | hx
    · unfold wayE at hx
      split at hx
      · exact absurd hx (by simp)
      · rcases List.mem_append.1 hx with hx | hx
        · split at hx
          · exact absurd hx (by simp)
          · rw [List.mem_singleton] at hx; rw [hx]; show (2 : Int) ≤ 6; decide
        · split at hx
          · exact absurd hx (by simp)
          · rw [List.mem_singleton] at hx; rw [hx]; show (2 : Int) ≤ 7; decide
    · rw [List.mem_singleton] at hx; rw [hx]; show (2 : Int) ≤ 8; decide
  · rw [if_neg k, List.mem_singleton] at hx
    rw [hx]; exact oth_type h k
theorem placed_mem : ∀ (l : List F1.El) (p : Int) (x : F1.T), x ∈ placed p l → x.2 ∈ l
  | [], p, x, h => absurd h (by simp [placed])
  | y :: l, p, x, h => by
      rw [placed] at h
      rcases List.mem_cons.1 h with rfl | h
      · exact List.mem_cons_self
      · exact List.mem_cons_of_mem _ (placed_mem l _ x h)
theorem els_pos (c : Kx) (m : M) : 0 < (elsL c m).length := by
  unfold elsL
  split
  · rw [List.length_append]; exact Nat.lt_of_lt_of_le Nat.zero_lt_one (Nat.le_add_left _ _)
  · exact Nat.zero_lt_one
/-- Taken where they were written, a message's bytes tell it alone. -/
theorem tk_any (c : Kx) (m : M) (w : World) (hc : okC c = true) (h : okL m = true) (hb : badC c m = false) :
    Calls Tryz.prog 15 #[.agg c.cells, .string ⟨(encT (elsL c m)).toArray⟩] w fun e w' => ∃ q k n, e = .returned (.tuple #[.slice (some q) 1 k, .agg (ctxL c m).cells, .bool true]) ∧ Pl n (canM m) ∧ One w' q n ∧ Below w.heap.size w w' := by
  have hs := Lv.els_size (c := c) h hb
  have ho := els_ok (c := c) h hb
  refine (Lt.take_any c (ctxL c m) ⟨(encT (elsL c m)).toArray⟩ (placed 0 (elsL c m)) [canM m] w (by rw [mk_size]; omega) (split_yes h hb) (by rw [placed_len]; exact els_pos c m) (by rw [placed_len]; omega) (fun x hx => els_type h _ (placed_mem _ _ _ hx)) (fun x hx => by have := (ho _ (placed_mem _ _ _ hx)).2.2.1; omega) hc (put_fold h hb 0 [])).mono ?_
  rintro e w' ⟨a, k, ls, rfl, hp, hm, hbl⟩
  obtain ⟨n, rfl, hn⟩ := hp.at_one
  obtain ⟨q, rfl, hq⟩ := one_of hm
  exact ⟨q, k, n, rfl, hn, hq, hbl⟩
end Go.Proofs.YtfegdblaohhdoaaGreatDoor.Le
