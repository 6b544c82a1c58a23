/-
  An Update's TLVs, any message's, and its bytes: the program's update, tlvs and Put. Conditions: what is known may be; the message's lists stand in the world, and aren't long; the variables have what they are laid with.
-/
import Derived.Test.YtjhfpobjbijcpaaGreatDoorE27
import Derived.Test.YtjhfpobjbijcpaaGreatDoorE32
namespace Go.Proofs.YtjhfpobjbijcpaaGreatDoor.Lu
open Go.ChangeShapes Go.WideShapes Go.ChangeAt Go.RowKit
open Go.Proofs.YtjhfpobjbijcpaaGreatDoor.Ms
open Go.Proofs.YtjhfpobjbijcpaaGreatDoor.Box
open Go.Proofs.YtjhfpobjbijcpaaGreatDoor.An
open Go.Proofs.YtjhfpobjbijcpaaGreatDoor.Tc
open Go.Proofs.YtjhfpobjbijcpaaGreatDoor.J1
open Go.Proofs.YtjhfpobjbijcpaaGreatDoor.K1
open Go.Proofs.YtjhfpobjbijcpaaGreatDoor.Kb
open Go.Proofs.YtjhfpobjbijcpaaGreatDoor.L1
open Go.Proofs.YtjhfpobjbijcpaaGreatDoor.L2
open Go.Proofs.YtjhfpobjbijcpaaGreatDoor.L5
open Go.Proofs.YtjhfpobjbijcpaaGreatDoor.L6
open Go.Proofs.YtjhfpobjbijcpaaGreatDoor.Lw
open Go.Proofs.YtjhfpobjbijcpaaGreatDoor.Cx
open Go.Proofs.YtjhfpobjbijcpaaGreatDoor.F1 (enc1 enc1_len encT)
open Go.Proofs.YtjhfpobjbijcpaaGreatDoor.Bk (Bk alloc_size run_loadK loadVarK)
open Go.Proofs.YtjhfpobjbijcpaaGreatDoor.Js (Lst bs_one ex_bs cells_new infoT rowT catJ flat)
open Go.Proofs.YtjhfpobjbijcpaaGreatDoor.Hs
open Go.Proofs.YtjhfpobjbijcpaaGreatDoor.Hy
open Go.Proofs.YtjhfpobjbijcpaaGreatDoor.Or (st_yes)
set_option linter.unusedVariables false
set_option maxRecDepth 100000
set_option maxRecDepth 100000
/-- A list of texts shares no block with a struct. -/
theorem own_bk {B g : Nat} {w : World} {v : Value} {l : List ByteArray} {cs : Array Value} (h : Lst B w v l) (hg : Bk 44 w g cs) : v.ownBlock ≠ some g := by
  intro e
  rcases h.2 with ⟨hv, _⟩ | ⟨k, cap, cur, hv, _, hk, _⟩
  · rw [hv] at e; cases e
  · rw [hv] at e
    injection e with e
    have e : k = g := e
    subst e
    have hg : w.heap[k]? = some (.cells cs 44 (0, 0)) := hg
    rw [hk] at hg
    injection hg with hg
    injection hg with _ h1
    exact absurd h1 (by decide)
theorem lst_off {B : Nat} {w : World} {v : Value} {l : List ByteArray} (h : Lst B w v l) {p : Addr} (hg : v.ownBlock ≠ some p.block) (u : Value) : Lst B (w.setCell p u) v l := by
  refine ⟨h.1, ?_⟩
  rcases h.2 with h | ⟨k, cap, cur, a, b, c, d⟩
  · exact .inl h
  · refine .inr ⟨k, cap, cur, a, b, (heap_setCell_other w p k u (fun e => hg ?_)).trans c, d⟩
    rw [a, ← e]; rfl
/-- append(v, x), behind the making of the list of x alone: no block but the list's own is changed. -/
theorem app_two {ops : Array Oper} {rest : List Oper} {o : Oper} {a : Act} {w : World} {Q : Exit → Act → World → Prop} (hgd : o.guard = none) (s x : Operand)
    (ho : o.op = .call { callee := .builtin .append, args := #[s, x], argTypes := #[84, 84] }) (B : Nat) (v : Value) (l : List ByteArray) (m : ByteArray) (g c : Nat)
    (hs : a.eval s = v) (hown : Lst B w v l) (hx : a.eval x = .slice (some ⟨g, 0, none⟩) 1 c) (hm : ∀ j u, ([Value.string m])[j]? = some u → w.cell? ((⟨g, 0, none⟩ : Addr).add j) = some u)
    (hl : l.length ≤ 100000) (hB : B ≤ w.heap.size)
    (h : ∀ v' w', Lst B w' v' (l ++ [m]) → Below B w w' → (∀ k cs, Bk 44 w k cs → Bk 44 w' k cs) → w.heap.size ≤ w'.heap.size → wpList Tryz.prog ops Q rest (a.put o.dst v') w') : wpList Tryz.prog ops Q (o :: rest) a w := by
  obtain ⟨i0, hi, hz, hsz, hby⟩ := infoT
  refine wpList_append_own w hgd s x 84 ho B 9 i0 (.string ByteArray.empty) 1 i0.bytes Tryz.underlying84 hi hz hsz rfl rfl (by decide) v l.length (rowT l) hs hown ⟨g, 0, none⟩ 1 c [.string m] hx rfl hm ?_ (by unfold maxLen; omega) ?_ hB ?_
  · intro u hu
    rw [List.mem_singleton] at hu
    rw [hu]; rfl
  · have : (l.length + 1) * i0.bytes ≤ 100001 * 4096 := Nat.mul_le_mul (by omega) hby
    omega
  · intro v' w' h2 h3 _
    refine h v' w' ?_ ((Below.refl B w).grown h3 hB (fun k hk => (World.ownsRow.lt hown k hk).1)) (fun k cs hk => (h3.block k hk.lt (fun e => own_bk hown hk e.symm)).trans hk) h3.size
    unfold Lst
    have e : rowT (l ++ [m]) = rowT l ++ [.string m] := by simp [rowT]
    rw [e, List.length_append]
    exact h2
/-- What update answers, what tlvs does. -/
def updP (c : Kx) (m : M) : List ByteArray × Kx × Int := if badC c m = true then ([], c, 9) else (elB (elsL c m), ctxL c m, 0)
def tlvP (c : Kx) (m : M) : List ByteArray × Kx × Int := if okL m = true then updP c m else ([], c, 1)
theorem AnsW.said {p : List ByteArray × Kx × Int} {ls : List ByteArray} {cf : Kx} {er : Int} {w : World} {e : Ending} {w' : World} (h : AnsW p w e w') (hp : p = (ls, cf, er)) :
    ∃ a k, e = .returned (.tuple #[.slice a ls.length k, .agg cf.cells, .int .i64 er]) ∧ Lst w.heap.size w' (.slice a ls.length k) ls ∧ Below w.heap.size w w' := by
  subst hp; exact h
theorem way_len (c : Kx) (m : M) : (elB (wayE c m)).length ≤ 2 := by
  rw [elB_len]; unfold wayE
  split
  · exact Nat.zero_le _
  · rw [List.length_append]; split <;> split <;> simp
set_option maxHeartbeats 25600000 in
set_option maxRecDepth 100000 in
theorem update_any (c : Kx) (m : M) (w : World) (hm : m.In w) (ln : m.sl.length ≤ 2000) (lb : ∀ x ∈ m.sl, x.1.size ≤ 1099511627776) (hc : okC c = true) (h : okU m = true) : Calls Tryz.prog 76 #[.agg c.cells, .agg m.cells] w (AnsW (updP c m) w) := by
  have o := (oku_iff m).1 h
  obtain ⟨a0, a1, _, _⟩ := len_range (in_cases o.pfx).1
  cases hb : badC c m
  rotate_left
  · have HY := Lib.hid (show updP c m = ([], c, 9) by unfold updP; rw [hb, if_pos rfl])
    have PW := Lib.hid (fun V (y : m.In V) => (way_any c m V y hc h).mono (fun e w' x => AnsW.said (ls := []) (cf := c) (er := 9) x (by unfold wayP; rw [hb, if_pos rfl])))
    clear hb hc h o a0 a1 ln lb
    go_enter Tryz.func76, Tryz.ntmps76
    go_upto_region 1 with fail
    change Code.wp _ _ _ _ (((w.alloc (.cells c.cells 44)).alloc (.cells m.cells 38)).alloc (.cells Kx.zero.cells 44))
    have D := Lib.hid ((Us.start w c m hm).call (balloc (Below.refl _ _) (.cells Kx.zero.cells 44)))
    have R0 := Lib.hid (res_new w c m)
    clear hm
    generalize ((w.alloc (.cells c.cells 44)).alloc (.cells m.cells 38)).alloc (.cells Kx.zero.cells 44) = V at *
    go_wp2_with (first | (refine wpList_loadX (b := w.heap.size) (m := c) rfl _ rfl rfl D.out.s0 ?_) | (refine wpList_loadM (b := w.heap.size + 1) (m := m) rfl _ rfl rfl D.out.m0 ?_))
    refine (PW.out _ D.out.i).mono ?_
    rintro r w1 ⟨qa, qk, rfl, hl, hb⟩
    have D := Lib.hid (D.out.call hb)
    have R0 := Lib.hid (R0.out.below hb)
    clear hl hb PW
    go_upto_region 2 with (refine wpList_storeX (b := w1.heap.size) (m := Kx.zero) (m' := c) rfl _ _ rfl rfl rfl (Bk.Bk.new 44 w1 Kx.zero.cells) ?_)
    change Code.wp _ _ _ _ ((w1.alloc (.cells Kx.zero.cells 44)).setRow w1.heap.size (Kx.cells c))
    rw [World.setRow_alloc_new]
    have bel := balloc (Below.refl w1.heap.size w1) (.cells (Kx.cells c) 44)
    have D := Lib.hid (D.out.call bel)
    have S1 := Lib.hid (Bk.Bk.new 44 w1 (Kx.cells c))
    have R0 := Lib.hid (R0.out.below bel)
    clear bel S1
    generalize w1.alloc (.cells (Kx.cells c) 44) = V at *
    go_upto_region 3 with fail
    have R0 := Lib.hid (show Bk 44 V.drew (w.heap.size + 1 + 1) Kx.zero.cells from R0.out)
    have HB := Lib.hid (show Below w.heap.size w V.drew from D.out.bel.drew)
    refine wp_region_held_drew (S := fun X => Bk 44 X w.heap.size (Kx.cells c)) (by kernel_rfl) (D.out.s0) (fun hS => ?_)
    clear D
    generalize V.drew = Z0 at *
    refine H.tk (i := 0) (v := .agg (Kx.cells c)) ?h0x1u1 hS ?_
    case h0x1u1 => exact (fun w hw => run_loadK shX (x := .tmp 2) rfl rfl hw rfl)
    try simp only [Act.put, List.setIfInBounds_toArray, List.set_cons_zero, List.set_cons_succ]
    refine H.tk (i := 1) (v := .int .i64 9) ?h1x2u1 hS ?_
    case h1x2u1 => exact (fun w hw => by go_simp)
    try simp only [Act.put, List.setIfInBounds_toArray, List.set_cons_zero, List.set_cons_succ]
    refine H.tk (i := 2) (v := (Value.slice none 0 0)) (fun w _ => rfl) hS ?_
    try simp only [Act.put, List.setIfInBounds_toArray, List.set_cons_zero, List.set_cons_succ]
    refine H.one (i := 3) (by simp only [List.getElem?_toArray, List.getElem?_cons_succ, List.getElem?_cons_zero]; rfl) (by kernel_rfl) (by kernel_rfl) (fun K hK => ?_)
    refine wp_store_row 44 _ _ rfl (w.heap.size + 1 + 1) (Kx.cells c) rfl rfl 44 Kx.zero.cells R0.out infoX rfl (oneX _) ?_
    refine hK.out _ _ (hS.row (by omega) _) ?_
    clear hK K
    have hS := (show Bk 44 (Z0.setRow (w.heap.size + 1 + 1) (Kx.cells c)) w.heap.size (Kx.cells c) from hS.row (by omega) _)
    try simp only [Act.put]
    refine H.tk (i := 4) (v := ?v4x4u1) ?h4x4u1 hS ?_
    case h4x4u1 => (intro w hw; go_simp; first | done | (with_reducible rfl))
    try simp only [Act.put, List.setIfInBounds_toArray, List.set_cons_zero, List.set_cons_succ]
    refine wpAnyH_done (by kernel_rfl) ?_ _
    go_wp2_with fail
    exact bodyPost_ret (v := .tuple #[.slice none 0 0, .agg (Kx.cells c), .int .i64 9]) (results_mid (ty := 44) rfl _ _ (w.heap.size + 1 + 1) (.agg (Kx.cells c)) (.slice none 0 0) rfl rfl (loadVarK shX (R0.out.put (Kx.cells c)) rfl) (.int .i64 9) rfl) rfl (AnsW.no HY.out (Box.below_setRow HB.out (by omega) _))
  have HLN := Lib.hid (way_len c m)
  have PW := Lib.hid (fun V (y : m.In V) => (way_any c m V y hc h).mono (fun e w' x => AnsW.said (ls := elB (wayE c m)) (cf := wayC c m) (er := 0) x (by unfold wayP; rw [hb, if_neg (by decide)])))
  have PU := Lib.hid (fun V (y : m.In V) => upd_any c m V y ln lb hc h)
  have hy : updP c m = (elB (wayE c m) ++ [⟨(enc1 (updD m (omN c m), 8)).toArray⟩], knowP (wayC c m) m, 0) := by
    unfold updP elsL ctxL
    rw [hb, if_neg (by decide), if_pos o.kind, if_pos o.kind, elB_app]
    rfl
  unfold knowP at hy
  obtain ⟨k, hk⟩ : ∃ k : Nat, m.ae = k := ⟨m.ae.toNat, by omega⟩
  have hk4 : k < 4 := by omega
  clear hb hc h o a0 a1 ln lb
  generalize (⟨(enc1 (updD m (omN c m), 8)).toArray⟩ : ByteArray) = x at *
  generalize elB (wayE c m) = ls at *
  generalize wayC c m = cw at *
  by_cases h0 : m.ae = 0
  · rw [if_pos h0] at hy
    have e0 : (m.ae == 0) = true := by simpa using h0
    have HY := Lib.hid hy
    have HK := Lib.hid hk
    clear hy hk h0
    go_enter Tryz.func76, Tryz.ntmps76
    go_upto_region 1 with fail
    change Code.wp _ _ _ _ (((w.alloc (.cells c.cells 44)).alloc (.cells m.cells 38)).alloc (.cells Kx.zero.cells 44))
    have D := Lib.hid ((Us.start w c m hm).call (balloc (Below.refl _ _) (.cells Kx.zero.cells 44)))
    have R0 := Lib.hid (res_new w c m)
    clear hm
    generalize ((w.alloc (.cells c.cells 44)).alloc (.cells m.cells 38)).alloc (.cells Kx.zero.cells 44) = V at *
    have hzV : w.heap.size + 1 + 1 + 1 ≤ V.heap.size := R0.out.lt
    go_wp2_with (first | (refine wpList_loadX (b := w.heap.size) (m := c) rfl _ rfl rfl D.out.s0 ?_) | (refine wpList_loadM (b := w.heap.size + 1) (m := m) rfl _ rfl rfl D.out.m0 ?_))
    refine (PW.out _ D.out.i).mono ?_
    rintro r w1 ⟨qa, qk, rfl, hl, hb⟩
    have D := Lib.hid (D.out.call hb)
    have R0 := Lib.hid (R0.out.below hb)
    have hz1 := hb.size
    have HL := Lib.hid (Lst.mono hl hzV)
    clear hl hb PW
    go_upto_region 2 with (refine wpList_storeX (b := w1.heap.size) (m := Kx.zero) (m' := cw) rfl _ _ rfl rfl rfl (Bk.Bk.new 44 w1 Kx.zero.cells) ?_)
    change Code.wp _ _ _ _ ((w1.alloc (.cells Kx.zero.cells 44)).setRow w1.heap.size (Kx.cells cw))
    rw [World.setRow_alloc_new]
    have bel := balloc (Below.refl w1.heap.size w1) (.cells (Kx.cells cw) 44)
    have D := Lib.hid (D.out.call bel)
    have S1 := Lib.hid (Bk.Bk.new 44 w1 (Kx.cells cw))
    have R0 := Lib.hid (R0.out.below bel)
    have HL := Lib.hid (HL.out.below bel)
    have hz2 := bel.size
    have hgz : w.heap.size + 1 + 1 < w1.heap.size := by omega
    clear bel
    generalize w1.alloc (.cells (Kx.cells cw) 44) = V2 at *
    generalize w1.heap.size = g at *
    have hzg := S1.out.lt
    go_wp2_with (first | (refine wpList_loadX (b := w.heap.size) (m := c) rfl _ rfl rfl D.out.s0 ?_) | (refine wpList_loadM (b := w.heap.size + 1) (m := m) rfl _ rfl rfl D.out.m0 ?_))
    refine (PU.out _ D.out.i).mono ?_
    rintro r w3 ⟨rfl, hb⟩
    have D := Lib.hid (D.out.call hb)
    have R0 := Lib.hid (R0.out.below hb)
    have S1 := Lib.hid (S1.out.below hb)
    have HL := Lib.hid (HL.out.below hb)
    have hz3 := hb.size
    clear hb PU
    have bel := balloc (Below.refl w3.heap.size w3) (.cells #[.string x] 9)
    have D := Lib.hid (D.out.call bel)
    have R0 := Lib.hid (R0.out.below bel)
    have S1 := Lib.hid (S1.out.below bel)
    have HL := Lib.hid (HL.out.below bel)
    have hz4 := bel.size
    clear bel
    go_upto_region 5 with (first | (refine bs_one rfl _ rfl (s := x) rfl ?_) | (at_builtin; refine app_two rfl _ _ rfl (w.heap.size + 1 + 1 + 1) _ ls x w3.heap.size 1 rfl HL.out rfl (cells_new x w3) ?cl ?cb ?_))
    case cl => have := HLN.out; omega
    case cb => omega
    intro v' w4 hl hb hs hz
    have D := Lib.hid (D.out.under hb (by omega))
    have R0 := Lib.hid (R0.out.under hb (by omega))
    have S1 := Lib.hid (hs _ _ S1.out)
    obtain ⟨l2, hl2⟩ : ∃ l, l = ls ++ [x] := ⟨_, rfl⟩
    rw [← hl2] at hl
    have HQ := Lib.hid hl2
    obtain ⟨qa, qk, rfl⟩ := hl.slice
    have HL := Lib.hid hl
    clear hl hb hs hz hl2 hz1 hz2 hz3 hz4 hzV hzg
    have c5 := D.out.m0.cs.c5
    go_upto_region 7 with fail
    clear c5 e0
    generalize w4 = V at *
    have HY := Lib.hid (show updP c m = (l2, cw, 0) by rw [HY.out, HQ.out])
    have R0 := Lib.hid (show Bk 44 V.drew (w.heap.size + 1 + 1) Kx.zero.cells from R0.out)
    have HB := Lib.hid (show Below w.heap.size w V.drew from D.out.bel.drew)
    have HL := Lib.hid (HL.out.below (Below.refl _ V).drew)
    refine wp_region_held_drew (S := fun X => Bk 44 X g (Kx.cells cw)) (by kernel_rfl) (S1.out) (fun hS => ?_)
    clear D
    generalize V.drew = Z0 at *
    refine H.tk (i := 0) (v := .slice qa l2.length qk) ?h0x1u2 hS ?_
    case h0x1u2 => exact (fun w hw => by go_simp)
    try simp only [Act.put, List.setIfInBounds_toArray, List.set_cons_zero, List.set_cons_succ]
    refine H.tk (i := 1) (v := .agg (Kx.cells cw)) ?h1x2u2 hS ?_
    case h1x2u2 => exact (fun w hw => run_loadK shX (x := .tmp 8) rfl rfl hw rfl)
    try simp only [Act.put, List.setIfInBounds_toArray, List.set_cons_zero, List.set_cons_succ]
    refine H.tk (i := 2) (v := ?v2x3u2) ?h2x3u2 hS ?_
    case h2x3u2 => (intro w hw; go_simp; first | done | (with_reducible rfl))
    try simp only [Act.put, List.setIfInBounds_toArray, List.set_cons_zero, List.set_cons_succ]
    refine H.one (i := 3) (by simp only [List.getElem?_toArray, List.getElem?_cons_succ, List.getElem?_cons_zero]; rfl) (by kernel_rfl) (by kernel_rfl) (fun K hK => ?_)
    refine wp_store_row 44 _ _ rfl (w.heap.size + 1 + 1) (Kx.cells cw) rfl rfl 44 Kx.zero.cells R0.out infoX rfl (oneX _) ?_
    refine hK.out _ _ (hS.row (by omega) _) ?_
    clear hK K
    have hS := (show Bk 44 (Z0.setRow (w.heap.size + 1 + 1) (Kx.cells cw)) g (Kx.cells cw) from hS.row (by omega) _)
    try simp only [Act.put]
    refine H.tk (i := 4) (v := (Value.int IntKind.i64 0)) (fun w _ => rfl) hS ?_
    try simp only [Act.put, List.setIfInBounds_toArray, List.set_cons_zero, List.set_cons_succ]
    refine wpAnyH_done (by kernel_rfl) ?_ _
    go_wp2_with fail
    exact bodyPost_ret (v := .tuple #[.slice qa l2.length qk, .agg (Kx.cells cw), .int .i64 0]) (results_mid (ty := 44) rfl _ _ (w.heap.size + 1 + 1) (.agg (Kx.cells cw)) (.slice qa l2.length qk) rfl rfl (loadVarK shX (R0.out.put (Kx.cells cw)) rfl) (.int .i64 0) rfl) rfl (by rw [HY.out]; exact ⟨qa, qk, rfl, (HL.out.under (by omega) _).mono (by omega), Box.below_setRow HB.out (by omega) _⟩)
  rw [if_neg h0] at hy
  have e0 : (m.ae == 0) = false := by simpa using h0
  have HY := Lib.hid hy
  have HK := Lib.hid hk
  clear hy hk h0
  go_enter Tryz.func76, Tryz.ntmps76
  go_upto_region 1 with fail
  change Code.wp _ _ _ _ (((w.alloc (.cells c.cells 44)).alloc (.cells m.cells 38)).alloc (.cells Kx.zero.cells 44))
  have D := Lib.hid ((Us.start w c m hm).call (balloc (Below.refl _ _) (.cells Kx.zero.cells 44)))
  have R0 := Lib.hid (res_new w c m)
  clear hm
  generalize ((w.alloc (.cells c.cells 44)).alloc (.cells m.cells 38)).alloc (.cells Kx.zero.cells 44) = V at *
  have hzV : w.heap.size + 1 + 1 + 1 ≤ V.heap.size := R0.out.lt
  go_wp2_with (first | (refine wpList_loadX (b := w.heap.size) (m := c) rfl _ rfl rfl D.out.s0 ?_) | (refine wpList_loadM (b := w.heap.size + 1) (m := m) rfl _ rfl rfl D.out.m0 ?_))
  refine (PW.out _ D.out.i).mono ?_
  rintro r w1 ⟨qa, qk, rfl, hl, hb⟩
  have D := Lib.hid (D.out.call hb)
  have R0 := Lib.hid (R0.out.below hb)
  have hz1 := hb.size
  have HL := Lib.hid (Lst.mono hl hzV)
  clear hl hb PW
  go_upto_region 2 with (refine wpList_storeX (b := w1.heap.size) (m := Kx.zero) (m' := cw) rfl _ _ rfl rfl rfl (Bk.Bk.new 44 w1 Kx.zero.cells) ?_)
  change Code.wp _ _ _ _ ((w1.alloc (.cells Kx.zero.cells 44)).setRow w1.heap.size (Kx.cells cw))
  rw [World.setRow_alloc_new]
  have bel := balloc (Below.refl w1.heap.size w1) (.cells (Kx.cells cw) 44)
  have D := Lib.hid (D.out.call bel)
  have S1 := Lib.hid (Bk.Bk.new 44 w1 (Kx.cells cw))
  have R0 := Lib.hid (R0.out.below bel)
  have HL := Lib.hid (HL.out.below bel)
  have hz2 := bel.size
  have hgz : w.heap.size + 1 + 1 < w1.heap.size := by omega
  clear bel
  generalize w1.alloc (.cells (Kx.cells cw) 44) = V2 at *
  generalize w1.heap.size = g at *
  have hzg := S1.out.lt
  go_wp2_with (first | (refine wpList_loadX (b := w.heap.size) (m := c) rfl _ rfl rfl D.out.s0 ?_) | (refine wpList_loadM (b := w.heap.size + 1) (m := m) rfl _ rfl rfl D.out.m0 ?_))
  refine (PU.out _ D.out.i).mono ?_
  rintro r w3 ⟨rfl, hb⟩
  have D := Lib.hid (D.out.call hb)
  have R0 := Lib.hid (R0.out.below hb)
  have S1 := Lib.hid (S1.out.below hb)
  have HL := Lib.hid (HL.out.below hb)
  have hz3 := hb.size
  clear hb PU
  have bel := balloc (Below.refl w3.heap.size w3) (.cells #[.string x] 9)
  have D := Lib.hid (D.out.call bel)
  have R0 := Lib.hid (R0.out.below bel)
  have S1 := Lib.hid (S1.out.below bel)
  have HL := Lib.hid (HL.out.below bel)
  have hz4 := bel.size
  clear bel
  go_upto_region 5 with (first | (refine bs_one rfl _ rfl (s := x) rfl ?_) | (at_builtin; refine app_two rfl _ _ rfl (w.heap.size + 1 + 1 + 1) _ ls x w3.heap.size 1 rfl HL.out rfl (cells_new x w3) ?cl ?cb ?_))
  case cl => have := HLN.out; omega
  case cb => omega
  intro v' w4 hl hb hs hz
  have D := Lib.hid (D.out.under hb (by omega))
  have R0 := Lib.hid (R0.out.under hb (by omega))
  have S1 := Lib.hid (hs _ _ S1.out)
  obtain ⟨l2, hl2⟩ : ∃ l, l = ls ++ [x] := ⟨_, rfl⟩
  rw [← hl2] at hl
  have HQ := Lib.hid hl2
  obtain ⟨qa, qk, rfl⟩ := hl.slice
  have HL := Lib.hid hl
  clear hl hb hs hz hl2 hz1 hz2 hz3 hz4 hzV hzg
  have c5 := D.out.m0.cs.c5
  have c6 := D.out.m0.cs.c6
  have d := pf_at S1.out hk4
  have fd := S1.out.frozen k
  rw [HK.out] at c5 e0
  go_upto_region 7 with (first | (refine st_yes (v := .pointer (some ⟨g, k, none⟩)) (by rfl) rfl (ex_index rfl rfl rfl (index4 g k hk4 _)) ?_))
  have hob := own_bk HL.out S1.out
  have XB := D.out.bel.setCell (p := ⟨g, k, none⟩) (by show w.heap.size ≤ g; omega) (.string m.pfx)
  have D := Lib.hid (show Us w c m (w4.setCell ⟨g, k, none⟩ (.string m.pfx)) from ⟨D.out.s0.off (p := ⟨g, k, none⟩) (by show w.heap.size ≠ g; omega) _, D.out.m0.off (p := ⟨g, k, none⟩) (by show w.heap.size + 1 ≠ g; omega) _, D.out.i0, XB⟩)
  have R0 := Lib.hid (R0.out.off (p := ⟨g, k, none⟩) (by show w.heap.size + 1 + 1 ≠ g; omega) (.string m.pfx))
  have HL := Lib.hid (lst_off HL.out (p := ⟨g, k, none⟩) hob (.string m.pfx))
  have S1 := Lib.hid (S1.out.set (i := k) (v := .string m.pfx) (cs' := Kx.cells (cw.setP k m.pfx)) (setP_cs _ _ hk4))
  clear hob XB c5 c6 d fd e0
  generalize w4.setCell ⟨g, k, none⟩ (.string m.pfx) = V at *
  have HY := Lib.hid (show updP c m = (l2, cw.setP k m.pfx, 0) by rw [HY.out, HQ.out, HK.out])
  have R0 := Lib.hid (show Bk 44 V.drew (w.heap.size + 1 + 1) Kx.zero.cells from R0.out)
  have HB := Lib.hid (show Below w.heap.size w V.drew from D.out.bel.drew)
  have HL := Lib.hid (HL.out.below (Below.refl _ V).drew)
  refine wp_region_held_drew (S := fun X => Bk 44 X g (Kx.cells (cw.setP k m.pfx))) (by kernel_rfl) (S1.out) (fun hS => ?_)
  clear D
  generalize V.drew = Z0 at *
  refine H.tk (i := 0) (v := .slice qa l2.length qk) ?h0x1u3 hS ?_
  case h0x1u3 => exact (fun w hw => by go_simp)
  try simp only [Act.put, List.setIfInBounds_toArray, List.set_cons_zero, List.set_cons_succ]
  refine H.tk (i := 1) (v := .agg (Kx.cells (cw.setP k m.pfx))) ?h1x2u3 hS ?_
  case h1x2u3 => exact (fun w hw => run_loadK shX (x := .tmp 8) rfl rfl hw rfl)
  try simp only [Act.put, List.setIfInBounds_toArray, List.set_cons_zero, List.set_cons_succ]
  refine H.tk (i := 2) (v := ?v2x3u3) ?h2x3u3 hS ?_
  case h2x3u3 => (intro w hw; go_simp; first | done | (with_reducible rfl))
  try simp only [Act.put, List.setIfInBounds_toArray, List.set_cons_zero, List.set_cons_succ]
  refine H.one (i := 3) (by simp only [List.getElem?_toArray, List.getElem?_cons_succ, List.getElem?_cons_zero]; rfl) (by kernel_rfl) (by kernel_rfl) (fun K hK => ?_)
  refine wp_store_row 44 _ _ rfl (w.heap.size + 1 + 1) (Kx.cells (cw.setP k m.pfx)) rfl rfl 44 Kx.zero.cells R0.out infoX rfl (oneX _) ?_
  refine hK.out _ _ (hS.row (by omega) _) ?_
  clear hK K
  have hS := (show Bk 44 (Z0.setRow (w.heap.size + 1 + 1) (Kx.cells (cw.setP k m.pfx))) g (Kx.cells (cw.setP k m.pfx)) from hS.row (by omega) _)
  try simp only [Act.put]
  refine H.tk (i := 4) (v := (Value.int IntKind.i64 0)) (fun w _ => rfl) hS ?_
  try simp only [Act.put, List.setIfInBounds_toArray, List.set_cons_zero, List.set_cons_succ]
  refine wpAnyH_done (by kernel_rfl) ?_ _
  go_wp2_with fail
  exact bodyPost_ret (v := .tuple #[.slice qa l2.length qk, .agg (Kx.cells (cw.setP k m.pfx)), .int .i64 0]) (results_mid (ty := 44) rfl _ _ (w.heap.size + 1 + 1) (.agg (Kx.cells (cw.setP k m.pfx))) (.slice qa l2.length qk) rfl rfl (loadVarK shX (R0.out.put (Kx.cells (cw.setP k m.pfx))) rfl) (.int .i64 0) rfl) rfl (by rw [HY.out]; exact ⟨qa, qk, rfl, (HL.out.under (by omega) _).mono (by omega), Box.below_setRow HB.out (by omega) _⟩)
end Go.Proofs.YtjhfpobjbijcpaaGreatDoor.Lu
