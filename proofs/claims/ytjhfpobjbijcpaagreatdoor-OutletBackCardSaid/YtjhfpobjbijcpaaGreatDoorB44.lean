/-
  A list of messages with Subs, all of a call's own, to which messages are appended, one or a list of them. No conditions.
  What a fold over TLVs answers; a TLV of a list, loaded; what stands while it goes on. No conditions.
-/
import Derived.Test.YtjhfpobjbijcpaaGreatDoorB13
import Derived.Test.YtjhfpobjbijcpaaGreatDoorB18
import Derived.Test.YtjhfpobjbijcpaaGreatDoorB19
import Derived.Test.YtjhfpobjbijcpaaGreatDoorB34
import Derived.Laws.AppendOwnNone
namespace Go.Proofs.YtjhfpobjbijcpaaGreatDoor.Lm
open Go.ChangeShapes Go.WideShapes Go.ChangeAt Go.RowKit
open Go.Proofs.YtjhfpobjbijcpaaGreatDoor.Ms
open Go.Proofs.YtjhfpobjbijcpaaGreatDoor.Box
open Go.Proofs.YtjhfpobjbijcpaaGreatDoor.All
open Go.Proofs.YtjhfpobjbijcpaaGreatDoor.An
open Go.Proofs.YtjhfpobjbijcpaaGreatDoor.Ap
open Go.Proofs.YtjhfpobjbijcpaaGreatDoor.Kb
set_option linter.unusedVariables false
set_option maxRecDepth 100000
set_option maxRecDepth 100000

theorem own_ne {w : World} {B1 B2 : Nat} {e1 e2 : TypeId} {s1 s2 : Nat} {v1 v2 : Value} {n1 n2 : Nat} {x1 x2 : List Value} (h1 : w.ownsRow B1 e1 s1 v1 n1 x1) (h2 : w.ownsRow B2 e2 s2 v2 n2 x2) (hn : e1 ≠ e2) : v1.ownBlock = none ∨ v1.ownBlock ≠ v2.ownBlock := by
  rcases h1.2 with ⟨rfl, _⟩ | ⟨g, cap, cur, rfl, _, c, _⟩
  · exact .inl rfl
  · refine .inr fun he => ?_
    rcases h2.2 with ⟨rfl, _⟩ | ⟨g2, cap2, cur2, rfl, _, c2, _⟩
    · cases he
    · obtain rfl : g = g2 := Option.some.inj he
      rw [c] at c2
      injection c2 with c2
      injection c2 with _ c2
      exact hn c2
/-- The call's own list of the messages l, and their Subs (the list begins at block B, the Subs at block S). -/
def LM (B S : Nat) (w : World) (v : Value) (l : List M) : Prop := Ap.Lst B w v l ∧ ∀ m ∈ l, m.ll = [] ∧ Sx.Lst S w (.slice m.sa m.sl.length m.sc) m.sl
theorem LM.nil (B S : Nat) (w : World) : LM B S w (.slice none 0 0) [] := ⟨Ap.Lst.nil B w, fun m hm => absurd hm (by simp)⟩
theorem LM.below {B S : Nat} {w w' : World} {v : Value} {l : List M} (h : LM B S w v l) (hb : Below w.heap.size w w') : LM B S w' v l := ⟨h.1.below hb, fun m hm => ⟨(h.2 m hm).1, (h.2 m hm).2.below hb⟩⟩
theorem LM.slice {B S : Nat} {w : World} {v : Value} {l : List M} (h : LM B S w v l) : ∃ a c, v = .slice a l.length c := h.1.slice
theorem ap_under {B g : Nat} {w : World} {v : Value} {l : List M} (h : Ap.Lst B w v l) (hg : g < B) (cs : Array Value) : Ap.Lst B (w.setRow g cs) v l := by
  refine ⟨h.1, ?_⟩
  rcases h.2 with h | ⟨k, cap, cur, a, b, c, d⟩
  · exact .inl h
  · exact .inr ⟨k, cap, cur, a, b, (setRow_other w g k cs (by omega)).trans c, d⟩
theorem LM.under {B S g : Nat} {w : World} {v : Value} {l : List M} (h : LM B S w v l) (hg : g < B) (hs : g < S) (cs : Array Value) : LM B S (w.setRow g cs) v l := ⟨ap_under h.1 hg cs, fun m hm => ⟨(h.2 m hm).1, lst_under (h.2 m hm).2 hs cs⟩⟩
/-- As a list that is handed back. -/
theorem LM.own {B S : Nat} {w : World} {a : Option Addr} {c : Nat} {l : List M} (h : LM B S w (.slice a l.length c) l) (hS : S ≤ B) : MOwn S w a l := by
  intro i hi
  rcases h.1.2 with ⟨hv, h0⟩ | ⟨g, cap, cur, hv, hB, hg, hcap, _, hsz, ht⟩
  · omega
  · have ha : a = some ⟨g, 0, none⟩ := by injection hv
    refine ⟨_, ha, Nat.le_trans hS hB, (Array.getElem?_eq_some_iff.1 hg).1, fun j v hj => ?_, (h.2 _ (List.getElem_mem hi)).1, (h.2 _ (List.getElem_mem hi)).2⟩
    have hj25 : j < 25 := by
      have := (List.getElem?_eq_some_iff.1 hj).1
      simpa [M.cells] using this
    have hr : (rowC l)[i * 25 + j]? = some v := by rw [rowC_at l i j hi hj25]; exact hj
    have := World.ownsRow.cells h.1 (g := g) (by rw [ha]; rfl) _ _ hr
    rw [add_at, Nat.zero_add] at this
    rw [add_at, add_at, Nat.zero_add]
    exact this
theorem rowC_app (a b : List M) : rowC (a ++ b) = rowC a ++ rowC b := by simp [rowC]
theorem rowC_one {l : List M} : ∀ u ∈ rowC l, u.oneCell' = true := by
  intro u hu
  obtain ⟨m, _, h⟩ := List.mem_flatMap.1 hu
  have := oneM m
  rw [Array.all_eq_true_iff_forall_mem] at this
  exact this u (by simpa using h)
theorem add_add (p : Addr) (x y : Nat) : (p.add x).add y = p.add (x + y) := by
  by_cases h1 : x = 0
  · subst h1; rw [Nat.zero_add]; rfl
  by_cases h2 : y = 0
  · subst h2; rfl
  unfold Addr.add
  rw [if_neg h2, if_neg h1, if_neg (by omega)]
  simp [Nat.add_assoc]
theorem own_cells {B : Nat} {w : World} {p : Addr} {r : List M} (h : MOwn B w (some p) r) : ∀ j u, (rowC r)[j]? = some u → w.cell? (p.add j) = some u := by
  intro j u hj
  have hlt : j < r.length * 25 := by rw [← rowC_len]; exact (List.getElem?_eq_some_iff.1 hj).1
  have hi : j / 25 < r.length := by omega
  have hm : j % 25 < 25 := by omega
  obtain ⟨q, hq, _, _, hc, _⟩ := h (j / 25) hi
  obtain rfl : p = q := Option.some.inj hq
  have he : (rowC r)[j / 25 * 25 + j % 25]? = some u := by rw [show j / 25 * 25 + j % 25 = j by omega]; exact hj
  rw [rowC_at r _ _ hi hm] at he
  have := hc _ _ he
  rwa [add_add, show j / 25 * 25 + j % 25 = j by omega] at this
theorem run_none {P : Program} {w : World} (base : Nat) (t ty e : TypeId) (i : TypeInfo) (size c : Nat) (ht : P.underlying t = some (.slice e)) (hi : P.info? e = some i) (v : Value) (n : Nat) (xs : List Value) (hown : w.ownsRow base e size v n xs) :
    (Builtin.append_ #[t, t] ty #[v, .slice none 0 c]).run P w = .ok v w := by
  rcases hown.2 with ⟨rfl, rfl⟩ | ⟨g, cap, cur, rfl, _, _, hnc, _⟩
  · simp [Builtin.append_, run_underlying ht, sizeOf, typeInfo, hi, Builtin.lenOf, Builtin.firstCells]
  · simp [Builtin.append_, run_underlying ht, sizeOf, typeInfo, hi, Builtin.lenOf, Builtin.firstCells, hnc, storeCells]
theorem LM.room {B S : Nat} {w : World} {a : Option Addr} {c : Nat} {l : List M} (h : LM B S w (.slice a l.length c) l) : l.length ≤ c := by
  rcases h.1.2 with ⟨hv, h0⟩ | ⟨g, cap, cur, hv, _, _, hcap, _⟩
  · omega
  · injection hv with _ _ hv
    omega
/-- append(v, x...), x a list of the call's own. -/
theorem wp_list {o : Oper} {A : Act} {w : World} {Q : Exit → Act → World → Prop} {K : Act → World → Prop} (s x : Operand)
    (ho : o.op = .call { callee := .builtin .append, args := #[s, x], argTypes := #[22, 22] }) (B S : Nat) (v : Value) (l r : List M) (a : Option Addr) (c : Nat)
    (hs : A.eval s = v) (hown : LM B S w v l) (hx : A.eval x = .slice a r.length c) (hr : MOwn S w a r)
    (hl : l.length + r.length ≤ 100000) (hB : B ≤ w.heap.size)
    (h : ∀ v' w', LM B S w' v' (l ++ r) → Below B w w' → w.grownBy w' v.ownBlock → K (A.put o.dst v') w') : Oper.wp Tryz.prog o A w K Q := by
  obtain ⟨i0, hi, hz, hsz, hby⟩ := infoA
  cases a with
  | none =>
    have hr0 : r = [] := by
      cases r with
      | nil => rfl
      | cons m r =>
        obtain ⟨q, hq, _⟩ := hr 0 (by simp)
        cases hq
    subst hr0
    have hrun := run_none (P := Tryz.prog) (w := w) B 22 o.type 38 i0 25 c Tryz.underlying22 hi v l.length (rowC l) hown.1
    unfold Oper.wp
    simp [execOp, ho, resolve, invoke, builtin, hs, hx, hrun, Result.andThen]
    exact h v w (by rw [List.append_nil]; exact hown) (Below.refl B w) ⟨rfl, rfl, rfl, Nat.le_refl _, fun _ _ _ => rfl⟩
  | some p =>
    refine wp_append_own w s x 22 ho B 38 i0 (.agg M.zero.cells) 25 i0.bytes Tryz.underlying22 hi hz hsz rfl rfl (by decide) v l.length (rowC l) hs hown.1 p r.length c (rowC r) hx (rowC_len r) (own_cells hr) rowC_one (by unfold maxLen; omega) ?_ hB ?_
    · have : (l.length + r.length) * i0.bytes ≤ 100000 * 4096 := Nat.mul_le_mul (by omega) hby
      omega
    · intro v' w' h2 h3 _
      refine h v' w' ⟨?_, fun m hm => ?_⟩ ((Below.refl B w).grown h3 hB (fun k hk => (World.ownsRow.lt hown.1 k hk).1)) h3
      · unfold Ap.Lst
        rw [rowC_app, List.length_append]
        exact h2
      · rcases List.mem_append.1 hm with k | k
        · exact ⟨(hown.2 m k).1, World.ownsRow.kept (hown.2 m k).2 h3 (own_ne (hown.2 m k).2 hown.1 (by decide))⟩
        · obtain ⟨i, hi, rfl⟩ := List.getElem_of_mem k
          obtain ⟨_, _, _, _, _, h5, h6⟩ := hr i hi
          exact ⟨h5, World.ownsRow.kept h6 h3 (own_ne h6 hown.1 (by decide))⟩
theorem app_list {ops : Array Oper} {rest : List Oper} {o : Oper} {A : Act} {w : World} {Q : Exit → Act → World → Prop} (hgd : o.guard = none) (s x : Operand)
    (ho : o.op = .call { callee := .builtin .append, args := #[s, x], argTypes := #[22, 22] }) (B S : Nat) (v : Value) (l r : List M) (a : Option Addr) (c : Nat)
    (hs : A.eval s = v) (hown : LM B S w v l) (hx : A.eval x = .slice a r.length c) (hr : MOwn S w a r)
    (hl : l.length + r.length ≤ 100000) (hB : B ≤ w.heap.size)
    (h : ∀ v' w', LM B S w' v' (l ++ r) → Below B w w' → w.grownBy w' v.ownBlock → wpList Tryz.prog ops Q rest (A.put o.dst v') w') : wpList Tryz.prog ops Q (o :: rest) A w :=
  wpList_plain hgd fun K hK => wp_list s x ho B S v l r a c hs hown hx hr hl hB fun v' w' h1 h2 h3 => hK _ _ (h v' w' h1 h2 h3)
end Go.Proofs.YtjhfpobjbijcpaaGreatDoor.Lm
namespace Go.Proofs.YtjhfpobjbijcpaaGreatDoor.Fq
open Go.ChangeShapes Go.WideShapes Go.ChangeAt Go.RowKit
open Go.Proofs.YtjhfpobjbijcpaaGreatDoor.Ms
open Go.Proofs.YtjhfpobjbijcpaaGreatDoor.Box
open Go.Proofs.YtjhfpobjbijcpaaGreatDoor.An
open Go.Proofs.YtjhfpobjbijcpaaGreatDoor.K1
open Go.Proofs.YtjhfpobjbijcpaaGreatDoor.Kb
open Go.Proofs.YtjhfpobjbijcpaaGreatDoor.I1
open Go.Proofs.YtjhfpobjbijcpaaGreatDoor.Lm
open Go.Proofs.YtjhfpobjbijcpaaGreatDoor.Tl (cellsT TRow)
open Go.Proofs.YtjhfpobjbijcpaaGreatDoor.Bk (Bk alloc_size)
set_option linter.unusedVariables false
set_option maxRecDepth 100000
set_option maxRecDepth 100000
/-- What a fold answers: messages (the list and their Subs are the call's own), what is known, a place, an error. -/
def AnsF (p : List M × Kx × Int × Int) (w : World) (e : Ending) (w' : World) : Prop :=
  ∃ a k l, e = .returned (.tuple #[.slice a l.length k, .agg p.2.1.cells, .int .i64 p.2.2.1, .int .i64 p.2.2.2]) ∧ PlL l p.1 ∧ MOwn w.heap.size w' a l ∧ Below w.heap.size w w' ∧ l.length ≤ k
theorem AnsF.no {p : List M × Kx × Int × Int} {w w' : World} {a e : Int} (h : p = ([], Kx.zero, a, e)) (hb : Below w.heap.size w w') : AnsF p w (.returned (.tuple #[.slice none 0 0, .agg Kx.zero.cells, .int .i64 a, .int .i64 e])) w' := by
  subst h
  exact ⟨none, 0, [], rfl, PlL.nil, MOwn.nil _ _ _, hb, Nat.le_refl _⟩
/-- What a datagram's parse answers: messages, a place, an error. -/
def AnsP (p : List M × Int × Int) (w : World) (e : Ending) (w' : World) : Prop :=
  ∃ a k l, e = .returned (.tuple #[.slice a l.length k, .int .i64 p.2.1, .int .i64 p.2.2]) ∧ PlL l p.1 ∧ MOwn w.heap.size w' a l ∧ Below w.heap.size w w'
theorem AnsP.no {p : List M × Int × Int} {w w' : World} {a e : Int} (h : p = ([], a, e)) (hb : Below w.heap.size w w') : AnsP p w (.returned (.tuple #[.slice none 0 0, .int .i64 a, .int .i64 e])) w' := by
  subst h
  exact ⟨none, 0, [], rfl, PlL.nil, MOwn.nil _ _ _, hb⟩
theorem PlL.app {a a' b b' : List M} (h : PlL a a') (k : PlL b b') : PlL (a ++ b) (a' ++ b') := by
  refine ⟨by rw [List.length_append, List.length_append, h.1, k.1], fun i hi hi' => ?_⟩
  by_cases hl : i < a.length
  · rw [List.getElem_append_left hl, List.getElem_append_left (by rw [← h.1]; exact hl)]
    exact h.2 i hl (by rw [← h.1]; exact hl)
  · rw [List.getElem_append_right (by omega), List.getElem_append_right (by have := h.1; omega)]
    have hk := k.2 (i - a.length) (by rw [List.length_append] at hi; omega) (by rw [List.length_append] at hi'; have := h.1; omega)
    simpa only [h.1] using hk
theorem tl_at {w : World} {a : Option Addr} {l : List F1.T} (h : TRow w a l) (k : Nat) (hk : k < l.length) : ∃ p : Addr, a = some p ∧ ∀ W, Below w.heap.size w W →
    W.cell? (p.add (k * 3)) = some (.int .i64 l[k].2.2) ∧ W.cell? ((p.add (k * 3)).add 1) = some (.int .i64 l[k].1) ∧ W.cell? ((p.add (k * 3)).add 2) = some (.string l[k].2.1) := by
  obtain ⟨p, rfl, _⟩ := h k hk
  refine ⟨p, rfl, fun W hb => ?_⟩
  obtain ⟨q, e, _, c0, c1, c2⟩ := (h.below hb) k hk
  obtain rfl := Option.some.inj e
  exact ⟨c0, c1, c2⟩
theorem ex_loadT {o : Oper} {ρ : Operand → Value} {x : Operand} {q : Addr} {u : F1.T} {w : World} (ho : o.op = .load 79 x) (hx : ρ x = .pointer (some q))
    (h : w.cell? q = some (.int .i64 u.2.2) ∧ w.cell? (q.add 1) = some (.int .i64 u.1) ∧ w.cell? (q.add 2) = some (.string u.2.1)) : (execOp ρ o).run Tryz.prog w = .ok (.value (.agg (cellsT u))) w := by
  have hl : (loadCells q 3).run Tryz.prog w = .ok (cellsT u) w := by
    have := run_loadCells_list (P := Tryz.prog) w q (cellsT u).toList (fun j v hv => by
      match j, hv with
      | 0, hv => exact h.1.trans hv
      | 1, hv => exact h.2.1.trans hv
      | 2, hv => exact h.2.2.trans hv
      | j + 3, hv => cases hv)
    rw [show (cellsT u).toList.length = 3 from rfl] at this
    rw [this]
  have hagg : (isAgg 79).run Tryz.prog w = .ok true w := by go_simp
  have hsz : (sizeOf 79).run Tryz.prog w = .ok 3 w := by go_simp
  unfold execOp
  simp only [ho, hx, Instr.loadAt, Instr.sureAddr, Sem.run_bind, Sem.run_pure, Result.andThen_ok, loadVar, hagg, if_true, hsz, hl]
/-- The result's box, and what is known. -/
structure Fo (w : World) (c : Kx) (W : World) : Prop where
  r0 : Bk 44 W w.heap.size Kx.zero.cells
  c0 : Bk 44 W (w.heap.size + 1) c.cells
  bel : Below w.heap.size w W
theorem Fo.call {w V W : World} {c : Kx} (h : Fo w c V) (hb : Below V.heap.size V W) : Fo w c W := ⟨h.r0.below hb, h.c0.below hb, bcall h.bel hb⟩
theorem Fo.start (w : World) : Fo w Kx.zero ((w.alloc (.cells Kx.zero.cells 44)).alloc (.cells Kx.zero.cells 44)) := by
  refine ⟨(Bk.Bk.new 44 w Kx.zero.cells).old _, ?_, balloc (balloc (Below.refl _ w) _) _⟩
  have := Bk.Bk.new 44 (w.alloc (.cells Kx.zero.cells 44)) Kx.zero.cells
  rw [alloc_size] at this
  exact this
theorem Fo.put {w V : World} {c : Kx} (h : Fo w c V) (x : Kx) : Fo w x (V.setRow (w.heap.size + 1) x.cells) := ⟨h.r0.row (by omega) _, h.c0.put x.cells, Box.below_setRow h.bel (by omega) _⟩
/-- One round: what was told so far, and this TLV's. -/
theorem fold_step {l : List F1.T} {c : Kx} {o : List M} {k : Nat} (hk : k < l.length) (h : outI l = foldI (l.drop k) c o) :
    ((one c l[k].2.2 l[k].2.1).2.2 = 0 → outI l = foldI (l.drop (k + 1)) (one c l[k].2.2 l[k].2.1).1 (o ++ (one c l[k].2.2 l[k].2.1).2.1)) ∧
    (¬ (one c l[k].2.2 l[k].2.1).2.2 = 0 → outI l = ([], Kx.zero, l[k].1, (one c l[k].2.2 l[k].2.1).2.2)) := by
  rw [List.drop_eq_getElem_cons hk] at h
  refine ⟨fun h0 => ?_, fun h0 => h.trans (fold_err h0)⟩
  rcases hp : one c l[k].2.2 l[k].2.1 with ⟨c', r, e⟩
  rw [hp] at h0
  obtain rfl : e = 0 := h0
  exact h.trans (fold_ok hp)
theorem fold_done {l : List F1.T} {c : Kx} {o : List M} (h : outI l = foldI (l.drop l.length) c o) : outI l = (o, c, 0, 0) := by rw [h, List.drop_length]; rfl
theorem one_few {c : Kx} (hc : okC c = true) (t : Int) (d : ByteArray) : (one c t d).2.1.length ≤ 1 := by
  rcases (one_fine hc t d).told with h | ⟨m, h, _⟩ <;> rw [h] <;> simp
end Go.Proofs.YtjhfpobjbijcpaaGreatDoor.Fq
