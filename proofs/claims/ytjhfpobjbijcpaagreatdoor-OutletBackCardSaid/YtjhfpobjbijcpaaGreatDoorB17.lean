/-
  What stands beside a message's copy; the answer of a Get of messages with Subs alone: a message, whether it counts, an error; what few parts say. No conditions.
  Whether two lists of messages are the same: the program's answer (slices.EqualFunc) and the document's; whether a list has few messages. Condition: lists within of at most 2^20 elements.
  A list of messages of a call's own, one appended behind the other: its cells, and that its messages stand in the world. No conditions.
-/
import Derived.Test.YtjhfpobjbijcpaaGreatDoorB08
import Derived.Test.YtjhfpobjbijcpaaGreatDoorB16
import Derived.Deep.WholeRow
import Derived.Laws.AppendOwn
namespace Go.Proofs.YtjhfpobjbijcpaaGreatDoor.An
open Go.ChangeShapes Go.WideShapes Go.ChangeAt Go.RowKit
open Go.Proofs.YtjhfpobjbijcpaaGreatDoor.Ms
open Go.Proofs.YtjhfpobjbijcpaaGreatDoor.Box
set_option linter.unusedVariables false
set_option maxRecDepth 100000
set_option maxRecDepth 100000
theorem lst_under {B g : Nat} {w : World} {v : Value} {l : List El} (h : Sx.Lst B w v l) (hg : g < B) (cs : Array Value) : Sx.Lst B (w.setRow g cs) v l := by
  refine ⟨h.1, ?_⟩
  rcases h.2 with h | ⟨k, cap, cur, a, b, c, d⟩
  · exact .inl h
  · exact .inr ⟨k, cap, cur, a, b, (setRow_other w g k cs (by omega)).trans c, d⟩
theorem lst_mono {B B' : Nat} {w : World} {v : Value} {l : List El} (h : Sx.Lst B w v l) (hB : B' ≤ B) : Sx.Lst B' w v l := by
  refine ⟨h.1, ?_⟩
  rcases h.2 with h | ⟨k, cap, cur, a, b, c, d⟩
  · exact .inl h
  · exact .inr ⟨k, cap, cur, a, Nat.le_trans hB b, c, d⟩
/-- The answer: a message (its Subs are the call's own), whether it counts, an error. -/
def AnsB (p : M × Bool × Int) (w : World) (e : Ending) (w' : World) : Prop :=
  ∃ sa sc, e = .returned (.tuple #[.agg (M.cells { p.1 with sa := sa, sc := sc }), .bool p.2.1, .int .i64 p.2.2]) ∧
    Sx.Lst w.heap.size w' (.slice sa p.1.sl.length sc) p.1.sl ∧ Below w.heap.size w w'
theorem AnsB.no {p : M × Bool × Int} {w w' : World} {d : Int} (h : p = (M.zero, false, d)) (hb : Below w.heap.size w w') : AnsB p w (.returned (.tuple #[.agg M.zero.cells, .bool false, .int .i64 d])) w' := by
  subst h
  exact ⟨none, 0, rfl, Sx.Lst.nil _ _, hb⟩
theorem AnsB.subs {p : M × Bool × Int} {w w' : World} {r : M} {a : Option Addr} {l : List El} {c B : Nat} (h : p = ({ r with sl := l }, true, 0)) (hl : Sx.Lst B w' (.slice a l.length c) l) (hB : w.heap.size ≤ B) (hb : Below w.heap.size w w') :
    AnsB p w (.returned (.tuple #[.agg (M.cells { r with sa := a, sl := l, sc := c }), .bool true, .int .i64 0])) w' := by
  subst h
  exact ⟨a, c, rfl, lst_mono hl hB, hb⟩
theorem results_three {fn : Func} {P : Program} {p q r : Nat} {ty : TypeId} (h : fn.results = #[.cell p ty, .tmp q, .tmp r]) (tmps : Array Value) (w : World) (g : Nat) (u : Value)
    (hp : tmps.getD p undef = .pointer (some ⟨g, 0, none⟩)) (hl : (loadVar ty ⟨g, 0, none⟩).run P w = .ok u w) (v : Value) (hv : tmps.getD q undef = v) (x : Value) (hx : tmps.getD r undef = x) :
    (results fn tmps).run P w = .ok (.tuple #[u, v, x]) w := by
  have hp' : tmps[p]?.getD undef = .pointer (some ⟨g, 0, none⟩) := by simpa using hp
  have hv' : tmps[q]?.getD undef = v := by simpa using hv
  have hx' : tmps[r]?.getD undef = x := by simpa using hx
  simp [results, h, hp', hv', hx', asAddr, hl]
theorem ret3 {fn : Func} {p q r : Nat} (h : fn.results = #[.cell p 38, .tmp q, .tmp r]) (tmps : Array Value) (w : World) (g : Nat) (m : M)
    (hp : tmps.getD p undef = .pointer (some ⟨g, 0, none⟩)) (hm : Bx w g m) (v : Value) (hv : tmps.getD q undef = v) (x : Value) (hx : tmps.getD r undef = x) :
    (results fn tmps).run Tryz.prog w = .ok (.tuple #[.agg m.cells, v, x]) w := results_three h tmps w g _ hp (Own.loadVarM hm) v hv x hx
/-- What stays: the message's copy, its lists. -/
structure Fs (w W : World) (g : Nat) (f : M) : Prop where
  m : Bx W g f
  i : f.In W
  bel : Below w.heap.size w W
theorem Fs.call {w W w' : World} {g : Nat} {f : M} (h : Fs w W g f) (hb : Below W.heap.size W w') : Fs w w' g f := ⟨h.m.below hb, h.i.below hb, h.bel.trans (hb.mono h.bel.size)⟩
theorem Fs.new (w : World) (m : M) (hm : m.In w) : Fs w (w.alloc (.cells m.cells 38)) w.heap.size m := ⟨Bx.new w m, hm.below (balloc (Below.refl _ w) _), balloc (Below.refl _ w) _⟩
theorem Fs.drew {w W : World} {g : Nat} {f : M} (h : Fs w W g f) : Fs w W.drew g f := ⟨h.m, ⟨h.i.d, h.i.s, h.i.dl, h.i.sl⟩, h.bel.drew⟩
/-- n is m, but for where its Subs stand. -/
def Pl (n m : M) : Prop := n = { m with sa := n.sa, sc := n.sc }
theorem Pl.same {n n' m m' : M} (h : Pl n m) (h' : Pl n' m') : M.same n n' = M.same m m' := by
  rw [show n = _ from h, show n' = _ from h']
  rfl
theorem Pl.sl {n m : M} (h : Pl n m) : n.sl = m.sl := by rw [show n = _ from h]
theorem Pl.refl (m : M) : Pl m m := rfl
theorem few_parts {m : M} (h : Few.fewB m = true) : m.ll.length ≤ 300 ∧ m.sl.length ≤ 60 ∧ ∀ x ∈ m.sl, x.1.size ≤ 1099511627776 := by
  unfold Few.fewB at h
  simp only [Bool.and_eq_true, decide_eq_true_eq] at h
  refine ⟨h.1.1.1.1.1.1.1, h.1.1.1.1.1.1.2, fun x hx => ?_⟩
  have h2 := h.2
  unfold Few.small at h2
  rw [List.all_eq_true] at h2
  have := h2 x hx
  rw [decide_eq_true_eq] at this
  omega
end Go.Proofs.YtjhfpobjbijcpaaGreatDoor.An
namespace Go.Proofs.YtjhfpobjbijcpaaGreatDoor.All
open Go.ChangeShapes Go.WideShapes Go.ChangeAt Go.RowKit
open Go.Proofs.YtjhfpobjbijcpaaGreatDoor.Ms
open Go.Proofs.YtjhfpobjbijcpaaGreatDoor.Box
open Go.Proofs.YtjhfpobjbijcpaaGreatDoor.Same
open Go.Proofs.YtjhfpobjbijcpaaGreatDoor.SameP
open Go.Proofs.YtjhfpobjbijcpaaGreatDoor.RSame
open Go.Proofs.YtjhfpobjbijcpaaGreatDoor.Hs
open Go.Proofs.YtjhfpobjbijcpaaGreatDoor.Few
set_option linter.unusedVariables false
set_option maxRecDepth 100000

/-- The messages of a list stand in w. -/
def MRow (w : World) (a : Option Addr) (l : List M) : Prop :=
  ∀ i (h : i < l.length), ∃ p, a = some p ∧ p.block < w.heap.size ∧ (∀ j v, (l[i].cells.toList)[j]? = some v → w.cell? ((p.add (i * 25)).add j) = some v) ∧ DRow w l[i].la l[i].ll ∧ SRow w l[i].sa l[i].sl
theorem MRow.below {w w' : World} {a : Option Addr} {l : List M} (h : MRow w a l) (hb : Below w.heap.size w w') : MRow w' a l := by
  intro i hi
  obtain ⟨p, h1, h2, h3, h4, h5⟩ := h i hi
  refine ⟨p, h1, Nat.lt_of_lt_of_le h2 hb.size, fun j v hv => ?_, h4.below hb, h5.below hb⟩
  rw [hb.cell (by rw [add_block, add_block]; exact h2)]
  exact h3 j v hv
theorem MRow.nil (w : World) (a : Option Addr) : MRow w a [] := fun i hi => absurd hi (by simp)
/-- No list within is long. -/
def Short (m : M) : Prop := m.ll.length ≤ 1048576 ∧ m.sl.length ≤ 1048576

theorem loadVarA {w : World} {q : Addr} {m : M} (h : ∀ j v, (m.cells.toList)[j]? = some v → w.cell? (q.add j) = some v) : (loadVar 38 q).run Tryz.prog w = .ok (.agg m.cells) w := by
  have hl : (loadCells q 25).run Tryz.prog w = .ok m.cells w := by
    have := run_loadCells_list (P := Tryz.prog) w q m.cells.toList h
    rw [show m.cells.toList.length = 25 from rfl] at this
    rw [this]
  have hagg : (isAgg 38).run Tryz.prog w = .ok true w := by go_simp
  have hsz : (sizeOf 38).run Tryz.prog w = .ok 25 w := by go_simp
  simp only [loadVar, Sem.run_bind, hagg, Result.andThen_ok, if_true, hsz, hl, Sem.run_pure]
theorem ex_loadA {o : Oper} {ρ : Operand → Value} {x : Operand} {q : Addr} {m : M} {w : World} (ho : o.op = .load 38 x) (hx : ρ x = .pointer (some q)) (h : ∀ j v, (m.cells.toList)[j]? = some v → w.cell? (q.add j) = some v) :
    (execOp ρ o).run Tryz.prog w = .ok (.value (.agg m.cells)) w := by
  unfold execOp
  simp only [ho, hx, Instr.loadAt, Instr.sureAddr, Sem.run_bind, Sem.run_pure, Result.andThen_ok, loadVarA h]
theorem wpList_loadA {ops : Array Oper} {rest : List Oper} {o : Oper} {a : Act} {w : World} {Q : Exit → Act → World → Prop} (hgd : o.guard = none) (x : Operand) (ho : o.op = .load 38 x)
    {q : Addr} (hx : a.eval x = .pointer (some q)) {m : M} (hm : ∀ j v, (m.cells.toList)[j]? = some v → w.cell? (q.add j) = some v)
    (h : wpList Tryz.prog ops Q rest (a.put o.dst (.agg m.cells)) w) : wpList Tryz.prog ops Q (o :: rest) a w :=
  wpList_plain hgd fun K hK => by
    unfold Oper.wp
    rw [ex_loadA ho hx hm]
    exact hK _ _ h

theorem indexM (p : Addr) (n c i : Nat) (h : i < n) (W : World) : (Instr.indexAt 22 (.slice (some p) n c) (.int .i64 (i : Int))).run Tryz.prog W = .ok (.pointer (some (p.add (i * 25)))) W := by
  have he : Tryz.prog.elem 22 = 38 := by simp [Program.elem, Tryz.underlying22]
  have hz : (sizeOf 38).run Tryz.prog W = .ok 25 W := by go_simp
  rw [run_indexAt_slice W 22 p n c .i64 (i : Int) (by rw [he]; exact Tryz.underlying22), if_pos (by omega), he, hz]
  rfl

/-- Few messages, each of few parts? -/
def fewL (l : List M) (n : Int) : Bool := decide ((l.length : Int) ≤ n) && l.all fewB
theorem all_take (l : List M) (k : Nat) (h : k < l.length) : (l.take (k + 1)).all fewB = ((l.take k).all fewB && fewB l[k]) := by
  rw [List.take_succ_eq_append_getElem h, List.all_append]
  simp
theorem all_not (l : List M) (k : Nat) (h : k < l.length) (hn : fewB l[k] = false) : l.all fewB = false := by
  rw [List.all_eq_false]
  exact ⟨l[k], List.getElem_mem h, by rw [hn]; simp⟩

set_option maxHeartbeats 3200000 in
theorem fewAll_any (a : Option Addr) (c : Nat) (l : List M) (n : Int) (w : World) (hl : MRow w a l) (hn : l.length ≤ 9223372036854775807) :
    Calls Tryz.prog 6 #[.slice a l.length c, .int .i64 n] w fun e w' => e = .returned (.bool (fewL l n)) ∧ Below w.heap.size w w' := by
  have HFL := Lib.hid (show fewL l n = (decide ((l.length : Int) ≤ n) && l.all fewB) from rfl)
  go_enter Tryz.func6, Tryz.ntmps6
  by_cases h0 : n < (l.length : Int)
  · go_wp2
    go_ret
    exact ⟨bool_eq (by rw [HFL.out]; simp; omega), Below.refl _ _⟩
  have HF2 : Hid (fewL l n = l.all fewB) := Lib.hid (by rw [HFL.out]; simp [show (l.length : Int) ≤ n by omega])
  clear HFL
  go_wp2
  clear h0
  go_loopw [5] (fun i wr => ∃ k : Nat, k ≤ l.length ∧ i = .int .i64 k ∧ Hid ((l.take k).all fewB = true) ∧ Hid (Below w.heap.size w wr)) (fun i _ => l.length - (intOf i).toNat)
  case atStart => exact ⟨0, Nat.zero_le _, rfl, Lib.hid rfl, Lib.hid (Below.refl _ _)⟩
  case round =>
    obtain ⟨k, hk, rfl, HN, HB⟩ := hrel
    by_cases hlt : k < l.length
    · obtain ⟨p, rfl, _, hc, hd, hs⟩ := (hl.below HB.out) k hlt
      have P := Lib.hid (few_any l[k] wr hd hs)
      have HT := Lib.hid (all_take l k hlt)
      have HF := Lib.hid (all_not l k hlt)
      have HC := Lib.hid hc
      clear hl hc hd hs
      generalize l[k] = u at *
      cases hu : fewB u
      · have HU := Lib.hid hu
        rw [hu] at P
        clear hu
        go_wp2_with (first | (refine wpList_loadA (m := u) rfl _ rfl rfl HC.out ?_))
        refine P.out.mono ?_
        rintro e w1 ⟨rfl, hb1⟩
        go_wp2
        go_ret
        exact ⟨bool_eq (by rw [HF2.out, HF.out HU.out]), bcall HB.out hb1⟩
      · have HU := Lib.hid hu
        rw [hu] at P
        clear hu
        go_wp2_with (first | (refine wpList_loadA (m := u) rfl _ rfl rfl HC.out ?_))
        refine P.out.mono ?_
        rintro e w1 ⟨rfl, hb1⟩
        have HB1 := Lib.hid (bcall HB.out hb1)
        clear hb1
        go_wp2
        go_roundw
        case rel => exact ⟨k + 1, hlt, by go_num, Lib.hid (by rw [HT.out, HN.out, HU.out]; rfl), HB1⟩
        case measure => simp [intOf]; omega
    · obtain rfl : k = l.length := by omega
      go_wp2
      go_ret
      exact ⟨bool_eq (by rw [HF2.out]; have := HN.out; rw [List.take_length] at this; exact this.symm), HB.out⟩

open Classical in
/-- Are the lists the same? -/
noncomputable def sameL (x y : List M) : Bool := decide (x.length = y.length ∧ ∀ i (hx : i < x.length) (hy : i < y.length), M.same x[i] y[i] = true)
theorem sameL_yes {x y : List M} (hl : x.length = y.length) (h : ∀ i (hx : i < x.length) (hy : i < y.length), M.same x[i] y[i] = true) : sameL x y = true := by unfold sameL; exact decide_eq_true ⟨hl, h⟩
theorem sameL_len {x y : List M} (hl : x.length ≠ y.length) : sameL x y = false := by unfold sameL; exact decide_eq_false fun h => hl h.1
theorem sameL_at {x y : List M} {k : Nat} (hx : k < x.length) (hy : k < y.length) (h : M.same x[k] y[k] = false) : sameL x y = false := by
  unfold sameL
  exact decide_eq_false fun h2 => by have := h2.2 k hx hy; rw [h] at this; cases this
theorem ex_indexM {o : Oper} {ρ : Operand → Value} {x y : Operand} {p : Addr} {n c i : Nat} {w : World} (ho : o.op = .indexAddr 22 x y) (hx : ρ x = .slice (some p) n c) (hy : ρ y = .int .i64 (i : Int)) (h : i < n) :
    (execOp ρ o).run Tryz.prog w = .ok (.value (.pointer (some (p.add (i * 25))))) w := by
  unfold execOp
  simp only [ho, hx, hy, Sem.run_bind, indexM p n c i h, Result.andThen_ok, Sem.run_pure]

/-- What stays in the document's round. -/
def S3 (w : World) (p q : Addr) (u v : M) (W : World) : Prop := (∀ j x, (u.cells.toList)[j]? = some x → W.cell? (p.add j) = some x) ∧ (∀ j x, (v.cells.toList)[j]? = some x → W.cell? (q.add j) = some x) ∧ u.In W ∧ v.In W ∧ p.block < W.heap.size ∧ q.block < W.heap.size ∧ Below w.heap.size w W
theorem S3.keep {w : World} {p q : Addr} {u v : M} (W w1 : World) (h : S3 w p q u v W) (hb : Below W.heap.size W w1) : S3 w p q u v w1 :=
  ⟨fun j x hx => (hb.cell (p := p.add j) (by rw [add_block]; exact h.2.2.2.2.1)).trans (h.1 j x hx), fun j x hx => (hb.cell (p := q.add j) (by rw [add_block]; exact h.2.2.2.2.2.1)).trans (h.2.1 j x hx), h.2.2.1.below hb, h.2.2.2.1.below hb, Nat.lt_of_lt_of_le h.2.2.2.2.1 hb.size, Nat.lt_of_lt_of_le h.2.2.2.2.2.1 hb.size, bcall h.2.2.2.2.2.2 hb⟩

set_option maxHeartbeats 3200000 in
theorem rsameAll_any (a b : Option Addr) (ca cb : Nat) (x y : List M) (w : World) (hx : MRow w a x) (hy : MRow w b y) (sx : ∀ m ∈ x, Short m) (sy : ∀ m ∈ y, Short m) (lx : x.length ≤ 1048576) (ly : y.length ≤ 1048576) :
    Calls Tryz.prog 13 #[.slice a x.length ca, .slice b y.length cb] w fun e w' => e = .returned (.bool (sameL x y)) ∧ Below w.heap.size w w' := by
  by_cases hl : x.length = y.length
  · have HL := Lib.hid hl
    go_enter Tryz.func13, Tryz.ntmps13
    go_wp2
    go_loopw [5] (fun i wr => ∃ k : Nat, k ≤ x.length ∧ i = .int .i64 k ∧ Hid (∀ i, i < k → ∀ (hx : i < x.length) (hy : i < y.length), M.same x[i] y[i] = true) ∧ Hid (Below w.heap.size w wr)) (fun i _ => x.length - (intOf i).toNat)
    case atStart => exact ⟨0, Nat.zero_le _, rfl, Lib.hid (fun i hi => absurd hi (by omega)), Lib.hid (Below.refl _ _)⟩
    case round =>
      obtain ⟨k, hk, rfl, HT, HB⟩ := hrel
      by_cases hlt : k < x.length
      · have hlt2 : k < y.length := by omega
        obtain ⟨p, rfl, hp, hc, hcd, hcs⟩ := (hx.below HB.out) k hlt
        obtain ⟨q, rfl, hq, hd, hdd, hds⟩ := (hy.below HB.out) k hlt2
        have hsx := sx _ (List.getElem_mem hlt)
        have hsy := sy _ (List.getElem_mem hlt2)
        have HN := Lib.hid (fun h => sameL_at (x := x) (y := y) (k := k) hlt hlt2 h)
        have HS := Lib.hid (fun (h : M.same x[k] y[k] = true) => show ∀ i, i < k + 1 → ∀ (hx : i < x.length) (hy : i < y.length), M.same x[i] y[i] = true from fun i hi h1 h2 => by
          by_cases hik : i < k
          · exact HT.out i hik h1 h2
          · obtain rfl : i = k := by omega
            exact h)
        have H0 := Lib.hid (show S3 w (p.add (k * 25)) (q.add (k * 25)) x[k] y[k] wr.drew from S3.keep wr _ ⟨hc, hd, ⟨hcd, hcs, hsx.1, hsx.2⟩, ⟨hdd, hds, hsy.1, hsy.2⟩, by rw [add_block]; exact hp, by rw [add_block]; exact hq, HB.out⟩ (Below.refl _ _).drew)
        have P := Lib.hid (fun W (h : S3 w (p.add (k * 25)) (q.add (k * 25)) x[k] y[k] W) => heldP (S3 w (p.add (k * 25)) (q.add (k * 25)) x[k] y[k]) S3.keep (rsame_any x[k] y[k] W h.2.2.1 h.2.2.2.1) h)
        clear HT hx hy sx sy hc hd hcd hcs hdd hds hsx hsy hp hq hl HB
        generalize x[k] = u at *
        generalize y[k] = v at *
        cases hs : M.same u v
        · have HN1 := Lib.hid (HN.out hs)
          rw [hs] at P
          clear hs HN HS
          go_upto_region 6 with fail
          refine wp_region_held_drew (S := S3 w (p.add (k * 25)) (q.add (k * 25)) u v) (by kernel_rfl) H0.out (fun hS => ?_)
          clear H0
          generalize wr.drew = w0 at *
          refine H.tk (i := 0) (v := ?v0) ?h0 hS ?_
          case h0 => (intro w hw; go_simp; first | done | (with_reducible rfl))
          try simp only [Act.put, List.setIfInBounds_toArray, List.set_cons_zero, List.set_cons_succ]
          refine H.tk (i := 1) (v := ?v1) ?h1 hS ?_
          case h1 => (intro w hw; go_simp; first | done | (with_reducible rfl))
          try simp only [Act.put, List.setIfInBounds_toArray, List.set_cons_zero, List.set_cons_succ]
          refine H.tk (i := 2) (v := .pointer (some (p.add (k * 25)))) ?h2 hS ?_
          case h2 => exact fun w _ => ex_indexM (x := .tmp 17) (y := .tmp 18) rfl rfl rfl hlt
          try simp only [Act.put, List.setIfInBounds_toArray, List.set_cons_zero, List.set_cons_succ]
          refine H.tk (i := 3) (v := .agg (M.cells u)) ?h3 hS ?_
          case h3 => exact fun w hw => ex_loadA (x := .tmp 19) rfl rfl hw.1
          try simp only [Act.put, List.setIfInBounds_toArray, List.set_cons_zero, List.set_cons_succ]
          refine H.tk (i := 4) (v := ?v4) ?h4 hS ?_
          case h4 => (intro w hw; go_simp; first | done | (with_reducible rfl))
          try simp only [Act.put, List.setIfInBounds_toArray, List.set_cons_zero, List.set_cons_succ]
          refine H.tk (i := 5) (v := ?v5) ?h5 hS ?_
          case h5 => (intro w hw; go_simp; first | done | (with_reducible rfl))
          try simp only [Act.put, List.setIfInBounds_toArray, List.set_cons_zero, List.set_cons_succ]
          refine H.tk (i := 6) (v := .pointer (some (q.add (k * 25)))) ?h6 hS ?_
          case h6 => exact fun w _ => ex_indexM (x := .tmp 21) (y := .tmp 22) rfl rfl rfl hlt2
          try simp only [Act.put, List.setIfInBounds_toArray, List.set_cons_zero, List.set_cons_succ]
          refine H.tk (i := 7) (v := .agg (M.cells v)) ?h7 hS ?_
          case h7 => exact fun w hw => ex_loadA (x := .tmp 23) rfl rfl hw.2.1
          try simp only [Act.put, List.setIfInBounds_toArray, List.set_cons_zero, List.set_cons_succ]
          refine wpAnyH_ready (rs := [8]) (by kernel_rfl) (by simp) ?_
          refine AllReadyH.cons rfl (fun K hK => ?_) AllReadyH.nil
          go_simp
          refine (P.out _ hS).mono ?_
          rintro e w8 ⟨rfl, hS8⟩
          refine hK.out _ _ hS8 (fun _ => ?_)
          clear hK K hS
          have hS := hS8
          clear hS8
          try simp only [Act.put, List.setIfInBounds_toArray, List.set_cons_zero, List.set_cons_succ]
          refine H.tk (i := 9) (v := (.bool true)) (fun w _ => rfl) hS ?_
          try simp only [Act.put, List.setIfInBounds_toArray, List.set_cons_zero, List.set_cons_succ]
          refine wpAnyH_done (by kernel_rfl) ?_ _
          go_wp2
          go_ret
          exact ⟨bool_eq (by rw [HN1.out]), hS.2.2.2.2.2.2⟩
        · have HS1 := Lib.hid (HS.out hs)
          rw [hs] at P
          clear hs HN HS
          go_upto_region 6 with fail
          refine wp_region_held_drew (S := S3 w (p.add (k * 25)) (q.add (k * 25)) u v) (by kernel_rfl) H0.out (fun hS => ?_)
          clear H0
          generalize wr.drew = w0 at *
          refine H.tk (i := 0) (v := ?v0) ?h0 hS ?_
          case h0 => (intro w hw; go_simp; first | done | (with_reducible rfl))
          try simp only [Act.put, List.setIfInBounds_toArray, List.set_cons_zero, List.set_cons_succ]
          refine H.tk (i := 1) (v := ?v1) ?h1 hS ?_
          case h1 => (intro w hw; go_simp; first | done | (with_reducible rfl))
          try simp only [Act.put, List.setIfInBounds_toArray, List.set_cons_zero, List.set_cons_succ]
          refine H.tk (i := 2) (v := .pointer (some (p.add (k * 25)))) ?h2 hS ?_
          case h2 => exact fun w _ => ex_indexM (x := .tmp 17) (y := .tmp 18) rfl rfl rfl hlt
          try simp only [Act.put, List.setIfInBounds_toArray, List.set_cons_zero, List.set_cons_succ]
          refine H.tk (i := 3) (v := .agg (M.cells u)) ?h3 hS ?_
          case h3 => exact fun w hw => ex_loadA (x := .tmp 19) rfl rfl hw.1
          try simp only [Act.put, List.setIfInBounds_toArray, List.set_cons_zero, List.set_cons_succ]
          refine H.tk (i := 4) (v := ?v4) ?h4 hS ?_
          case h4 => (intro w hw; go_simp; first | done | (with_reducible rfl))
          try simp only [Act.put, List.setIfInBounds_toArray, List.set_cons_zero, List.set_cons_succ]
          refine H.tk (i := 5) (v := ?v5) ?h5 hS ?_
          case h5 => (intro w hw; go_simp; first | done | (with_reducible rfl))
          try simp only [Act.put, List.setIfInBounds_toArray, List.set_cons_zero, List.set_cons_succ]
          refine H.tk (i := 6) (v := .pointer (some (q.add (k * 25)))) ?h6 hS ?_
          case h6 => exact fun w _ => ex_indexM (x := .tmp 21) (y := .tmp 22) rfl rfl rfl hlt2
          try simp only [Act.put, List.setIfInBounds_toArray, List.set_cons_zero, List.set_cons_succ]
          refine H.tk (i := 7) (v := .agg (M.cells v)) ?h7 hS ?_
          case h7 => exact fun w hw => ex_loadA (x := .tmp 23) rfl rfl hw.2.1
          try simp only [Act.put, List.setIfInBounds_toArray, List.set_cons_zero, List.set_cons_succ]
          refine wpAnyH_ready (rs := [8]) (by kernel_rfl) (by simp) ?_
          refine AllReadyH.cons rfl (fun K hK => ?_) AllReadyH.nil
          go_simp
          refine (P.out _ hS).mono ?_
          rintro e w8 ⟨rfl, hS8⟩
          refine hK.out _ _ hS8 (fun _ => ?_)
          clear hK K hS
          have hS := hS8
          clear hS8
          try simp only [Act.put, List.setIfInBounds_toArray, List.set_cons_zero, List.set_cons_succ]
          refine H.tk (i := 9) (v := (.bool false)) (fun w _ => rfl) hS ?_
          try simp only [Act.put, List.setIfInBounds_toArray, List.set_cons_zero, List.set_cons_succ]
          refine wpAnyH_done (by kernel_rfl) ?_ _
          have HB3 := Lib.hid hS.2.2.2.2.2.2
          clear hS
          go_wp2
          go_roundw
          case rel => exact ⟨k + 1, hlt, by go_num, HS1, HB3⟩
          case measure => simp [intOf]; omega
      · obtain rfl : k = x.length := by omega
        have he : sameL x y = true := sameL_yes HL.out (fun i h1 h2 => HT.out i h1 h1 h2)
        have HE := Lib.hid he
        clear he
        go_wp2
        go_ret
        exact ⟨bool_eq (by rw [HE.out]), HB.out⟩
  · go_enter Tryz.func13, Tryz.ntmps13
    go_wp2
    go_ret
    exact ⟨bool_eq (sameL_len hl).symm, Below.refl _ _⟩
end Go.Proofs.YtjhfpobjbijcpaaGreatDoor.All
namespace Go.Proofs.YtjhfpobjbijcpaaGreatDoor.Ap
open Go.ChangeShapes Go.WideShapes Go.ChangeAt Go.RowKit
open Go.Proofs.YtjhfpobjbijcpaaGreatDoor.Ms
open Go.Proofs.YtjhfpobjbijcpaaGreatDoor.Box
open Go.Proofs.YtjhfpobjbijcpaaGreatDoor.All
set_option linter.unusedVariables false
set_option maxRecDepth 100000
set_option maxRecDepth 100000

theorem build_one (m : M) (w : World) : (Instr.buildSlice 22 1 #[(0, .agg m.cells)]).run Tryz.prog w = .ok (.slice (some ⟨w.heap.size, 0, none⟩) 1 1) (w.alloc (.cells m.cells 38)) := by
  kernel_rfl
theorem ex_bs {o : Oper} {ρ : Operand → Value} {x : Operand} {m : M} {w : World} (ho : o.op = .buildSlice 22 1 #[(0, x)]) (hx : ρ x = .agg m.cells) :
    (execOp ρ o).run Tryz.prog w = .ok (.value (.slice (some ⟨w.heap.size, 0, none⟩) 1 1)) (w.alloc (.cells m.cells 38)) := by
  have e : ((#[(0, x)] : Array (Nat × Operand)).map fun (i, x) => (i, ρ x)) = #[(0, .agg m.cells)] := by simp [hx]
  unfold execOp
  simp only [ho, Sem.run_bind, e, build_one, Result.andThen_ok, Sem.run_pure]
theorem bs_one {ops : Array Oper} {rest : List Oper} {o : Oper} {a : Act} {w : World} {Q : Exit → Act → World → Prop} (hgd : o.guard = none) (x : Operand) (ho : o.op = .buildSlice 22 1 #[(0, x)])
    {m : M} (hx : a.eval x = .agg m.cells) (h : wpList Tryz.prog ops Q rest (a.put o.dst (.slice (some ⟨w.heap.size, 0, none⟩) 1 1)) (w.alloc (.cells m.cells 38))) : wpList Tryz.prog ops Q (o :: rest) a w :=
  wpList_plain hgd fun K hK => by
    unfold Oper.wp
    rw [ex_bs ho hx]
    exact hK _ _ h
theorem add_at (g o j : Nat) : (⟨g, o, none⟩ : Addr).add j = ⟨g, o + j, none⟩ := by
  unfold Addr.add
  split
  · rename_i h; rw [h]; rfl
  · rfl
/-- The cells of a list of messages. -/
def rowC (l : List M) : List Value := l.flatMap fun m => m.cells.toList
theorem rowC_len (l : List M) : (rowC l).length = l.length * 25 := by
  induction l with
  | nil => rfl
  | cons m l ih =>
    have : rowC (m :: l) = m.cells.toList ++ rowC l := by simp [rowC]
    rw [this, List.length_append, ih, List.length_cons]
    have : m.cells.toList.length = 25 := rfl
    omega
theorem rowC_at : ∀ (l : List M) (i j : Nat) (h : i < l.length), j < 25 → (rowC l)[i * 25 + j]? = (l[i].cells.toList)[j]?
  | [], i, j, h, _ => absurd h (by simp)
  | m :: l, 0, j, h, hj => by
    have : rowC (m :: l) = m.cells.toList ++ rowC l := by simp [rowC]
    rw [this, Nat.zero_mul, Nat.zero_add, List.getElem?_append_left (by show j < m.cells.toList.length; exact hj)]
    rfl
  | m :: l, i + 1, j, h, hj => by
    have e : rowC (m :: l) = m.cells.toList ++ rowC l := by simp [rowC]
    have hl : m.cells.toList.length = 25 := rfl
    rw [e, List.getElem?_append_right (by rw [hl]; omega), hl, show (i + 1) * 25 + j - 25 = i * 25 + j by omega, rowC_at l i j (by simpa using h) hj]
    rfl
theorem infoA : ∃ i, Tryz.prog.info? 38 = some i ∧ i.zero = some (.agg M.zero.cells) ∧ i.size = 25 ∧ i.bytes ≤ 4096 := by
  have h : (Tryz.prog.info? 38).map (fun i => (i.zero, i.size, decide (i.bytes ≤ 4096))) = some (some (.agg M.zero.cells), 25, true) := by kernel_rfl
  obtain ⟨i, hi, hz⟩ := Option.map_eq_some_iff.1 h
  simp only [Prod.mk.injEq, decide_eq_true_eq] at hz
  exact ⟨i, hi, hz⟩

/-- The call's own list of the messages l (what is new begins at block B). -/
def Lst (B : Nat) (w : World) (v : Value) (l : List M) : Prop := w.ownsRow B 38 25 v l.length (rowC l)
theorem Lst.nil (B : Nat) (w : World) : Lst B w (.slice none 0 0) [] := World.ownsRow_nil w B _ 25
theorem Lst.below {B : Nat} {w w' : World} {v : Value} {l : List M} (h : Lst B w v l) (hb : Below w.heap.size w w') : Lst B w' v l := by
  refine ⟨h.1, ?_⟩
  rcases h.2 with h | ⟨g, cap, cur, a, b, c, d⟩
  · exact .inl h
  · exact .inr ⟨g, cap, cur, a, b, (hb.block g (Array.getElem?_eq_some_iff.1 c).1).trans c, d⟩
theorem Lst.slice {B : Nat} {w : World} {v : Value} {l : List M} (h : Lst B w v l) : ∃ a c, v = .slice a l.length c := by
  rcases h.2 with ⟨hv, h0⟩ | ⟨g, cap, cur, hv, _⟩
  · exact ⟨none, 0, by rw [hv, h0]⟩
  · exact ⟨_, _, hv⟩
theorem cells_new (m : M) (w : World) : ∀ j u, (m.cells.toList)[j]? = some u → (w.alloc (.cells m.cells 38)).cell? ((⟨w.heap.size, 0, none⟩ : Addr).add j) = some u := by
  intro j u hu
  have := (Bx.new w m).cell j u (by simpa using hu)
  rw [add_at, Nat.zero_add]
  exact this

end Go.Proofs.YtjhfpobjbijcpaaGreatDoor.Ap
