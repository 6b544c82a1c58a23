/-
  Lists of texts of a call's own; strings.Join of them with nothing between. Conditions: at most 1000 texts, of at most a million bytes together.
  What is known, in a block of its own, read and changed at an index; the boxes of a call with what is known and a message; texts that are equal. No conditions.
  Whether Subs may be: the program's Right and the document's; whether they are few, and the same, as the statements ask. Condition: lists of at most 2^20 elements.
-/
import Derived.Test.YtbfjebfodaoikaaGreatDoorA05
import Derived.Test.YtbfjebfodaoikaaGreatDoorA06
import Derived.Test.YtbfjebfodaoikaaGreatDoorA10
import Derived.Test.YtbfjebfodaoikaaGreatDoorA11
import Derived.Test.YtbfjebfodaoikaaGreatDoorA13
import Derived.Test.YtbfjebfodaoikaaGreatDoorA15
import Derived.Laws.AppendOwn
import Derived.Laws.OwnMore
namespace Go.Proofs.YtbfjebfodaoikaaGreatDoor.Js
open Go.ChangeShapes Go.WideShapes Go.ChangeAt Go.RowKit
open Go.Proofs.YtbfjebfodaoikaaGreatDoor.Bk (Bk)
open Go.Proofs.YtbfjebfodaoikaaGreatDoor.Sb (Bld)
set_option linter.unusedVariables false
set_option maxRecDepth 100000
set_option maxRecDepth 100000

/-- The bytes of texts, one behind the other. -/
def flat (l : List ByteArray) : List UInt8 := l.flatMap fun x => x.data.toList
def catJ (l : List ByteArray) : ByteArray := ⟨(flat l).toArray⟩
theorem flat_nil : flat [] = [] := rfl
theorem flat_app (a b : List ByteArray) : flat (a ++ b) = flat a ++ flat b := by simp [flat]
theorem flat_one (x : ByteArray) : flat [x] = x.data.toList := by simp [flat]
theorem flat_succ (l : List ByteArray) (k : Nat) (h : k < l.length) : flat (l.take (k + 1)) = flat (l.take k) ++ l[k].data.toList := by
  rw [List.take_succ_eq_append_getElem h, flat_app, flat_one]
theorem flat_le (l : List ByteArray) (k : Nat) : (flat (l.take k)).length ≤ (flat l).length := by
  have := congrArg List.length (flat_app (l.take k) (l.drop k))
  rw [List.take_append_drop, List.length_append] at this
  omega

theorem add_at (g o j : Nat) : (⟨g, o, none⟩ : Addr).add j = ⟨g, o + j, none⟩ := by
  unfold Addr.add
  split
  · rename_i h; rw [h]; rfl
  · rfl
theorem build_one (x : ByteArray) (w : World) : (Instr.buildSlice 44 1 #[(0, .string x)]).run Tryz.prog w = .ok (.slice (some ⟨w.heap.size, 0, none⟩) 1 1) (w.alloc (.cells #[.string x] 9)) := by
  kernel_rfl
theorem ex_bs {o : Oper} {ρ : Operand → Value} {x : Operand} {s : ByteArray} {w : World} (ho : o.op = .buildSlice 44 1 #[(0, x)]) (hx : ρ x = .string s) :
    (execOp ρ o).run Tryz.prog w = .ok (.value (.slice (some ⟨w.heap.size, 0, none⟩) 1 1)) (w.alloc (.cells #[.string s] 9)) := by
  have e : ((#[(0, x)] : Array (Nat × Operand)).map fun (i, x) => (i, ρ x)) = #[(0, .string s)] := by simp [hx]
  unfold execOp
  simp only [ho, Sem.run_bind, e, build_one, Result.andThen_ok, Sem.run_pure]
theorem bs_one {ops : Array Oper} {rest : List Oper} {o : Oper} {a : Act} {w : World} {Q : Exit → Act → World → Prop} (hgd : o.guard = none) (x : Operand) (ho : o.op = .buildSlice 44 1 #[(0, x)])
    {s : ByteArray} (hx : a.eval x = .string s) (h : wpList Tryz.prog ops Q rest (a.put o.dst (.slice (some ⟨w.heap.size, 0, none⟩) 1 1)) (w.alloc (.cells #[.string s] 9))) : wpList Tryz.prog ops Q (o :: rest) a w :=
  wpList_plain hgd fun K hK => by
    unfold Oper.wp
    rw [ex_bs ho hx]
    exact hK _ _ h
theorem infoT : ∃ i, Tryz.prog.info? 9 = some i ∧ i.zero = some (.string ByteArray.empty) ∧ i.size = 1 ∧ i.bytes ≤ 4096 := by
  have h : (Tryz.prog.info? 9).map (fun i => (i.zero, i.size, decide (i.bytes ≤ 4096))) = some (some (.string ByteArray.empty), 1, true) := by kernel_rfl
  obtain ⟨i, hi, hz⟩ := Option.map_eq_some_iff.1 h
  simp only [Prod.mk.injEq, decide_eq_true_eq] at hz
  exact ⟨i, hi, hz⟩
/-- The cells of a list of texts. -/
def rowT (l : List ByteArray) : List Value := l.map .string
/-- The call's own list of the texts l (what is new begins at block B). -/
def Lst (B : Nat) (w : World) (v : Value) (l : List ByteArray) : Prop := w.ownsRow B 9 1 v l.length (rowT l)
theorem Lst.nil (B : Nat) (w : World) : Lst B w (.slice none 0 0) [] := World.ownsRow_nil w B _ 1
theorem Lst.below {B : Nat} {w w' : World} {v : Value} {l : List ByteArray} (h : Lst B w v l) (hb : Below w.heap.size w w') : Lst B w' v l := by
  refine ⟨h.1, ?_⟩
  rcases h.2 with h | ⟨g, cap, cur, a, b, c, d⟩
  · exact .inl h
  · exact .inr ⟨g, cap, cur, a, b, (hb.block g (Array.getElem?_eq_some_iff.1 c).1).trans c, d⟩
theorem Lst.mono {B B' : Nat} {w : World} {v : Value} {l : List ByteArray} (h : Lst B w v l) (hB : B' ≤ B) : Lst B' w v l := by
  refine ⟨h.1, ?_⟩
  rcases h.2 with h | ⟨g, cap, cur, a, b, c, d⟩
  · exact .inl h
  · exact .inr ⟨g, cap, cur, a, Nat.le_trans hB b, c, d⟩
theorem Lst.under {B g : Nat} {w : World} {v : Value} {l : List ByteArray} (h : Lst B w v l) (hg : g < B) (cs : Array Value) : Lst B (w.setRow g cs) v l := by
  refine ⟨h.1, ?_⟩
  rcases h.2 with h | ⟨k, cap, cur, a, b, c, d⟩
  · exact .inl h
  · exact .inr ⟨k, cap, cur, a, b, (setRow_other w g k cs (by omega)).trans c, d⟩
theorem Lst.cellset {B : Nat} {w : World} {v : Value} {l : List ByteArray} (h : Lst B w v l) {p : Addr} (hg : p.block < B) (u : Value) : Lst B (w.setCell p u) v l := by
  refine ⟨h.1, ?_⟩
  rcases h.2 with h | ⟨k, cap, cur, a, b, c, d⟩
  · exact .inl h
  · exact .inr ⟨k, cap, cur, a, b, (heap_setCell_other w p k u (by omega)).trans c, d⟩
theorem Lst.slice {B : Nat} {w : World} {v : Value} {l : List ByteArray} (h : Lst B w v l) : ∃ a c, v = .slice a l.length c := by
  rcases h.2 with ⟨hv, h0⟩ | ⟨g, cap, cur, hv, _⟩
  · exact ⟨none, 0, by rw [hv, h0]⟩
  · exact ⟨_, _, hv⟩
theorem cells_new (x : ByteArray) (w : World) : ∀ j u, ([Value.string x])[j]? = some u → (w.alloc (.cells #[.string x] 9)).cell? ((⟨w.heap.size, 0, none⟩ : Addr).add j) = some u := by
  intro j u hu
  have := (Bk.Bk.new 9 w #[.string x]).cell j u (by simpa using hu)
  rw [add_at, Nat.zero_add]
  exact this
theorem wp_app {o : Oper} {a : Act} {w : World} {Q : Exit → Act → World → Prop} {K : Act → World → Prop} (s x : Operand)
    (ho : o.op = .call { callee := .builtin .append, args := #[s, x], argTypes := #[44, 44] }) (B : Nat) (v : Value) (l : List ByteArray) (m : ByteArray) (g c : Nat)
    (hs : a.eval s = v) (hown : Lst B w v l) (hx : a.eval x = .slice (some ⟨g, 0, none⟩) 1 c) (hm : ∀ j u, ([Value.string m])[j]? = some u → w.cell? ((⟨g, 0, none⟩ : Addr).add j) = some u)
    (hl : l.length ≤ 100000) (hB : B ≤ w.heap.size)
    (h : ∀ v' w', Lst B w' v' (l ++ [m]) → Below B w w' → w.heap.size ≤ w'.heap.size → K (a.put o.dst v') w') : Oper.wp Tryz.prog o a w K Q := by
  obtain ⟨i0, hi, hz, hsz, hby⟩ := infoT
  refine wp_append_own w s x 44 ho B 9 i0 (.string ByteArray.empty) 1 i0.bytes Tryz.underlying44 hi hz hsz rfl rfl (by decide) v l.length (rowT l) hs hown ⟨g, 0, none⟩ 1 c [.string m] hx rfl hm ?_ (by unfold maxLen; omega) ?_ hB ?_
  · intro u hu
    rw [List.mem_singleton] at hu
    rw [hu]; rfl
  · have : (l.length + 1) * i0.bytes ≤ 100001 * 4096 := Nat.mul_le_mul (by omega) hby
    omega
  · intro v' w' h2 h3 _
    refine h v' w' ?_ ((Below.refl B w).grown h3 hB (fun k hk => (World.ownsRow.lt hown k hk).1)) h3.size
    unfold Lst
    have e : rowT (l ++ [m]) = rowT l ++ [.string m] := by simp [rowT]
    rw [e, List.length_append]
    exact h2
/-- append(v, x), behind the making of the list of x alone. -/
theorem app_one {ops : Array Oper} {rest : List Oper} {o : Oper} {a : Act} {w : World} {Q : Exit → Act → World → Prop} (hgd : o.guard = none) (s x : Operand)
    (ho : o.op = .call { callee := .builtin .append, args := #[s, x], argTypes := #[44, 44] }) (B : Nat) (v : Value) (l : List ByteArray) (m : ByteArray) (g c : Nat)
    (hs : a.eval s = v) (hown : Lst B w v l) (hx : a.eval x = .slice (some ⟨g, 0, none⟩) 1 c) (hm : ∀ j u, ([Value.string m])[j]? = some u → w.cell? ((⟨g, 0, none⟩ : Addr).add j) = some u)
    (hl : l.length ≤ 100000) (hB : B ≤ w.heap.size)
    (h : ∀ v' w', Lst B w' v' (l ++ [m]) → Below B w w' → w.heap.size ≤ w'.heap.size → wpList Tryz.prog ops Q rest (a.put o.dst v') w') : wpList Tryz.prog ops Q (o :: rest) a w :=
  wpList_plain hgd fun K hK => wp_app s x ho B v l m g c hs hown hx hm hl hB fun v' w' h1 h2 h3 => hK _ _ (h v' w' h1 h2 h3)
/-- A list of one text, just made. -/
theorem one_new (x : ByteArray) (w : World) : Lst w.heap.size (w.alloc (.cells #[.string x] 9)) (.slice (some ⟨w.heap.size, 0, none⟩) 1 1) [x] := by
  exact World.ownsRow_lit w #[.string x] 1 (Nat.le_refl _) (by decide) rfl

set_option maxHeartbeats 4000000 in
theorem join_none (a : Option Addr) (c : Nat) (w : World) : Calls Tryz.prog 15 #[.slice a 0 c, .string ⟨#[]⟩] w fun e w' => e = .returned (.string ⟨#[]⟩) ∧ w' = w := by
  go_enter Tryz.func15, Tryz.ntmps15
  go_wp2
  go_ret
  exact ⟨rfl, rfl⟩
set_option maxHeartbeats 4000000 in
theorem join_one (b o c : Nat) (x : ByteArray) (w : World) (hc : w.cell? ⟨b, o, none⟩ = some (.string x)) : Calls Tryz.prog 15 #[.slice (some ⟨b, o, none⟩) 1 c, .string ⟨#[]⟩] w fun e w' => e = .returned (.string x) ∧ w' = w := by
  go_enter Tryz.func15, Tryz.ntmps15
  go_wp2
  go_ret
  exact ⟨rfl, rfl⟩
set_option maxHeartbeats 8000000 in
theorem join_many (b o c : Nat) (xs : List ByteArray) (w : World) (hcells : ∀ j (h : j < xs.length), w.cell? ⟨b, o + j, none⟩ = some (.string xs[j])) (hb : b < w.heap.size) (h2 : 2 ≤ xs.length) (hN : xs.length ≤ 1000) (hcap : xs.length ≤ c) (hlen : (flat xs).length ≤ 1000000) :
    Calls Tryz.prog 15 #[.slice (some ⟨b, o, none⟩) xs.length c, .string ⟨#[]⟩] w fun e w' => e = .returned (.string (catJ xs)) ∧ Below w.heap.size w w' := by
  have HC := Lib.hid hcells
  have HLe := Lib.hid (fun k => Nat.le_trans (flat_le xs k) hlen)
  have hne0 : ((xs.length : Int) == 0) = false := beq_eq_false_iff_ne.2 (by omega)
  have hne1 : ((xs.length : Int) == 1) = false := beq_eq_false_iff_ne.2 (by omega)
  clear hcells hlen
  go_enter Tryz.func15, Tryz.ntmps15
  go_wp2_with fail
  go_loop [5, 41] (fun n i => ∃ k : Nat, k ≤ xs.length ∧ i = .int .i64 k ∧ n = .int .i64 ((flat (xs.take k)).length : Nat)) (fun _ i => xs.length - (intOf i).toNat)
  case atStart => exact ⟨0, Nat.zero_le _, rfl, rfl⟩
  case round =>
    obtain ⟨k, hk, rfl, rfl⟩ := hrel
    by_cases hkn : k < xs.length
    · have hc := HC.out k hkn
      have hstep : (flat (xs.take (k + 1))).length = (flat (xs.take k)).length + xs[k].size := by rw [flat_succ xs k hkn, List.length_append]; simp
      have hb1 := HLe.out (k + 1)
      generalize hA1 : (flat (xs.take (k + 1))).length = A1 at hstep hb1
      generalize (flat (xs.take k)).length = A0 at hstep
      generalize xs[k] = x at *
      have HA1 := Lib.hid hA1
      clear hA1
      go_wp2
      exact ⟨⟨k + 1, by omega, by go_num, by rw [HA1.out]; refine congrArg _ ?_; omega⟩, by simp [intOf]; omega⟩
    · have hke : k = xs.length := by omega
      subst hke
      have hT := HLe.out xs.length
      generalize (flat (xs.take xs.length)).length = T at hT
      go_wp2_with fail
      refine (Tryz.Builder_Grow_fresh w.heap.size w.heap.size T _ (Nat.le_refl _) (heap_alloc_new w _) (by simp) (by omega)).mono ?_
      rintro e w1 ⟨rfl, hg, hb1⟩
      have hb1 : Below w.heap.size w w1 := ((Below.refl w.heap.size w).alloc (Nat.le_refl _) _).trans hb1
      have HW : Hid (Bld w.heap.size w.heap.size (flat (xs.take 0)) w1) := Lib.hid (.inr hg)
      have HB := Lib.hid hb1
      have hz1 := hb1.size
      have h0 : 0 < xs.length := by omega
      have hc0 : w1.cell? ⟨b, o, none⟩ = some (.string xs[0]) := by
        rw [hb1.cell (p := ⟨b, o, none⟩) hb]
        exact HC.out 0 h0
      have hs0 : flat (xs.take 1) = flat (xs.take 0) ++ xs[0].data.toList := flat_succ xs 0 h0
      have hl1 := HLe.out 1
      have HS := Lib.hid hs0
      have hx0 : xs[0].size ≤ 1000000 := by rw [hs0, List.length_append] at hl1; simpa [flat_nil] using hl1
      clear hg hb1 hT hs0 hl1
      generalize xs[0] = x0 at *
      go_wp2_with fail
      refine (Sb.str_any w.heap.size w.heap.size (flat (xs.take 0)) x0 w1 HW.out (by show 0 + x0.size ≤ _; omega) hz1).mono ?_
      rintro e w2 ⟨rfl, hd, hb2, ho⟩
      rw [← HS.out] at hd
      have HD := Lib.hid hd
      have HB := Lib.hid (HB.out.trans hb2)
      clear hd hb2 ho HS HW hc0
      go_wp2_with fail
      go_loopw [65] (fun i wr => ∃ k : Nat, k + 1 ≤ xs.length ∧ i = .int .i64 k ∧ Hid (Bld w.heap.size w.heap.size (flat (xs.take (k + 1))) wr) ∧ Hid (Below w.heap.size w wr)) (fun i _ => xs.length - (intOf i).toNat)
      case atStart => exact ⟨0, h0, rfl, HD, HB⟩
      case round =>
        clear HD HB
        obtain ⟨k, hk', rfl, HD, HW⟩ := hrel
        by_cases hkr : k + 1 < xs.length
        · have hcy : wr.cell? ⟨b, o + 1 + k, none⟩ = some (.string xs[k + 1]) := by
            rw [HW.out.cell (p := ⟨b, o + 1 + k, none⟩) hb, show o + 1 + k = o + (k + 1) by omega]
            exact HC.out (k + 1) hkr
          have HS := Lib.hid (flat_succ xs (k + 1) hkr)
          have hl := HLe.out (k + 1 + 1)
          rw [HS.out, List.length_append] at hl
          have hBw : w.heap.size ≤ wr.heap.size := HW.out.size
          generalize xs[k + 1] = y at *
          generalize flat (xs.take (k + 1)) = bs at *
          have hl : bs.length + y.size ≤ 1000000 := by simpa using hl
          go_wp2_with fail
          refine (Sb.str_any w.heap.size w.heap.size bs ⟨#[]⟩ wr HD.out (by show bs.length + 0 ≤ _; omega) hBw).mono ?_
          rintro e w3 ⟨rfl, hd, hb3, ho⟩
          have hd : Bld w.heap.size w.heap.size bs w3 := by simpa using hd
          have HD := Lib.hid hd
          have HW := Lib.hid (HW.out.trans hb3)
          have hBw3 := HW.out.size
          clear hd hb3 ho
          go_wp2_with fail
          refine (Sb.str_any w.heap.size w.heap.size bs y w3 HD.out (by omega) hBw3).mono ?_
          rintro e w4 ⟨rfl, hd, hb4, ho⟩
          rw [← HS.out] at hd
          have HD := Lib.hid hd
          have HW := Lib.hid (HW.out.trans hb4)
          clear hd hb4 ho HS
          go_wp2
          exact ⟨⟨k + 1, by omega, by go_num, HD, HW⟩, by simp [intOf]; omega⟩
        · have hke : k + 1 = xs.length := by omega
          rw [hke, List.take_length] at HD
          have hBw : w.heap.size ≤ wr.heap.size := HW.out.size
          go_wp2_with fail
          refine (Sb.text_any w.heap.size w.heap.size _ wr HD.out hBw).mono ?_
          rintro e w5 ⟨rfl, hb5⟩
          have HB := Lib.hid (HW.out.trans hb5)
          clear hb5
          go_wp2
          go_ret
          exact ⟨rfl, HB.out⟩
/-- Of a list of a call's own. -/
theorem join_any {B : Nat} (a : Option Addr) (c : Nat) (xs : List ByteArray) (w : World) (h : Lst B w (.slice a xs.length c) xs) (hN : xs.length ≤ 1000) (hlen : (flat xs).length ≤ 1000000) :
    Calls Tryz.prog 15 #[.slice a xs.length c, .string ⟨#[]⟩] w fun e w' => e = .returned (.string (catJ xs)) ∧ Below w.heap.size w w' := by
  match xs, h, hN, hlen with
  | [], _, _, _ => exact (join_none a c w).mono fun e w' ⟨he, hw⟩ => ⟨he, hw ▸ Below.refl _ _⟩
  | x :: l, h, hN, hlen =>
    have hh := h
    rcases h.2 with ⟨_, h0⟩ | ⟨g, cap, cur, hv, hB, hg, hrest⟩
    · simp at h0
    · simp at hv
      obtain ⟨rfl, rfl⟩ := hv
      have hcs : ∀ j (hj : j < (x :: l).length), w.cell? ⟨g, 0 + j, none⟩ = some (.string (x :: l)[j]) := fun j hj => by
        have := World.ownsRow.cells hh (g := g) rfl j (.string (x :: l)[j]) (by
          show ((x :: l).map Value.string)[j]? = _
          rw [List.getElem?_map, List.getElem?_eq_getElem hj]; rfl)
        rw [add_at] at this
        exact this
      have hlt := (Array.getElem?_eq_some_iff.1 hg).1
      match l, hN, hlen, hcs, hh, hrest with
      | [], _, _, hcs, _, _ =>
        refine (join_one g 0 _ x w (hcs 0 (by simp))).mono fun e w' ⟨he, hw⟩ => ⟨?_, hw ▸ Below.refl _ _⟩
        rw [he]
        show Ending.returned (Value.string x) = Ending.returned (Value.string ⟨(flat [x]).toArray⟩)
        rw [flat_one]
      | y :: r, hN, hlen, hcs, hh, hrest =>
        exact join_many g 0 _ (x :: y :: r) w hcs hlt (by simp) hN hrest.1 hlen
end Go.Proofs.YtbfjebfodaoikaaGreatDoor.Js
namespace Go.Proofs.YtbfjebfodaoikaaGreatDoor.Cx
open Go.ChangeShapes Go.WideShapes Go.ChangeAt Go.RowKit
open Go.Proofs.YtbfjebfodaoikaaGreatDoor.Ms
open Go.Proofs.YtbfjebfodaoikaaGreatDoor.Box
open Go.Proofs.YtbfjebfodaoikaaGreatDoor.An
open Go.Proofs.YtbfjebfodaoikaaGreatDoor.K1
open Go.Proofs.YtbfjebfodaoikaaGreatDoor.Kb
open Go.Proofs.YtbfjebfodaoikaaGreatDoor.Bk (Bk alloc_size)
set_option linter.unusedVariables false
set_option maxRecDepth 100000
set_option maxRecDepth 100000
theorem infoX : (Tryz.prog.info? 25).map (·.size) = some 7 := by kernel_rfl
theorem pf_at {W : World} {b : Nat} {c : Kx} (h : Bk 25 W b c.cells) {k : Nat} (hk : k < 4) : W.cell? ⟨b, k, none⟩ = some (.string (c.pf k)) := by
  rcases (show k = 0 ∨ k = 1 ∨ k = 2 ∨ k = 3 by omega) with rfl | rfl | rfl | rfl
  · exact h.cell 0 _ rfl
  · exact h.cell 1 _ rfl
  · exact h.cell 2 _ rfl
  · exact h.cell 3 _ rfl
theorem nx_at {W : World} {b : Nat} {c : Kx} (h : Bk 25 W b c.cells) {k : Nat} (hk : k < 2) : W.cell? ⟨b, 4 + k, none⟩ = some (.string (c.nx k)) := by
  rcases (show k = 0 ∨ k = 1 by omega) with rfl | rfl
  · exact h.cell 4 _ rfl
  · exact h.cell 5 _ rfl
theorem setP_cs (c : Kx) (a : ByteArray) {k : Nat} (hk : k < 4) : c.cells.setIfInBounds k (.string a) = (c.setP k a).cells := by
  rcases (show k = 0 ∨ k = 1 ∨ k = 2 ∨ k = 3 by omega) with rfl | rfl | rfl | rfl <;> rfl
theorem setN_cs (c : Kx) (a : ByteArray) {k : Nat} (hk : k < 2) : c.cells.setIfInBounds (4 + k) (.string a) = (c.setN k a).cells := by
  rcases (show k = 0 ∨ k = 1 by omega) with rfl | rfl <;> rfl
theorem index4 (b k : Nat) (hk : k < 4) (W : World) : (Instr.indexAt 22 (.pointer (some ⟨b, 0, none⟩)) (.int .i64 (k : Int))).run Tryz.prog W = .ok (.pointer (some ⟨b, k, none⟩)) W := by
  rcases (show k = 0 ∨ k = 1 ∨ k = 2 ∨ k = 3 by omega) with rfl | rfl | rfl | rfl <;> kernel_rfl
theorem index2 (b k : Nat) (hk : k < 2) (W : World) : (Instr.indexAt 23 (.pointer (some ⟨b, 4, none⟩)) (.int .i64 (k : Int))).run Tryz.prog W = .ok (.pointer (some ⟨b, 4 + k, none⟩)) W := by
  rcases (show k = 0 ∨ k = 1 by omega) with rfl | rfl <;> kernel_rfl
theorem ex_index {P : Program} {o : Oper} {ρ : Operand → Value} {T : TypeId} {x y : Operand} {vx vy r : Value} {w : World} (ho : o.op = .indexAddr T x y) (hx : ρ x = vx) (hy : ρ y = vy) (h : (Instr.indexAt T vx vy).run P w = .ok r w) :
    (execOp ρ o).run P w = .ok (.value r) w := by
  unfold execOp
  simp only [ho, hx, hy, Sem.run_bind, h, Result.andThen_ok, Sem.run_pure]
theorem results_mid {P : Program} {fn : Func} {o p q : Nat} {ty : TypeId} (h : fn.results = #[.tmp o, .cell p ty, .tmp q]) (tmps : Array Value) (w : World) (g : Nat) (u : Value)
    (y : Value) (hy : tmps.getD o undef = y) (hp : tmps.getD p undef = .pointer (some ⟨g, 0, none⟩)) (hl : (loadVar ty ⟨g, 0, none⟩).run P w = .ok u w) (v : Value) (hv : tmps.getD q undef = v) :
    (results fn tmps).run P w = .ok (.tuple #[y, u, v]) w := by
  have hy' : tmps[o]?.getD undef = y := by simpa using hy
  have hp' : tmps[p]?.getD undef = .pointer (some ⟨g, 0, none⟩) := by simpa using hp
  have hv' : tmps[q]?.getD undef = v := by simpa using hv
  simp [results, h, hy', hp', hv', asAddr, hl]
theorem str_beq (a b : ByteArray) : (a.toList == b.toList) = decide (a = b) := by
  rw [Bool.eq_iff_iff, beq_iff_eq, decide_eq_true_eq, ByteArray.toList_eq, ByteArray.toList_eq]
  exact ⟨fun h => ByteArray.ext (Array.toList_inj.1 h), fun h => by rw [h]⟩
/-- What the boxes of what is known and of the message hold. -/
structure Us (w : World) (c : Kx) (m : M) (W : World) : Prop where
  s0 : Bk 25 W w.heap.size c.cells
  m0 : Bx W (w.heap.size + 1) m
  i0 : m.In w
  bel : Below w.heap.size w W
theorem Us.i {w W : World} {c : Kx} {m : M} (h : Us w c m W) : m.In W := h.i0.below h.bel
theorem Us.start (w : World) (c : Kx) (m : M) (hm : m.In w) : Us w c m ((w.alloc (.cells c.cells 25)).alloc (.cells m.cells 29)) := by
  refine ⟨(Bk.Bk.new 25 w c.cells).old _, ?_, hm, balloc (balloc (Below.refl _ w) _) _⟩
  have := Bx.new (w.alloc (.cells c.cells 25)) m
  rw [alloc_size] at this
  exact this
theorem Us.call {w V W : World} {c : Kx} {m : M} (h : Us w c m V) (hb : Below V.heap.size V W) : Us w c m W := ⟨h.s0.below hb, h.m0.below hb, h.i0, bcall h.bel hb⟩
theorem Us.drew {w V : World} {c : Kx} {m : M} (h : Us w c m V) : Us w c m V.drew := h.call (Below.refl _ V).drew
/-- One cell of what is known is set. -/
theorem Us.set {w V : World} {c c' : Kx} {m : M} {k : Nat} {v : Value} (h : Us w c m V) (hc : c.cells.setIfInBounds k v = c'.cells) : Us w c' m (V.setCell ⟨w.heap.size, k, none⟩ v) :=
  ⟨h.s0.set hc, h.m0.off (by show w.heap.size + 1 ≠ w.heap.size; omega) v, h.i0, h.bel.setCell (p := ⟨w.heap.size, k, none⟩) (Nat.le_refl _) v⟩
/-- A struct's box behind is stored into. -/
theorem Us.row {w V : World} {c : Kx} {m : M} {g : Nat} (h : Us w c m V) (hg : w.heap.size + 1 < g) (cs : Array Value) : Us w c m (V.setRow g cs) :=
  ⟨h.s0.row (by omega) cs, h.m0.row (by omega) cs, h.i0, Box.below_setRow h.bel (by omega) cs⟩
theorem Us.under {w V W : World} {c : Kx} {m : M} {B : Nat} (h : Us w c m V) (hb : Below B V W) (hB : w.heap.size + 1 < B) : Us w c m W :=
  ⟨h.s0.under hb (by omega), (hb.block _ hB).trans h.m0, h.i0, h.bel.trans (hb.mono (by omega))⟩
/-- The result's box. -/
theorem res_new (w : World) (c : Kx) (m : M) : Bk 25 (((w.alloc (.cells c.cells 25)).alloc (.cells m.cells 29)).alloc (.cells Kx.zero.cells 25)) (w.heap.size + 1 + 1) Kx.zero.cells := by
  have := Bk.Bk.new 25 ((w.alloc (.cells c.cells 25)).alloc (.cells m.cells 29)) Kx.zero.cells
  rw [alloc_size, alloc_size] at this
  exact this
/-- The texts of TLVs. -/
def elB (l : List F1.El) : List ByteArray := l.map fun x => ⟨(F1.enc1 x).toArray⟩
theorem elB_app (a b : List F1.El) : elB (a ++ b) = elB a ++ elB b := by simp [elB]
theorem elB_len (l : List F1.El) : (elB l).length = l.length := by simp [elB]
theorem elB_flat (l : List F1.El) : Js.flat (elB l) = F1.encT l := by
  unfold Js.flat elB F1.encT
  rw [List.flatMap_map]
/-- An answer of texts, what is known behind them, an error. -/
def AnsW (p : List ByteArray × Kx × Int) (w : World) (e : Ending) (w' : World) : Prop :=
  ∃ a k, e = .returned (.tuple #[.slice a p.1.length k, .agg p.2.1.cells, .int .i64 p.2.2]) ∧ Js.Lst w.heap.size w' (.slice a p.1.length k) p.1 ∧ Below w.heap.size w w'
theorem AnsW.no {c : Kx} {d : Int} {p : List ByteArray × Kx × Int} {w w' : World} (h : p = ([], c, d)) (hb : Below w.heap.size w w') : AnsW p w (.returned (.tuple #[.slice none 0 0, .agg c.cells, .int .i64 d])) w' := by
  subst h
  exact ⟨none, 0, rfl, Js.Lst.nil _ _, hb⟩
end Go.Proofs.YtbfjebfodaoikaaGreatDoor.Cx
namespace Go.Proofs.YtbfjebfodaoikaaGreatDoor.S2
open Go.ChangeShapes Go.WideShapes Go.ChangeAt Go.RowKit
open Go.Proofs.YtbfjebfodaoikaaGreatDoor.Ms
open Go.Proofs.YtbfjebfodaoikaaGreatDoor.Cnt
open Go.Proofs.YtbfjebfodaoikaaGreatDoor.S1
set_option linter.unusedVariables false
set_option maxRecDepth 100000
set_option maxRecDepth 100000

set_option maxHeartbeats 1600000 in
theorem right_any (a : Option Addr) (c : Nat) (l : List El) (w : World) (hl : SRow w a l) (ln : l.length ≤ 1048576) (lb : ∀ x ∈ l, x.1.size ≤ 1099511627776) :
    Calls Tryz.prog 45 #[.slice a l.length c] w fun e w' => e = .returned (.bool (okS l)) ∧ Below w.heap.size w w' := by
  have P := Lib.hid (may_any a c l 2 127 w hl ln lb)
  clear lb
  cases hm : mayB l 2 127
  · have HK : Hid (okS l = false) := Lib.hid (by unfold okS; rw [hm]; rfl)
    rw [hm] at P
    clear hm hl ln
    go_enter Tryz.func45, Tryz.ntmps45
    go_wp2_with fail
    refine P.out.mono ?_
    rintro e w1 ⟨rfl, hb⟩
    go_wp2
    go_ret
    exact ⟨bool_eq HK.out.symm, hb⟩
  · have HB := bytesN_most hm
    have PB := Lib.hid (fun W (hb : Below w.heap.size w W) => bytes_any a c l W (hl.below hb) ln (by omega))
    have hb1 : ((bytesN l : Nat) : Int) ≤ 269484032 := by omega
    have hb0 : 0 ≤ ((bytesN l : Nat) : Int) := Int.natCast_nonneg _
    have HK : Hid (okS l = decide (((bytesN l : Nat) : Int) ≤ 200)) := Lib.hid (by unfold okS; rw [hm, Bool.true_and]; simp; omega)
    rw [hm] at P
    clear hm hl ln HB
    generalize ((bytesN l : Nat) : Int) = n at *
    go_enter Tryz.func45, Tryz.ntmps45
    go_wp2_with fail
    refine P.out.mono ?_
    rintro e w1 ⟨rfl, hb⟩
    have HB := Lib.hid hb
    clear hb P
    go_wp2_with fail
    refine (PB.out _ HB.out).mono ?_
    rintro e w2 ⟨rfl, hb⟩
    have HB := Lib.hid (bcall HB.out hb)
    clear hb PB
    go_wp2
    go_ret
    exact ⟨bool_eq HK.out.symm, HB.out⟩
set_option maxHeartbeats 1600000 in
theorem rright_any (a : Option Addr) (c : Nat) (l : List El) (w : World) (hl : SRow w a l) (ln : l.length ≤ 1048576) (lb : ∀ x ∈ l, x.1.size ≤ 1099511627776) :
    Calls Tryz.prog 55 #[.slice a l.length c] w fun e w' => e = .returned (.bool (okS l)) ∧ Below w.heap.size w w' := by
  have P := Lib.hid (rmay_any a c l 2 127 w hl ln lb)
  clear lb
  cases hm : mayB l 2 127
  · have HK : Hid (okS l = false) := Lib.hid (by unfold okS; rw [hm]; rfl)
    rw [hm] at P
    clear hm hl ln
    go_enter Tryz.func55, Tryz.ntmps55
    go_wp2_with fail
    refine P.out.mono ?_
    rintro e w1 ⟨rfl, hb⟩
    go_wp2
    go_ret
    exact ⟨bool_eq HK.out.symm, hb⟩
  · have HB := bytesN_most hm
    have PB := Lib.hid (fun W (hb : Below w.heap.size w W) => rbytes_any a c l W (hl.below hb) ln (by omega))
    have hb1 : ((bytesN l : Nat) : Int) ≤ 269484032 := by omega
    have hb0 : 0 ≤ ((bytesN l : Nat) : Int) := Int.natCast_nonneg _
    have HK : Hid (okS l = decide (((bytesN l : Nat) : Int) ≤ 200)) := Lib.hid (by unfold okS; rw [hm, Bool.true_and]; simp; omega)
    rw [hm] at P
    clear hm hl ln HB
    generalize ((bytesN l : Nat) : Int) = n at *
    go_enter Tryz.func55, Tryz.ntmps55
    go_wp2_with fail
    refine P.out.mono ?_
    rintro e w1 ⟨rfl, hb⟩
    have HB := Lib.hid hb
    clear hb P
    go_wp2_with fail
    refine (PB.out _ HB.out).mono ?_
    rintro e w2 ⟨rfl, hb⟩
    have HB := Lib.hid (bcall HB.out hb)
    clear hb PB
    go_wp2
    go_ret
    exact ⟨bool_eq HK.out.symm, HB.out⟩
end Go.Proofs.YtbfjebfodaoikaaGreatDoor.S2
