/-
  The document's example; the cells of a list of one message. Condition: the variables have what they are laid with.
  The law's fixed example. Condition: the listed variables have what the program's text lays them with.
  Slices of slices: the first elements, the others, of TLVs and of messages; TLVs appended to a list of a call's own. No conditions.
  Bytes of a list that came in; five paddings; what a body holds that is padded. No conditions.
  The bytes of a TLV and of a datagram: Put and Wrap, the program's and the document's. Condition: at most 2^20 bytes.
-/
import Derived.Test.YtpkmpinbpfblfaaDoorQ02
import Derived.Test.YtpkmpinbpfblfaaDoorQ03
import Derived.Test.YtpkmpinbpfblfaaDoorQ04
import Derived.Test.YtpkmpinbpfblfaaDoorQ05
import Derived.Test.YtpkmpinbpfblfaaDoorQ06
import Derived.Test.YtpkmpinbpfblfaaDoorQ08
import Derived.Test.YtpkmpinbpfblfaaDoorQ09
import Derived.Test.YtpkmpinbpfblfaaDoorQ11
import Derived.ChangeSlices
namespace Go.Proofs.YtpkmpinbpfblfaaDoor.K9
open Go.ChangeShapes Go.WideShapes Go.ChangeAt Go.RowKit
open Go.Proofs.YtpkmpinbpfblfaaDoor.Ms
open Go.Proofs.YtpkmpinbpfblfaaDoor.Box
open Go.Proofs.YtpkmpinbpfblfaaDoor.S1
open Go.Proofs.YtpkmpinbpfblfaaDoor.J1
open Go.Proofs.YtpkmpinbpfblfaaDoor.An
open Go.Proofs.YtpkmpinbpfblfaaDoor.Tc
open Go.Proofs.YtpkmpinbpfblfaaDoor.All
open Go.Proofs.YtpkmpinbpfblfaaDoor.K1
open Go.Proofs.YtpkmpinbpfblfaaDoor.Kb
open Go.Proofs.YtpkmpinbpfblfaaDoor.K2
open Go.Proofs.YtpkmpinbpfblfaaDoor.F1 (bt)
open Go.Proofs.YtpkmpinbpfblfaaDoor.Tl (cellsT)
open Go.Proofs.YtpkmpinbpfblfaaDoor.Bk (Bk alloc_size wpList_builtK run_loadK)
open Go.Proofs.YtpkmpinbpfblfaaDoor.Hs
open Go.Proofs.YtpkmpinbpfblfaaDoor.Or (st_yes)
set_option linter.unusedVariables false
set_option maxRecDepth 100000
set_option maxRecDepth 100000
theorem int_same (a : Int) : (a == a) = true := by simp
theorem add_zero (q : Addr) : q.add 0 = q := by unfold Addr.add; simp
/-- The cells of a list of one message. -/
structure One (W : World) (q : Addr) (n : M) : Prop where
  lt : q.block < W.heap.size
  cs : ∀ j v, (n.cells.toList)[j]? = some v → W.cell? (q.add j) = some v
  d : DRow W n.la n.ll
  s : SRow W n.sa n.sl
theorem one_of {B : Nat} {W : World} {a : Option Addr} {n : M} (h : MOwn B W a [n]) : ∃ q : Addr, a = some q ∧ One W q n := by
  obtain ⟨p, h1, _, h3, h4, h5, h6⟩ := h 0 (by simp)
  refine ⟨p, h1, h3, fun j v hv => ?_, by rw [show n.ll = [] from h5]; exact DRow.nil _ _, h6.row⟩
  have := h4 j v hv
  rw [Nat.zero_mul, add_zero] at this
  exact this
theorem One.cell {W : World} {q : Addr} {n : M} (h : One W q n) (j : Nat) (v : Value) (hj : 0 < j) (hv : (n.cells.toList)[j]? = some v) : W.cell? ⟨q.block, q.off + j, none⟩ = some v := by
  have := h.cs j v hv
  unfold Addr.add at this
  rw [if_neg (by omega)] at this
  exact this
end Go.Proofs.YtpkmpinbpfblfaaDoor.K9
namespace Go.Proofs.YtpkmpinbpfblfaaDoor.I9
open Go.ChangeShapes Go.WideShapes Go.ChangeAt Go.RowKit
open Go.Proofs.YtpkmpinbpfblfaaDoor.Ms
open Go.Proofs.YtpkmpinbpfblfaaDoor.An
open Go.Proofs.YtpkmpinbpfblfaaDoor.K1
open Go.Proofs.YtpkmpinbpfblfaaDoor.Kb
open Go.Proofs.YtpkmpinbpfblfaaDoor.K9 (One one_of)
open Go.Proofs.YtpkmpinbpfblfaaDoor.I1
open Go.Proofs.YtpkmpinbpfblfaaDoor.Fq
open Go.Proofs.YtpkmpinbpfblfaaDoor.Tc
open Go.Proofs.YtpkmpinbpfblfaaDoor.F1 (okT okT_nil encT placed outT outB trail head head_yes bt)
open Go.Proofs.YtpkmpinbpfblfaaDoor.F2 (out_good)
set_option linter.unusedVariables false
set_option maxRecDepth 100000
def b0 : ByteArray := ⟨#[42, 2, 0, 0]⟩
def b1 : ByteArray := ⟨#[42, 2, 0, 5, 0, 3, 2, 0, 7, 1, 0]⟩
def l1 : List F1.El := [(⟨#[]⟩, 0), (⟨#[0, 7]⟩, 3)]
def a1 : M := { M.zero with kind := 8, nonce := 7 }
theorem ok_l1 : okT l1 := fun x hx => by
  rcases List.mem_cons.1 hx with rfl | hx
  · exact ⟨by decide, by decide, by decide, fun _ => rfl⟩
  rcases List.mem_cons.1 hx with rfl | hx
  · exact ⟨by decide, by decide, by decide, fun h => absurd h (by decide)⟩
  · cases hx
theorem ex_b0 : outB b0 = (⟨#[]⟩, 0, 0) := by rw [out_good (head_yes (by decide) (by decide) (by decide) (by decide) (by decide))]; rfl
theorem ex_b1 : outB b1 = (⟨#[0, 3, 2, 0, 7]⟩, 0, 0) := by rw [out_good (head_yes (by decide) (by decide) (by decide) (by decide) (by decide))]; rfl
theorem ex_0 : outP b0 = ([], 0, 0) := by
  have h2 : outT 4 ⟨#[]⟩ = (placed 4 [], 0, 0) := F1.out_yes okT_nil rfl
  have h3 : (outT (4 + ((⟨#[]⟩ : ByteArray).size : Int)) (trail b0)).2.2 = 0 := by rw [F1.out_yes (l := []) okT_nil (by decide)]
  rw [outP_4 ex_b0 (by rw [h2]) h3, h2]
  rfl
theorem ex_f : G1.outF 3 ⟨#[0, 7]⟩ = (a1, true, 0) := by
  rw [G1.out_yes (t := 3) (l := []) (by decide) (fun x => by have := x.1; omega) (S1.outS_yes (l := []) F1.okT_nil (by decide) (by decide))]
  rfl
theorem ex_i : outI (placed 4 l1) = ([a1], Kx.zero, 0, 0) := by
  have h1 : one Kx.zero 0 ⟨#[]⟩ = (Kx.zero, [], 0) := one_pad (.inl rfl) _ _
  have h2 : one Kx.zero 3 ⟨#[0, 7]⟩ = (Kx.zero, [a1], 0) := by
    rw [one_f (by decide) (by decide), ex_f]; rfl
  show foldI [(4, (⟨#[]⟩, 0)), (5, (⟨#[0, 7]⟩, 3))] Kx.zero [] = _
  rw [fold_ok (x := (4, (⟨#[]⟩, 0))) h1, fold_ok (x := (5, (⟨#[0, 7]⟩, 3))) h2]
  rfl
theorem ex_1 : outP b1 = ([a1], 0, 0) := by
  have h2 : outT 4 ⟨#[0, 3, 2, 0, 7]⟩ = (placed 4 l1, 0, 0) := F1.out_yes ok_l1 (by decide)
  have h3 : (outT (4 + ((⟨#[0, 3, 2, 0, 7]⟩ : ByteArray).size : Int)) (trail b1)).2.2 = 0 := by
    rw [F1.out_yes (l := [(⟨#[]⟩, 1)]) (fun x hx => by rw [List.mem_singleton] at hx; subst hx; exact ⟨by decide, by decide, by decide, fun _ => rfl⟩) (by decide)]
  rw [outP_4 ex_b1 (by rw [h2]) h3, h2, show (placed 4 l1, (0 : Int), (0 : Int)).1 = placed 4 l1 from rfl, ex_i]
set_option maxHeartbeats 6400000 in
theorem awake_any (w : World) (ht : Tab w) : Calls Tryd.prog 6 #[] w fun e w' => e = .returned (.bool true) ∧ Below w.heap.size w w' := by
  have P1 := Lib.hid (fun V (y : Tab V) => I8.parse_any b0 V (by decide) y)
  rw [ex_0] at P1
  have P2 := Lib.hid (fun V (y : Tab V) => I8.parse_any b1 V (by decide) y)
  rw [ex_1] at P2
  have HT := Lib.hid ht
  clear ht
  unfold b0 at P1
  unfold b1 at P2
  go_enter Tryd.func6, Tryd.ntmps6
  go_wp2_with fail
  refine (P1.out _ HT.out).mono ?_
  rintro e w1 ⟨qa, qk, l, rfl, hp, hm, hb⟩
  obtain rfl := hp.at_nil
  have HT := Lib.hid (HT.out.below hb)
  have HB := Lib.hid hb
  clear hb hp hm P1
  go_wp2_with fail
  refine (P2.out _ HT.out).mono ?_
  rintro e w2 ⟨qb, qj, l, rfl, hp, hm, hb⟩
  have HB := Lib.hid (bcall HB.out hb)
  obtain ⟨n, rfl, hn⟩ := hp.at_one
  obtain ⟨q, rfl, ho⟩ := one_of hm
  have k1 : n.kind = 8 := by rw [show n = _ from hn]; rfl
  have k2 : n.nonce = 7 := by rw [show n = _ from hn]; rfl
  have o0 := ho.cs 0 (.int .i64 n.kind) rfl
  rw [K9.add_zero] at o0
  have o17 := ho.cell 17 (.int .i64 n.nonce) (by decide) rfl
  rw [k1] at o0
  rw [k2] at o17
  clear hb hm hp hn k1 k2 ho P2 HT
  go_wp2
  go_ret
  exact ⟨rfl, HB.out⟩
end Go.Proofs.YtpkmpinbpfblfaaDoor.I9
namespace Go.Proofs.YtpkmpinbpfblfaaDoor.Su
open Go.ChangeShapes Go.WideShapes Go.ChangeAt Go.RowKit
open Go.Proofs.YtpkmpinbpfblfaaDoor.Ms
open Go.Proofs.YtpkmpinbpfblfaaDoor.All
open Go.Proofs.YtpkmpinbpfblfaaDoor.Kb
open Go.Proofs.YtpkmpinbpfblfaaDoor.Lm
open Go.Proofs.YtpkmpinbpfblfaaDoor.Tl (cellsT TRow rowT rowT_at rowT_snoc infoT oneT)
open Go.Proofs.YtpkmpinbpfblfaaDoor.F1 (T)
set_option linter.unusedVariables false
set_option maxRecDepth 100000
/-- Where the k-th of a slice's elements begins. -/
def subA (a : Option Addr) (c k s : Nat) : Option Addr := if c = k then a else a.map (·.add (k * s))
theorem sub_zero (a : Option Addr) (c s : Nat) : (if c = 0 then a else a.map (·.add (0 * s))) = a := by
  split
  · rfl
  · cases a with
    | none => rfl
    | some p => simp [Addr.add]
theorem slT_hi (a : Option Addr) (n c k : Nat) (h : k ≤ c) (W : World) : (Instr.slice 30 (.slice a n c) none (some (.int .i64 (k : Int))) none).run Tryd.prog W = .ok (.slice a k c) W := by
  refine (run_slice_h W 30 a n c (by kernel_rfl) .i64 (k : Int) (by omega) (by omega)).trans ?_
  rw [show (Go.sizeOf (Tryd.prog.elem 30)).run Tryd.prog W = .ok 3 W from by kernel_rfl]
  simp only [Result.andThen, sliced, Int.toNat_natCast, sub_zero, Nat.sub_zero]
theorem slT_lo (a : Option Addr) (n c k : Nat) (h : k ≤ n) (W : World) : (Instr.slice 30 (.slice a n c) (some (.int .i64 (k : Int))) none none).run Tryd.prog W = .ok (.slice (subA a c k 3) (n - k) (c - k)) W := by
  refine (run_slice_l W 30 a n c (by kernel_rfl) .i64 (k : Int) (by omega) (by omega)).trans ?_
  rw [show (Go.sizeOf (Tryd.prog.elem 30)).run Tryd.prog W = .ok 3 W from by kernel_rfl]
  simp only [Result.andThen, sliced, Int.toNat_natCast, subA]
theorem slM_hi (a : Option Addr) (n c k : Nat) (h : k ≤ c) (W : World) : (Instr.slice 24 (.slice a n c) none (some (.int .i64 (k : Int))) none).run Tryd.prog W = .ok (.slice a k c) W := by
  refine (run_slice_h W 24 a n c (by kernel_rfl) .i64 (k : Int) (by omega) (by omega)).trans ?_
  rw [show (Go.sizeOf (Tryd.prog.elem 24)).run Tryd.prog W = .ok 25 W from by kernel_rfl]
  simp only [Result.andThen, sliced, Int.toNat_natCast, sub_zero, Nat.sub_zero]
theorem slM_lo (a : Option Addr) (n c k : Nat) (h : k ≤ n) (W : World) : (Instr.slice 24 (.slice a n c) (some (.int .i64 (k : Int))) none none).run Tryd.prog W = .ok (.slice (subA a c k 25) (n - k) (c - k)) W := by
  refine (run_slice_l W 24 a n c (by kernel_rfl) .i64 (k : Int) (by omega) (by omega)).trans ?_
  rw [show (Go.sizeOf (Tryd.prog.elem 24)).run Tryd.prog W = .ok 25 W from by kernel_rfl]
  simp only [Result.andThen, sliced, Int.toNat_natCast, subA]
theorem tr_take {w : World} {a : Option Addr} {l : List T} (h : TRow w a l) (k : Nat) : TRow w a (l.take k) := by
  intro i hi
  have hil : i < l.length := by simp at hi; omega
  have := h i hil
  rw [List.getElem_take]
  exact this
theorem tr_drop {w : World} {a : Option Addr} {l : List T} {c : Nat} (h : TRow w a l) (hc : l.length ≤ c) (k : Nat) : TRow w (subA a c k 3) (l.drop k) := by
  intro i hi
  have hil : k + i < l.length := by simp at hi; omega
  obtain ⟨p, rfl, hb, h0, h1, h2⟩ := h (k + i) hil
  refine ⟨p.add (k * 3), by unfold subA; rw [if_neg (by omega)]; rfl, by rw [Tl.add_block]; exact hb, ?_⟩
  rw [List.getElem_drop, add_add, show k * 3 + i * 3 = (k + i) * 3 by omega]
  exact ⟨h0, h1, h2⟩
theorem mo_take {B : Nat} {w : World} {a : Option Addr} {l : List M} (h : MOwn B w a l) (k : Nat) : MOwn B w a (l.take k) := by
  intro i hi
  have hil : i < l.length := by simp at hi; omega
  have := h i hil
  rw [List.getElem_take]
  exact this
theorem mo_drop {B : Nat} {w : World} {a : Option Addr} {l : List M} {c : Nat} (h : MOwn B w a l) (hc : l.length ≤ c) (k : Nat) : MOwn B w (subA a c k 25) (l.drop k) := by
  intro i hi
  have hil : k + i < l.length := by simp at hi; omega
  obtain ⟨p, rfl, hB, hb, h0, h1, h2⟩ := h (k + i) hil
  refine ⟨p.add (k * 25), by unfold subA; rw [if_neg (by omega)]; rfl, by rw [Tl.add_block]; exact hB, by rw [Tl.add_block]; exact hb, ?_⟩
  rw [List.getElem_drop, add_add, show k * 25 + i * 25 = (k + i) * 25 by omega]
  exact ⟨h0, h1, h2⟩
theorem rowT_app (a b : List T) : rowT (a ++ b) = rowT a ++ rowT b := by simp [rowT]
theorem rowT_len (l : List T) : (rowT l).length = l.length * 3 := by
  induction l with
  | nil => rfl
  | cons x l ih => rw [show x :: l = [x] ++ l from rfl, rowT_app, List.length_append, ih, List.length_append]; simp [rowT, cellsT]; omega
theorem rowT_one {l : List T} : ∀ u ∈ rowT l, u.oneCell' = true := by
  intro u hu
  obtain ⟨m, _, h⟩ := List.mem_flatMap.1 hu
  have := oneT m
  rw [Array.all_eq_true_iff_forall_mem] at this
  exact this u (by simpa using h)
theorem tr_cells {w : World} {p : Addr} {r : List T} (h : TRow w (some p) r) : ∀ j u, (rowT r)[j]? = some u → w.cell? (p.add j) = some u := by
  intro j u hj
  have hlt : j < r.length * 3 := by rw [← rowT_len]; exact (List.getElem?_eq_some_iff.1 hj).1
  have hi : j / 3 < r.length := by omega
  obtain ⟨q, hq, _, h0, h1, h2⟩ := h (j / 3) hi
  obtain rfl : p = q := Option.some.inj hq
  have he : (rowT r)[j / 3 * 3 + j % 3]? = some u := by rw [show j / 3 * 3 + j % 3 = j by omega]; exact hj
  rw [rowT_at r _ _ hi (by omega)] at he
  have hm : j % 3 = 0 ∨ j % 3 = 1 ∨ j % 3 = 2 := by omega
  have hp : p.add j = (p.add (j / 3 * 3)).add (j % 3) := by rw [add_add, show j / 3 * 3 + j % 3 = j by omega]
  rw [hp]
  rcases hm with e | e | e <;> rw [e] at he ⊢
  · rw [Tl.add_none]; rw [h0]; exact he
  · rw [h1]; exact he
  · rw [h2]; exact he
/-- append(v, x...) of TLVs, x a list that stands. -/
theorem wp_tlvs {o : Oper} {A : Act} {w : World} {Q : Exit → Act → World → Prop} {K : Act → World → Prop} (s x : Operand)
    (ho : o.op = .call { callee := .builtin .append, args := #[s, x], argTypes := #[30, 30] }) (B : Nat) (v : Value) (l r : List T) (a : Option Addr) (c : Nat)
    (hs : A.eval s = v) (hown : Tl.Lst B w v l) (hx : A.eval x = .slice a r.length c) (hr : TRow w a r)
    (hl : l.length + r.length ≤ 100000) (hB : B ≤ w.heap.size)
    (h : ∀ v' w', Tl.Lst B w' v' (l ++ r) → Below B w w' → w.grownBy w' v.ownBlock → K (A.put o.dst v') w') : Oper.wp Tryd.prog o A w K Q := by
  obtain ⟨i0, hi, hz, hsz, hby⟩ := infoT
  cases a with
  | none =>
    have hr0 : r = [] := by
      cases r with
      | nil => rfl
      | cons m r =>
        obtain ⟨q, hq, _⟩ := hr 0 (by simp)
        cases hq
    subst hr0
    have hrun := run_none (P := Tryd.prog) (w := w) B 30 o.type 35 i0 3 c Tryd.underlying30 hi v l.length (rowT l) hown
    unfold Oper.wp
    simp [execOp, ho, resolve, invoke, builtin, hs, hx, hrun, Result.andThen]
    exact h v w (by rw [List.append_nil]; exact hown) (Below.refl B w) ⟨rfl, rfl, rfl, Nat.le_refl _, fun _ _ _ => rfl⟩
  | some p =>
    refine wp_append_own w s x 30 ho B 35 i0 (.agg #[.int .i64 0, .int .i64 0, .string ByteArray.empty]) 3 i0.bytes Tryd.underlying30 hi hz hsz rfl rfl (by decide) v l.length (rowT l) hs hown p r.length c (rowT r) hx (rowT_len r) (tr_cells hr) rowT_one (by unfold maxLen; omega) ?_ hB ?_
    · have : (l.length + r.length) * i0.bytes ≤ 100000 * 4096 := Nat.mul_le_mul (by omega) hby
      omega
    · intro v' w' h2 h3 _
      refine h v' w' ?_ ((Below.refl B w).grown h3 hB (fun k hk => (World.ownsRow.lt hown k hk).1)) h3
      unfold Tl.Lst
      rw [rowT_app, List.length_append]
      exact h2
/-- []api.Tlv{} -/
theorem tl_made {B : Nat} {w : World} (hB : B ≤ w.heap.size) (o : Obj) (ho : o = .cells #[] 35) : Tl.Lst B (w.alloc o) (.slice (some ⟨w.heap.size, 0, none⟩) 0 0) [] := by
  subst ho
  exact World.ownsRow_made w #[] 0 hB (Nat.zero_le _) rfl
theorem ex_bs0T {o : Oper} {ρ : Operand → Value} {w : World} (ho : o.op = .buildSlice 30 0 #[]) : (execOp ρ o).run Tryd.prog w = .ok (.value (.slice (some ⟨w.heap.size, 0, none⟩) 0 0)) (w.alloc (.cells #[] 35)) := by
  have h : (Instr.buildSlice 30 0 #[]).run Tryd.prog w = .ok (.slice (some ⟨w.heap.size, 0, none⟩) 0 0) (w.alloc (.cells #[] 35)) := by kernel_rfl
  unfold execOp
  simp only [ho]
  simp [h, Result.andThen]
theorem ex_bs0M {o : Oper} {ρ : Operand → Value} {w : World} (ho : o.op = .buildSlice 24 0 #[]) : (execOp ρ o).run Tryd.prog w = .ok (.value (.slice (some ⟨w.heap.size, 0, none⟩) 0 0)) (w.alloc (.cells #[] 53)) := by
  have h : (Instr.buildSlice 24 0 #[]).run Tryd.prog w = .ok (.slice (some ⟨w.heap.size, 0, none⟩) 0 0) (w.alloc (.cells #[] 53)) := by kernel_rfl
  unfold execOp
  simp only [ho]
  simp [h, Result.andThen]
theorem PlL.take {x y : List M} (h : PlL x y) (k : Nat) : PlL (x.take k) (y.take k) :=
  ⟨by rw [List.length_take, List.length_take, h.1], fun i hi hi' => by rw [List.getElem_take, List.getElem_take]; exact h.2 i (by simp at hi; omega) (by simp at hi'; omega)⟩
theorem tr_grown {w w' : World} {a : Option Addr} {l : List T} {row : Option Nat} (h : TRow w a l) (hg : w.grownBy w' row) (hne : ∀ p : Addr, a = some p → some p.block ≠ row) : TRow w' a l := by
  intro i hi
  obtain ⟨p, e, hb, h0, h1, h2⟩ := h i hi
  have hn := hne p e
  refine ⟨p, e, Nat.lt_of_lt_of_le hb hg.size, hg.cell h0 ?_, hg.cell h1 ?_, hg.cell h2 ?_⟩ <;> simpa only [Tl.add_block] using hn
theorem tr_new (x : T) (w : World) : TRow (w.alloc (.cells (cellsT x) 35)) (some ⟨w.heap.size, 0, none⟩) [x] := by
  intro i hi
  obtain rfl : i = 0 := by simpa using hi
  have hc := Tl.cells_new x w
  refine ⟨_, rfl, by rw [Bk.alloc_size]; exact Nat.lt_succ_self _, ?_, ?_, ?_⟩
  · have := hc 0 _ rfl; rwa [Nat.zero_mul, Tl.add_none]
  · have := hc 1 _ rfl; rwa [Nat.zero_mul, Tl.add_none]
  · have := hc 2 _ rfl; rwa [Nat.zero_mul, Tl.add_none]
theorem mo_grown {B B' S : Nat} {w w' : World} {v : Value} {a : Option Addr} {l l' : List M} (h : MOwn B w a l) (hv : LM B' S w v l') (hg : w.grownBy w' v.ownBlock) (hne : ∀ p : Addr, a = some p → some p.block ≠ v.ownBlock) : MOwn B w' a l := by
  intro i hi
  obtain ⟨p, e, hB, hb, hc, h5, h6⟩ := h i hi
  have hn := hne p e
  refine ⟨p, e, hB, Nat.lt_of_lt_of_le hb hg.size, fun j u hu => hg.cell (hc j u hu) (by simpa only [Tl.add_block] using hn), h5, World.ownsRow.kept h6 hg (own_ne h6 hv.1 (by decide))⟩
section
variable {H : Type} {enc : TypeId × Value → H} {W : World}
open Go.Proofs.YtpkmpinbpfblfaaDoor.Open Go.Deep
theorem by_tlvs2 {base : Nat} {v : Value} {d : DataW H} {p : List MemPlace} (hv : Value.okWide Tryd.prog W .any base 30 v) (h : DataW.Trod enc Tryd.prog W 0 (fun _ => true) true 30 v d p) :
    ∃ (a : Option Addr) (l : List T) (c : Nat), v = .slice a l.length c ∧ TRow W a l ∧ l.length ≤ 9223372036854775807 ∧ l.length ≤ c := by
  obtain ⟨fuel, hf⟩ := h
  have hvc := okWide_slice Tryd.underlying30 hv
  obtain ⟨va, vn, vc, rfl⟩ := hvc
  have hz : Tryd.prog.cellsOf 35 = 3 := Open.cellsTl
  rcases open_slice Tryd.underlying30 hf with h0 | ⟨a, len, cap, m, n, D, Pl, hcs, hb, hl, hm, hmm, hx, hi⟩
  · have e := h0.1
    simp [Value.cells] at e
    obtain ⟨rfl, rfl, rfl⟩ := e
    exact ⟨none, [], 0, rfl, Tl.TRow.nil _ _, by simp, Nat.le_refl _⟩
  · simp [Value.cells] at hcs
    obtain ⟨rfl, rfl, rfl⟩ := hcs
    obtain ⟨l, hll, hr⟩ := els (n := vn) (R := fun i (x : T) => W.cell? (a.add (i * 3)) = some (.int .i64 x.2.2) ∧ W.cell? ((a.add (i * 3)).add 1) = some (.int .i64 x.1) ∧ W.cell? ((a.add (i * 3)).add 2) = some (.string x.2.1) ∧ x.2.1.size ≤ maxLen) (fun i hin => by
      obtain ⟨ds, hc, ht⟩ := hi i (by rw [hmm]; split <;> omega)
      rw [hz] at hc
      obtain ⟨b, s, t, hd, hs⟩ := Open.open_tlv ht
      subst hd
      obtain ⟨_, _, hat⟩ := World.cells?_some hc
      exact ⟨(b, (s, t)), hat 0 (by decide), hat 1 (by decide), hat 2 (by decide), hs⟩)
    refine ⟨some a, l, vc, by rw [hll], fun i hin => ⟨a, rfl, ?_, (hr i hin).1, (hr i hin).2.1, (hr i hin).2.2.1⟩, by unfold maxLen at hm; omega, by omega⟩
    have := block_lt_of_cell (hr i hin).1
    rwa [Tl.add_block] at this
theorem open_tlvs {fuel : Nat} {cs : List Value} {x : DataW H × List MemPlace} (hf : DataW.trod enc Tryd.prog W 0 (fun _ => true) true fuel 30 cs = some x) :
    ∃ (a : Option Addr) (l : List T) (c : Nat), cs = [.slice a l.length c] ∧ TRow W a l ∧ l.length ≤ 9223372036854775807 ∧ l.length ≤ c := by
  have hz : Tryd.prog.cellsOf 35 = 3 := Open.cellsTl
  rcases open_slice Tryd.underlying30 hf with h0 | ⟨a, len, cap, m, n, D, Pl, hcs, hb, hl, hm, hmm, hx, hi⟩
  · exact ⟨none, [], 0, h0.1, Tl.TRow.nil _ _, by simp, Nat.le_refl _⟩
  · subst hcs
    obtain ⟨l, hll, hr⟩ := els (n := len) (R := fun i (x : T) => W.cell? (a.add (i * 3)) = some (.int .i64 x.2.2) ∧ W.cell? ((a.add (i * 3)).add 1) = some (.int .i64 x.1) ∧ W.cell? ((a.add (i * 3)).add 2) = some (.string x.2.1) ∧ x.2.1.size ≤ maxLen) (fun i hin => by
      obtain ⟨ds, hc, ht⟩ := hi i (by rw [hmm]; split <;> omega)
      rw [hz] at hc
      obtain ⟨b, s, t, hd, hs⟩ := Open.open_tlv ht
      subst hd
      obtain ⟨_, _, hat⟩ := World.cells?_some hc
      exact ⟨(b, (s, t)), hat 0 (by decide), hat 1 (by decide), hat 2 (by decide), hs⟩)
    refine ⟨some a, l, cap, by rw [hll], fun i hin => ⟨a, rfl, ?_, (hr i hin).1, (hr i hin).2.1, (hr i hin).2.2.1⟩, by unfold maxLen at hm; omega, by omega⟩
    have := block_lt_of_cell (hr i hin).1
    rwa [Tl.add_block] at this
end
end Go.Proofs.YtpkmpinbpfblfaaDoor.Su
namespace Go.Proofs.YtpkmpinbpfblfaaDoor.Pd
open Go.ChangeShapes Go.WideShapes Go.ChangeAt Go.RowKit Go.Deep
open Go.Proofs.YtpkmpinbpfblfaaDoor.Ms
open Go.Proofs.YtpkmpinbpfblfaaDoor.S1 (padB padE pad_facts pad_cases)
open Go.Proofs.YtpkmpinbpfblfaaDoor.I2 (coreE coreE_app coreE_pad)
open Go.Proofs.YtpkmpinbpfblfaaDoor.F1 (enc1 encT okT encT_nil encT_append okT_nil okT_append okT_snoc encT_snoc putO put_ok ok1)
open Go.Proofs.YtpkmpinbpfblfaaDoor.Open
set_option linter.unusedVariables false
set_option maxRecDepth 100000
section
variable {H : Type} {enc : TypeId × Value → H} {W : World}
/-- Bytes of a list stand in w. -/
def BRow (w : World) (a : Option Addr) (l : List Int) : Prop :=
  ∀ i (h : i < l.length), ∃ p, a = some p ∧ p.block < w.heap.size ∧ w.cell? (p.add i) = some (.int .u8 l[i]) ∧ 0 ≤ l[i] ∧ l[i] ≤ 255
theorem BRow.below {w w' : World} {a : Option Addr} {l : List Int} (h : BRow w a l) (hb : Below w.heap.size w w') : BRow w' a l := by
  intro i hi
  obtain ⟨p, h1, h2, h3, h4⟩ := h i hi
  exact ⟨p, h1, Nat.lt_of_lt_of_le h2 hb.size, by rw [hb.cell (by rw [add_block]; exact h2)]; exact h3, h4⟩
theorem by_bytes {base : Nat} {v : Value} {d : DataW H} {p : List MemPlace} (hv : Value.okWide Tryd.prog W .any base 22 v) (h : DataW.Trod enc Tryd.prog W 0 (fun _ => true) true 22 v d p) :
    ∃ (a : Option Addr) (l : List Int) (c : Nat), v = .slice a l.length c ∧ BRow W a l := by
  obtain ⟨fuel, hf⟩ := h
  have hvc := okWide_slice Tryd.underlying22 hv
  obtain ⟨va, vn, vc, rfl⟩ := hvc
  rcases open_ints Tryd.underlying22 Tryd.underlying5 (by kernel_rfl) hf with ⟨hcs, _⟩ | ⟨x, n, c, zs, hcs, _, hl, hm, hz, _, hcell, hwz⟩
  · simp [Value.cells] at hcs
    obtain ⟨rfl, rfl, rfl⟩ := hcs
    exact ⟨none, [], 0, rfl, fun i hi => absurd hi (by simp)⟩
  · simp [Value.cells] at hcs
    obtain ⟨rfl, rfl, rfl⟩ := hcs
    have hz2 : vn ≤ zs.length := by rw [hz]; split <;> omega
    refine ⟨some x, zs.take vn, vc, by rw [List.length_take, Nat.min_eq_left hz2], fun i hi => ?_⟩
    have hi2 : i < zs.length := by rw [List.length_take] at hi; omega
    have hc := hcell i hi2
    have e : zs.getD i 0 = (zs.take vn)[i] := by rw [List.getElem_take, List.getD_eq_getElem?_getD, List.getElem?_eq_getElem hi2]; rfl
    rw [e] at hc
    have hw := hwz _ (List.mem_of_mem_take (List.getElem_mem hi))
    have hw2 : IntKind.u8.min ≤ (zs.take vn)[i] ∧ (zs.take vn)[i] ≤ IntKind.u8.max := by simpa [Lit.wf] using hw
    rw [show IntKind.u8.min = 0 by decide, show IntKind.u8.max = 255 by decide] at hw2
    have hb := block_lt_of_cell hc
    rw [add_block] at hb
    exact ⟨x, rfl, hb, hc, hw2.1, hw2.2⟩
end

/-- A body of the first k TLVs, padded. -/
def Qd (l : List F1.El) (k : Nat) (u : ByteArray) : Prop := ∃ q, okT q ∧ u.data.toList = encT q ∧ coreE q = coreE (l.take k)
theorem Qd.zero (l : List F1.El) : Qd l 0 ⟨#[]⟩ := ⟨[], okT_nil, rfl, rfl⟩
theorem core_pads {n : Nat} (h : n < 5) : coreE (padE n) = [] := by
  rcases pad_cases h with rfl | rfl | rfl | rfl | rfl <;> rfl
theorem Qd.pad {l : List F1.El} {k n : Nat} {u : ByteArray} (h : Qd l k u) (hn : n < 5) : Qd l k (u ++ padB n) := by
  obtain ⟨q, h1, h2, h3⟩ := h
  obtain ⟨p1, p2, _⟩ := pad_facts hn
  refine ⟨q ++ padE n, okT_append h1 p1, ?_, by rw [coreE_app, core_pads hn, List.append_nil, h3]⟩
  rw [encT_append, ← h2, ← p2]; simp
theorem Qd.one {l : List F1.El} {k : Nat} {u : ByteArray} (h : Qd l k u) (hk : k < l.length) (ho : okT l) (ht : 0 < l[k].2) : Qd l (k + 1) (u ++ putO l[k].2 l[k].1) ∧ (putO l[k].2 l[k].1).size = (enc1 l[k]).length := by
  obtain ⟨q, h1, h2, h3⟩ := h
  have hx := ho _ (List.getElem_mem hk)
  obtain ⟨_, hp⟩ := put_ok hx (by omega)
  have hs : (putO l[k].2 l[k].1).data.toList = enc1 l[k] := by rw [hp]
  refine ⟨⟨q ++ [l[k]], okT_snoc h1 hx, ?_, ?_⟩, ?_⟩
  · rw [encT_snoc, ← h2, ← hs]; simp
  · rw [List.take_succ_eq_append_getElem hk, coreE_app, coreE_app, h3]
  · rw [← hs]; simp
theorem Qd.skip {l : List F1.El} {k : Nat} {u : ByteArray} (h : Qd l k u) (hk : k < l.length) (ht : l[k].2 = 0) : Qd l (k + 1) u := by
  obtain ⟨q, h1, h2, h3⟩ := h
  exact ⟨q, h1, h2, by rw [List.take_succ_eq_append_getElem hk, coreE_app, coreE_pad (.inl ht), List.append_nil, h3]⟩
theorem Qd.fin {l : List F1.El} {k : Nat} {u : ByteArray} (h : Qd l k u) (hk : l.length ≤ k) : Qd l (k + 1) u := by
  obtain ⟨q, h1, h2, h3⟩ := h
  exact ⟨q, h1, h2, by rw [h3, List.take_of_length_le hk, List.take_of_length_le (by omega)]⟩
theorem enc_take {l : List F1.El} {k : Nat} (hk : k < l.length) : (encT (l.take (k + 1))).length = (encT (l.take k)).length + (enc1 l[k]).length := by
  rw [List.take_succ_eq_append_getElem hk, encT_snoc, List.length_append]
theorem enc_le (l : List F1.El) (k : Nat) : (encT (l.take k)).length ≤ (encT l).length := by
  have := congrArg List.length (encT_append (l.take k) (l.drop k))
  rw [List.take_append_drop, List.length_append] at this
  omega
def padC : Array Value := #[.string ⟨#[]⟩, .string ⟨#[0]⟩, .string ⟨#[1, 0]⟩, .string ⟨#[1, 2, 0, 0]⟩, .string ⟨#[0, 0]⟩]
theorem build_five (w : World) : (Instr.buildSlice 33 5 #[(0, .string ⟨#[]⟩), (1, .string ⟨#[0]⟩), (2, .string ⟨#[1, 0]⟩), (3, .string ⟨#[1, 2, 0, 0]⟩), (4, .string ⟨#[0, 0]⟩)]).run Tryd.prog w = .ok (.slice (some ⟨w.heap.size, 0, none⟩) 5 5) (w.alloc (.cells padC 9)) := by
  kernel_rfl
theorem bs_five {ops : Array Oper} {rest : List Oper} {o : Oper} {a : Act} {w : World} {Q : Exit → Act → World → Prop} (hgd : o.guard = none)
    (ho : o.op = .buildSlice 33 5 #[(0, .const (.string ⟨#[]⟩)), (1, .const (.string ⟨#[0]⟩)), (2, .const (.string ⟨#[1, 0]⟩)), (3, .const (.string ⟨#[1, 2, 0, 0]⟩)), (4, .const (.string ⟨#[0, 0]⟩))])
    (h : wpList Tryd.prog ops Q rest (a.put o.dst (.slice (some ⟨w.heap.size, 0, none⟩) 5 5)) (w.alloc (.cells padC 9))) : wpList Tryd.prog ops Q (o :: rest) a w :=
  wpList_plain hgd fun K hK => by
    have e : (execOp a.eval o).run Tryd.prog w = .ok (.value (.slice (some ⟨w.heap.size, 0, none⟩) 5 5)) (w.alloc (.cells padC 9)) := by
      have e0 : ((#[(0, .const (.string ⟨#[]⟩)), (1, .const (.string ⟨#[0]⟩)), (2, .const (.string ⟨#[1, 0]⟩)), (3, .const (.string ⟨#[1, 2, 0, 0]⟩)), (4, .const (.string ⟨#[0, 0]⟩))] : Array (Nat × Operand)).map fun (i, x) => (i, a.eval x)) = #[(0, .string ⟨#[]⟩), (1, .string ⟨#[0]⟩), (2, .string ⟨#[1, 0]⟩), (3, .string ⟨#[1, 2, 0, 0]⟩), (4, .string ⟨#[0, 0]⟩)] := by
        simp only [List.map_toArray, List.map_cons, List.map_nil]
        rfl
      unfold execOp
      simp only [ho, Sem.run_bind, e0, build_five, Result.andThen_ok, Sem.run_pure]
    unfold Oper.wp
    rw [e]
    exact hK _ _ h
theorem index_five (g n : Nat) (h : n < 5) (W : World) : (Instr.indexAt 33 (.slice (some ⟨g, 0, none⟩) 5 5) (.int .u8 (n : Int))).run Tryd.prog W = .ok (.pointer (some ⟨g, n, none⟩)) W := by
  have he : Tryd.prog.elem 33 = 9 := by simp [Program.elem, Tryd.underlying33]
  have hz : (sizeOf 9).run Tryd.prog W = .ok 1 W := by go_simp
  rw [run_indexAt_slice W 33 ⟨g, 0, none⟩ 5 5 .u8 (n : Int) (by rw [he]; exact Tryd.underlying33), if_pos (by omega), he, hz]
  have : (⟨g, 0, none⟩ : Addr).add n = ⟨g, n, none⟩ := by rw [Sx.add_at, Nat.zero_add]
  simp [Result.andThen, this]
theorem cell_five (w : World) (n : Nat) (h : n < 5) : (w.alloc (.cells padC 9)).cell? ⟨w.heap.size, n, none⟩ = some (.string (padB n)) := by
  have hb := Bk.Bk.new 9 w padC
  rcases pad_cases h with rfl | rfl | rfl | rfl | rfl
  · exact hb.cell 0 _ rfl
  · exact hb.cell 1 _ rfl
  · exact hb.cell 2 _ rfl
  · exact hb.cell 3 _ rfl
  · exact hb.cell 4 _ rfl
end Go.Proofs.YtpkmpinbpfblfaaDoor.Pd
namespace Go.Proofs.YtpkmpinbpfblfaaDoor.F6
open Go.ChangeShapes Go.WideShapes Go.ChangeAt Go.RowKit
open Go.Proofs.YtpkmpinbpfblfaaDoor.F1
open Go.Proofs.YtpkmpinbpfblfaaDoor.F2
open Go.Proofs.YtpkmpinbpfblfaaDoor.Nu
open Go.Proofs.YtpkmpinbpfblfaaDoor.Oct (fitsB fitsB_iff pw be conv_row)
open Go.Proofs.YtpkmpinbpfblfaaDoor.Bk (Bk)
set_option linter.unusedVariables false
set_option maxRecDepth 100000
set_option maxRecDepth 100000

theorem to8 (n : Int) (h0 : 0 ≤ n) (h1 : n ≤ 255) (W : World) : (convert 3 5 (.int .i64 n)).run Tryd.prog W = .ok (.int .u8 ((UInt8.ofNat n.toNat).toNat : Int)) W := by
  rw [run_convert_int W 3 5 .i64 n (by rw [Tryd.underlying3]; rfl) Tryd.underlying5]
  have hk : Tryd.prog.intKind 5 = .u8 := by kernel_rfl
  have e : ((UInt8.ofNat n.toNat).toNat : Int) = n := by rw [UInt8.toNat_ofNat']; omega
  have : (Tryd.prog.intKind 5).wrap n = n := by
    rw [hk]
    show n % 256 = n
    omega
  rw [this, hk, e]
theorem conv_two (c d : UInt8) (w : World) : (convert 22 9 (.slice (some ⟨w.heap.size, 0, none⟩) 2 2)).run Tryd.prog (w.alloc (.cells #[.int .u8 (c.toNat : Int), .int .u8 (d.toNat : Int)] 5)) = .ok (.string ⟨#[c, d]⟩) (w.alloc (.cells #[.int .u8 (c.toNat : Int), .int .u8 (d.toNat : Int)] 5)) := by
  have h := World.ownsRow_lit (base := w.heap.size) (e := 5) (size := 1) w #[.int .u8 (c.toNat : Int), .int .u8 (d.toNat : Int)] 2 (Nat.le_refl _) (by unfold maxLen; omega) rfl
  exact conv_row _ _ 2 _ [c, d] 2 rfl h
theorem cat_is (a b c : ByteArray) (ha : a.size ≤ 2000000) (hb : b.size ≤ 2000000) (e : a ++ b = c) (W : World) : (Op.stringOp .add a b).run Tryd.prog W = .ok (.string c) W := by
  subst e
  rw [run_string_add_sum W _ _ (by show a.size + b.size ≤ _; omega)]
/-- The answer of Put. -/
def PutIs (t : Int) (d : ByteArray) (w : World) (e : Ending) (w' : World) : Prop := e = .returned (.tuple #[.string (putO t d), .bool (putB t d)]) ∧ Below w.heap.size w w'
theorem PutIs.no {t : Int} {d : ByteArray} {w w' : World} (h : putB t d = false) (hb : Below w.heap.size w w') : PutIs t d w (.returned (.tuple #[.string ⟨#[]⟩, .bool false])) w' := by
  have : putO t d = ⟨#[]⟩ := by unfold putO; rw [h]; rfl
  exact ⟨by rw [this, h], hb⟩
theorem PutIs.yes {t : Int} {d z : ByteArray} {w w' : World} (h : putB t d = true) (hz : z = putO t d) (hb : Below w.heap.size w w') : PutIs t d w (.returned (.tuple #[.string z, .bool true])) w' := ⟨by rw [hz, h], hb⟩
theorem put_cat2 {t : Int} {d : ByteArray} (h : putB t d = true) : (⟨#[UInt8.ofNat t.toNat, UInt8.ofNat d.size]⟩ : ByteArray) ++ d = putO t d := by
  unfold putO
  rw [if_pos h]
  exact ByteArray.ext (by simp [ByteArray.data_append])
set_option maxHeartbeats 1600000 in
/-- The document's Put. -/
theorem rput_any (t : Int) (d : ByteArray) (w : World) (hs : d.size ≤ 1048576) : Calls Tryd.prog 10 #[.int .i64 t, .string d] w (PutIs t d w) := by
  have hds : (d.size : Int) ≤ 1048576 := by omega
  by_cases h1 : 1 ≤ t
  rotate_left
  · have HF : Hid (putB t d = false) := Lib.hid (by unfold putB; simp; omega)
    clear hs
    go_enter Tryd.func10, Tryd.ntmps10
    go_wp2
    go_ret2
    exact PutIs.no HF.out (Below.refl _ _)
  by_cases h2 : t ≤ 255
  rotate_left
  · have HF : Hid (putB t d = false) := Lib.hid (by unfold putB; simp; omega)
    clear hs
    go_enter Tryd.func10, Tryd.ntmps10
    go_wp2
    go_ret2
    exact PutIs.no HF.out (Below.refl _ _)
  by_cases h3 : d.size ≤ 255
  rotate_left
  · have HF : Hid (putB t d = false) := Lib.hid (by unfold putB; simp; omega)
    have h3 : (255 : Int) < d.size := by omega
    clear hs
    go_enter Tryd.func10, Tryd.ntmps10
    go_wp2
    go_ret2
    exact PutIs.no HF.out (Below.refl _ _)
  have HF : Hid (putB t d = true) := Lib.hid (by unfold putB; simp; omega)
  have h3 : (d.size : Int) ≤ 255 := by omega
  have v0 := to8 t (by omega) h2
  have v1 := to8 (d.size : Int) (by omega) (by omega)
  have c2 := cat_is _ d _ (by show 2 ≤ 2000000; omega) (by omega) (put_cat2 HF.out)
  rw [Int.toNat_natCast] at v1
  clear hs
  generalize UInt8.ofNat t.toNat = ca at *
  generalize UInt8.ofNat d.size = cd at *
  have cv := conv_two ca cd
  have ha : (⟨#[ca, cd]⟩ : ByteArray).size = 2 := rfl
  generalize (⟨#[ca, cd]⟩ : ByteArray) = ab at *
  generalize hz : putO t d = z at *
  have HZ := Lib.hid hz.symm
  clear hz
  go_enter Tryd.func10, Tryd.ntmps10
  go_wp2
  go_ret2
  exact PutIs.yes HF.out HZ.out (balloc (Below.refl _ w) _)
/-- The answer of Wrap. -/
def WrapIs (s : ByteArray) (w : World) (e : Ending) (w' : World) : Prop := e = .returned (.tuple #[.string (wrap s), .bool (decide (s.size ≤ 65531))]) ∧ Below w.heap.size w w'
theorem WrapIs.no {s : ByteArray} {w w' : World} (h : ¬ s.size ≤ 65531) (hb : Below w.heap.size w w') : WrapIs s w (.returned (.tuple #[.string ⟨#[]⟩, .bool false])) w' := by
  have : wrap s = ⟨#[]⟩ := by unfold wrap; rw [if_neg h]
  exact ⟨by rw [this, decide_eq_false h], hb⟩
theorem WrapIs.yes {s z : ByteArray} {w w' : World} (h : s.size ≤ 65531) (hz : z = wrap s) (hb : Below w.heap.size w w') : WrapIs s w (.returned (.tuple #[.string z, .bool true])) w' := ⟨by rw [hz, decide_eq_true h], hb⟩
theorem wrap_cat {s : ByteArray} (h : s.size ≤ 65531) : ((⟨#[42, 2]⟩ : ByteArray) ++ ⟨(layN (s.size : Int) 2).toArray⟩) ++ s = wrap s := by
  unfold wrap wrapL
  rw [if_pos h]
  exact ByteArray.ext (by simp [ByteArray.data_append])
set_option maxHeartbeats 1600000 in
/-- The document's Wrap. -/
theorem rwrap_any (s : ByteArray) (w : World) (hs : s.size ≤ 1048576) : Calls Tryd.prog 11 #[.string s] w (WrapIs s w) := by
  by_cases h : s.size ≤ 65531
  rotate_left
  · have hb : (65531 : Int) < s.size := by omega
    have hb2 : (s.size : Int) ≤ 1048576 := by omega
    have HF := Lib.hid h
    clear h hs
    go_enter Tryd.func11, Tryd.ntmps11
    go_wp2
    go_ret2
    exact WrapIs.no HF.out (Below.refl _ _)
  have HF := Lib.hid h
  have P2 := Lib.hid (fun V => of_any (s.size : Int) 2 2 rfl (by omega) (by omega) V)
  have hb : (s.size : Int) ≤ 65531 := by omega
  have hz2 : (⟨(layN (s.size : Int) 2).toArray⟩ : ByteArray).size ≤ 2 := by
    show (layN (s.size : Int) 2).toArray.size ≤ 2
    rw [List.size_toArray]
    exact layN_len _ _
  have c2 := cat_is _ s _ (by rw [ByteArray.size_append]; show 2 + _ ≤ 2000000; omega) (by omega) (wrap_cat h)
  have c1 := cat_is (⟨#[42, 2]⟩ : ByteArray) ⟨(layN (s.size : Int) 2).toArray⟩ _ (by show 2 ≤ 2000000; omega) (by omega) rfl
  clear h hs
  generalize ((⟨#[42, 2]⟩ : ByteArray) ++ ⟨(layN (s.size : Int) 2).toArray⟩) = ab at *
  generalize (⟨(layN (s.size : Int) 2).toArray⟩ : ByteArray) = b at *
  generalize hz : wrap s = z at *
  have HZ := Lib.hid hz.symm
  clear hz
  go_enter Tryd.func11, Tryd.ntmps11
  go_wp2_with fail
  refine (P2.out _).mono ?_
  rintro e w2 ⟨rfl, hb⟩
  have HB := Lib.hid hb
  clear hb P2
  go_wp2
  go_ret2
  exact WrapIs.yes HF.out HZ.out HB.out
end Go.Proofs.YtpkmpinbpfblfaaDoor.F6
