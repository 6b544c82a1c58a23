/-
  What came in, opened: a message with its prefix's size, the law's Ask; whether two Updates are the same; the document's example. Condition: the variable has what it is laid with.
-/
import Derived.Test.YtkhdllhlhpkekaaDoorJ3
import Derived.Test.YtkhdllhlhpkekaaDoorJ7
import Derived.Test.YtkhdllhlhpkekaaDoorJ8
import Derived.Test.YtkhdllhlhpkekaaDoorJt
import Derived.Test.YtkhdllhlhpkekaaDoorTo
import Derived.Test.YtkhdllhlhpkekaaDoorSm
import Derived.Lib.SmallJoins
namespace Go.Proofs.YtkhdllhlhpkekaaDoor.J9
open Go.ChangeShapes Go.WideShapes Go.ChangeAt Go.RowKit Go.Joins
open Go.Proofs.YtkhdllhlhpkekaaDoor.Ms
open Go.Proofs.YtkhdllhlhpkekaaDoor.Box
open Go.Proofs.YtkhdllhlhpkekaaDoor.S1
open Go.Proofs.YtkhdllhlhpkekaaDoor.J1
open Go.Proofs.YtkhdllhlhpkekaaDoor.J2
open Go.Proofs.YtkhdllhlhpkekaaDoor.J6 (AnsU)
open Go.Proofs.YtkhdllhlhpkekaaDoor.An
open Go.Proofs.YtkhdllhlhpkekaaDoor.Tc
open Go.Proofs.YtkhdllhlhpkekaaDoor.Sm
open Go.Proofs.YtkhdllhlhpkekaaDoor.Open
open Go.Proofs.YtkhdllhlhpkekaaDoor.Own (k12 k13)
open Go.Proofs.YtkhdllhlhpkekaaDoor.F1 (bt)
open Go.Proofs.YtkhdllhlhpkekaaDoor.Tl (cellsT)
open Go.Proofs.YtkhdllhlhpkekaaDoor.Bk (Bk)
open Go.Proofs.YtkhdllhlhpkekaaDoor.Hs
open Go.Proofs.YtkhdllhlhpkekaaDoor.Or (st_yes)
open Go.Proofs.YtkhdllhlhpkekaaDoor.Hx (ex_built)
set_option linter.unusedVariables false
set_option maxRecDepth 100000
section
variable {H : Type} {enc : TypeId × Value → H} {W : World}
theorem open_msgP {fuel : Nat} {cs : List Value} {x : DataW H × List MemPlace} (h : DataW.trod enc Tryd.prog W 0 (fun _ => true) true fuel 25 cs = some x) :
    ∃ m : M, cs = m.cells.toList ∧ DRow W m.la m.ll ∧ SRow W m.sa m.sl ∧ m.pfx.size ≤ maxLen := by
  obtain ⟨m, rfl, hd, hs⟩ := open_msg h
  refine ⟨m, rfl, hd, hs, ?_⟩
  obtain ⟨_, n, go⟩ := each_field Tryd.underlying25 (by kernel_rfl) h
  obtain ⟨y6, h6⟩ := go 6 _ rfl
  obtain ⟨k6, e6, _, z6⟩ := DataW.trod_string Tryd.underlying9 (show DataW.trod enc Tryd.prog W 0 (fun _ => true) true n 9 [.string m.pfx] = some y6 from h6)
  have e : m.pfx = k6 := by
    have := (List.cons.inj e6).1
    injection this
  rw [e]
  exact z6
theorem by_valueP {base : Nat} {v : Value} {d : DataW H} {p : List MemPlace} (hv : Value.okWide Tryd.prog W .any base 25 v) (h : DataW.Trod enc Tryd.prog W 0 (fun _ => true) true 25 v d p) :
    ∃ m : M, v = .agg m.cells ∧ DRow W m.la m.ll ∧ SRow W m.sa m.sl ∧ m.pfx.size ≤ maxLen := by
  obtain ⟨cs, rfl, hsz⟩ := okWide_struct Tryd.underlying25 hv
  obtain ⟨fuel, hf⟩ := h
  obtain ⟨m, hm, hd, hs, hp⟩ := open_msgP hf
  have : cs = m.cells := Array.ext' hm
  subst this
  exact ⟨m, rfl, hd, hs, hp⟩
/-- The cells of the law's Ask. -/
def askR (m : M) (ae : Int) (a : ByteArray) (p : Int) : Array Value := m.cells ++ #[.int .i64 ae, .string a, .int .i64 p]
theorem cellsAsk : Tryd.prog.cellsOf 27 = 28 := by kernel_rfl
theorem split28 {cs : List Value} (h : cs.length = 28) {m : M} (h0 : (cs.drop 0).take 25 = m.cells.toList) : ∃ a b c, cs = m.cells.toList ++ [a, b, c] := by
  have h1 : cs = cs.take 25 ++ cs.drop 25 := (List.take_append_drop 25 cs).symm
  rw [List.drop_zero] at h0
  have h2 : (cs.drop 25).length = 3 := by rw [List.length_drop, h]
  match e : cs.drop 25, h2 with
  | [a, b, c], _ => exact ⟨a, b, c, by rw [h1, h0, e]⟩
theorem by_askR {base : Nat} {v : Value} {d : DataW H} {p : List MemPlace} (hv : Value.okWide Tryd.prog W .any base 27 v) (h : DataW.Trod enc Tryd.prog W 0 (fun _ => true) true 27 v d p) :
    ∃ m ae a n, v = .agg (askR m ae a n) ∧ DRow W m.la m.ll ∧ SRow W m.sa m.sl ∧ m.pfx.size ≤ maxLen ∧ a.size ≤ maxLen := by
  obtain ⟨cs, rfl, hsz⟩ := okWide_struct Tryd.underlying27 hv
  obtain ⟨fuel, hf⟩ := h
  obtain ⟨y0, y1, y2, y3, n, _, hlen, h0, h1, h2, h3⟩ := trod_struct4 Tryd.underlying27 hf
  rw [cellsAsk] at hlen
  obtain ⟨m, hm, hd, hs, hp⟩ := open_msgP (show DataW.trod enc Tryd.prog W 0 (fun _ => true) true n 25 ((cs.toList.drop 0).take 25) = some y0 from by
    have := h0
    rw [show Tryd.prog.cellsOf 25 = 25 from cellsM] at this
    exact this)
  obtain ⟨c1, c2, c3, hcs⟩ := split28 hlen hm
  have hi : Tryd.prog.cellsOf 3 = 1 := by kernel_rfl
  have hst : Tryd.prog.cellsOf 9 = 1 := by kernel_rfl
  have h1 : DataW.trod enc Tryd.prog W 0 (fun _ => true) true n 3 [c1] = some y1 := by
    have := h1
    rw [hi, hcs] at this
    exact this
  have h2 : DataW.trod enc Tryd.prog W 0 (fun _ => true) true n 9 [c2] = some y2 := by
    have := h2
    rw [hst, hcs] at this
    exact this
  have h3 : DataW.trod enc Tryd.prog W 0 (fun _ => true) true n 3 [c3] = some y3 := by
    have := h3
    rw [hi, hcs] at this
    exact this
  obtain ⟨k1, e1, _, _⟩ := DataW.trod_int Tryd.underlying3 h1
  obtain rfl := (List.cons.inj e1).1
  obtain ⟨k2, e2, _, z2⟩ := DataW.trod_string Tryd.underlying9 h2
  obtain rfl := (List.cons.inj e2).1
  obtain ⟨k3, e3, _, _⟩ := DataW.trod_int Tryd.underlying3 h3
  obtain rfl := (List.cons.inj e3).1
  have : cs = askR m k1 k2 k3 := Array.ext' (by
    have hcs : cs.toList = _ := hcs
    rw [hcs]
    unfold askR
    simp)
  subst this
  exact ⟨m, k1, k2, k3, rfl, hd, hs, hp, z2⟩
end
theorem bytes_same (a : ByteArray) : (a.toList == a.toList) = true := by simp
theorem bool_same (a : Bool) : (a == a) = true := by simp
theorem int_same (a : Int) : (a == a) = true := by simp
theorem ok_pl {n m : M} (h : Pl n m) (ho : okJ m = true) : okJ n = true ∧ putJ n = putJ m := by
  have e : n = { m with sa := n.sa, sc := n.sc } := h
  clear h
  generalize n.sa = a at e
  generalize n.sc = c at e
  subst e
  obtain ⟨hb, hp, hs, hk⟩ := (ok_iff m).1 ho
  have hb2 : bare { m with sa := a, sc := c } = true := by
    rcases kind_cases hk with k | ⟨k, _⟩
    · unfold bare at hb ⊢
      rw [(is_12 k).1, (is_12 k).2] at hb
      rw [(is_12 (m := { m with sa := a, sc := c }) k).1, (is_12 (m := { m with sa := a, sc := c }) k).2]
      exact hb
    · unfold bare at hb ⊢
      rw [(is_13 k).1, (is_13 k).2] at hb
      rw [(is_13 (m := { m with sa := a, sc := c }) k).1, (is_13 (m := { m with sa := a, sc := c }) k).2]
      exact hb
  have ho2 : okJ { m with sa := a, sc := c } = true := (ok_iff _).2 ⟨hb2, hp, hs, hk⟩
  exact ⟨ho2, by rw [putJ_yes ho, putJ_yes ho2]; rfl⟩
theorem ok_pfx {n m : M} (h : Pl n m) : n.pfx = m.pfx := by rw [show n = _ from h]
/-- A prefix that may be isn't long. -/
theorem ok_size {m : M} (h : okJ m = true) : m.pfx.size ≤ maxLen := by
  have := adr_size ((ok_iff m).1 h).pfx
  unfold maxLen
  omega
/-- The example. -/
def d0 : ByteArray := ⟨#[1, 24, 10, 1, 2]⟩
def m0 : M := { M.zero with kind := 12, ae := 1, pfx := ⟨#[10, 1, 2, 0]⟩, plen := 24 }
theorem whole0 : wholeP 1 ⟨#[10, 1, 2]⟩ 24 = ⟨#[10, 1, 2, 0]⟩ := by decide
theorem ex_out : outJ 9 d0 = (m0, true, 0) := by
  have he : endE d0 (szJ 9) (bt d0 0) (bt d0 1) 0 = (⟨⟨#[10, 1, 2]⟩, [], true⟩, true, 0) := by
    have := end_yes (s := d0) (z := 2) (ae := 1) (p := 24) (om := 0) (l := []) (b := true) (by decide) (by decide) (by decide) (by decide) (by decide) (outS_yes (l := []) F1.okT_nil rfl (by decide))
    exact this
  rw [out_yes he rfl rfl, show bt d0 0 = 1 from rfl, show bt d0 1 = 24 from rfl, whole0]
  rfl
theorem ex_ok : okJ m0 = true := (ok_iff _).2 ⟨by
  unfold bare
  rw [(is_12 rfl).1, (is_12 rfl).2]
  unfold M.same M.flatE k12 m0 M.zero
  simp, by
  have := whole_in (ae := 1) (s := ⟨#[10, 1, 2]⟩) (p := 24) (by decide) (by decide)
  rw [whole0] at this
  exact this, rfl, rfl⟩
theorem ex_put : putJ m0 = ⟨#[9, 5, 1, 24, 10, 1, 2]⟩ := by
  rw [putJ_yes ex_ok]
  decide
/-- What stays: the message's copy, its lists, the variable. -/
def FT (w : World) (g : Nat) (m : M) (W : World) : Prop := Fs w W g m ∧ Tab W
theorem FT.call {w W w' : World} {g : Nat} {m : M} (h : FT w g m W) (hb : Below W.heap.size W w') : FT w g m w' := ⟨h.1.call hb, h.2.below hb⟩
theorem FT.drew {w W : World} {g : Nat} {m : M} (h : FT w g m W) : FT w g m W.drew := ⟨h.1.drew, h.2.drew⟩
theorem heldT {P : Program} {f : Nat} {args : Array Value} {v : Ending} {w W : World} {g : Nat} {m : M} (h : Calls P f args W fun e w' => e = v ∧ Below W.heap.size W w') (hS : FT w g m W) : Calls P f args W fun e w' => e = v ∧ FT w g m w' :=
  h.mono fun _ _ ⟨he, hb⟩ => ⟨he, hS.call hb⟩
set_option maxHeartbeats 3200000 in
theorem awake_any (w : World) (ht : Tab w) : Calls Tryd.prog 9 #[] w fun e w' => e = .returned (.bool true) ∧ Below w.heap.size w w' := by
  have P1 := Lib.hid (fun V (t : Tab V) => J6.get_own 9 0 d0 V (.inl rfl) (by decide) t)
  rw [ex_out] at P1
  have P2 := Lib.hid (fun (n : M) (hn : Pl n m0) V (h : n.In V) (t : Tab V) => J3.put_any n V h (by rw [hn.sl]; exact Nat.zero_le _) (by rw [hn.sl]; exact fun x hx => absurd hx (by show ¬ x ∈ ([] : List El); simp)) (by rw [ok_pfx hn]; decide) t)
  have HK := Lib.hid (fun (n : M) (hn : Pl n m0) => show okJ n = true ∧ putJ n = ⟨#[9, 5, 1, 24, 10, 1, 2]⟩ ∧ n.pfx = ⟨#[10, 1, 2, 0]⟩ ∧ n.plen = 24 from ⟨(ok_pl hn ex_ok).1, (ok_pl hn ex_ok).2.trans ex_put, by rw [show n = _ from hn]; rfl, by rw [show n = _ from hn]; rfl⟩)
  have HT := Lib.hid ht
  clear ht
  unfold d0 at P1
  go_enter Tryd.func9, Tryd.ntmps9
  go_wp2_with fail
  refine (P1.out _ HT.out).mono ?_
  intro e w1 hr
  obtain ⟨n, rfl, hi, hp, hb⟩ := hr.at rfl (Nat.zero_le _)
  have HT := Lib.hid (HT.out.below hb)
  have HB := Lib.hid hb
  clear hr P1
  go_upto_region 2 with (refine wpList_storeM (b := w1.heap.size) (m := M.zero) (m' := n) rfl _ _ rfl rfl rfl (Bx.new w1 M.zero) ?_)
  change Code.wp _ _ _ _ ((w1.alloc (.cells M.zero.cells 25)).setRow w1.heap.size n.cells)
  rw [World.setRow_alloc_new]
  have bel := balloc (Below.refl w1.heap.size w1) (.cells n.cells 25)
  have HI := Lib.hid (hi.below bel)
  have HT := Lib.hid (HT.out.below bel)
  have HB := Lib.hid (bcall HB.out bel)
  have X := Lib.hid (Bx.new w1 n)
  obtain ⟨k1, k2, k3, k4⟩ := HK.out n hp
  have P2 := Lib.hid (P2.out n hp)
  rw [k1, k2] at P2
  clear hi hp hb bel HK k1 k2
  generalize w1.alloc (.cells n.cells 25) = V at *
  generalize w1.heap.size = g at *
  go_wp2_with (first | (refine wpList_loadM (b := g) (m := n) rfl _ rfl rfl X.out ?_))
  refine (P2.out _ HI.out HT.out).mono ?_
  rintro e w2 ⟨rfl, hb⟩
  have X := Lib.hid (X.out.below hb)
  have HB := Lib.hid (bcall HB.out hb)
  clear hb
  have c6 := X.out.cs.c6
  have c7 := X.out.cs.c7
  rw [k3] at c6
  rw [k4] at c7
  clear k3 k4
  go_wp2
  go_ret
  exact ⟨rfl, HB.out⟩
theorem AnsU.at {p : Up × Bool × Int} {w : World} {e : Ending} {w' : World} (h : AnsU p w e w') (hs : p.1.sl.length ≤ 1048576) :
    ∃ u : Up, e = .returned (.tuple #[.agg u.cells, .bool p.2.1, .int .i64 p.2.2]) ∧ u = { p.1 with sa := u.sa, sc := u.sc } ∧ SRow w' u.sa u.sl ∧ u.sl.length ≤ 1048576 ∧ Below w.heap.size w w' := by
  obtain ⟨sa, sc, h1, h3, h4⟩ := h
  exact ⟨_, h1, rfl, h3.row, hs, h4⟩
set_option maxHeartbeats 12800000 in
theorem rsameU (u : Up) (a b : Option Addr) (c d : Nat) (w : World) (ha : SRow w a u.sl) (hb : SRow w b u.sl) (hl : u.sl.length ≤ 1048576) :
    Calls Tryd.prog 18 #[.agg (Up.cells { u with sa := a, sc := c }), .agg (Up.cells { u with sa := b, sc := d })] w fun e w' => e = .returned (.bool true) ∧ Below w.heap.size w w' := by
  have bel := balloc (balloc (Below.refl _ w) (.cells (Up.cells { u with sa := a, sc := c }) 37)) (.cells (Up.cells { u with sa := b, sc := d }) 37)
  have P := Lib.hid (RSame.rsame_any (mS a u.sl c) (mS b u.sl d) _ (in_mS (ha.below bel) hl) (in_mS (hb.below bel) hl))
  rw [same_mS, decide_eq_true rfl] at P
  have HB := Lib.hid bel
  have X1 := Lib.hid ((Bk.Bk.new 37 w (Up.cells { u with sa := a, sc := c })).old (.cells (Up.cells { u with sa := b, sc := d }) 37))
  have X2 := Bk.Bk.new 37 (w.alloc (.cells (Up.cells { u with sa := a, sc := c }) 37)) (Up.cells { u with sa := b, sc := d })
  rw [Bk.alloc_size] at X2
  have X2 := Lib.hid X2
  clear bel
  have q0 := int_same u.ae
  have q1 := int_same u.flags
  have q2 := int_same u.plen
  have q3 := int_same u.om
  have q4 := int_same u.iv
  have q5 := int_same u.seq
  have q6 := int_same u.metric
  have q7 := int_same u.hav
  have q8 := bytes_same u.bytes
  go_enter Tryd.func18, Tryd.ntmps18
  go_upto_region 1 with fail
  change Code.wp _ _ _ _ ((w.alloc (.cells (Up.cells { u with sa := a, sc := c }) 37)).alloc (.cells (Up.cells { u with sa := b, sc := d }) 37))
  generalize (w.alloc (.cells (Up.cells { u with sa := a, sc := c }) 37)).alloc (.cells (Up.cells { u with sa := b, sc := d }) 37) = V at *
  have x0 := X1.out.cell 0 (.int .i64 u.ae) rfl
  have y0 := X2.out.cell 0 (.int .i64 u.ae) rfl
  have x1 := X1.out.cell 1 (.int .i64 u.flags) rfl
  have y1 := X2.out.cell 1 (.int .i64 u.flags) rfl
  have x2 := X1.out.cell 2 (.int .i64 u.plen) rfl
  have y2 := X2.out.cell 2 (.int .i64 u.plen) rfl
  have x3 := X1.out.cell 3 (.int .i64 u.om) rfl
  have y3 := X2.out.cell 3 (.int .i64 u.om) rfl
  have x4 := X1.out.cell 4 (.int .i64 u.iv) rfl
  have y4 := X2.out.cell 4 (.int .i64 u.iv) rfl
  have x5 := X1.out.cell 5 (.int .i64 u.seq) rfl
  have y5 := X2.out.cell 5 (.int .i64 u.seq) rfl
  have x6 := X1.out.cell 6 (.int .i64 u.metric) rfl
  have y6 := X2.out.cell 6 (.int .i64 u.metric) rfl
  have x7 := X1.out.cell 7 (.int .i64 u.hav) rfl
  have y7 := X2.out.cell 7 (.int .i64 u.hav) rfl
  have x8 := X1.out.cell 8 (.string u.bytes) rfl
  have y8 := X2.out.cell 8 (.string u.bytes) rfl
  have x9 := X1.out.cell 9 (.slice a u.sl.length c) rfl
  have y9 := X2.out.cell 9 (.slice b u.sl.length d) rfl
  clear X1 X2 ha hb
  obtain ⟨z0, z1, z2, z3, z4, z5, z6, z7, z8, _, l, _⟩ := u
  simp only [] at *
  go_wp2_with (first | (refine st_yes (v := .agg (M.cells (mS a l c))) (by rfl) rfl (ex_built rfl (built_mS a _ c l rfl)) ?_) | (refine st_yes (v := .agg (M.cells (mS b l d))) (by rfl) rfl (ex_built rfl (built_mS b _ d l rfl)) ?_))
  refine P.out.mono ?_
  rintro r w1 ⟨rfl, hb⟩
  have HB := Lib.hid (bcall HB.out hb)
  clear hb
  go_wp2
  go_ret
  exact ⟨rfl, HB.out⟩
end Go.Proofs.YtkhdllhlhpkekaaDoor.J9
