/-
  What came in, opened: a TLV by value, two bytes by value; the document's example; a message but for where its Subs stand. Condition: the variable has what it is laid with.
-/
import Derived.Test.YtlfgfmhpcokjpaaDoorG3
import Derived.Test.YtlfgfmhpcokjpaaDoorG7
import Derived.Test.YtlfgfmhpcokjpaaDoorG8
import Derived.Test.YtlfgfmhpcokjpaaDoorOpen
namespace Go.Proofs.YtlfgfmhpcokjpaaDoor.Open
open Go.ChangeShapes Go.WideShapes Go.ChangeAt Go.RowKit
open Go.Proofs.YtlfgfmhpcokjpaaDoor.Tl (cellsT)
set_option linter.unusedVariables false
set_option maxRecDepth 100000
section
variable {H : Type} {enc : TypeId × Value → H} {W : World}
theorem cellsTl : Tryd.prog.cellsOf 31 = 3 := by kernel_rfl
theorem open_tlv {fuel : Nat} {cs : List Value} {x : DataW H × List MemPlace} (h : DataW.trod enc Tryd.prog W 0 (fun _ => true) true fuel 31 cs = some x) :
    ∃ a d t, cs = (cellsT (a, (d, t))).toList ∧ d.size ≤ maxLen := by
  obtain ⟨hlen, n, go⟩ := each_field Tryd.underlying31 (by kernel_rfl) h
  rw [cellsTl] at hlen
  clear h
  match cs, hlen with
  | [c0, c1, c2], _ =>
    obtain ⟨y0, h0⟩ := go 0 _ rfl
    obtain ⟨k0, e0, _, _⟩ := DataW.trod_int Tryd.underlying3 (show DataW.trod enc Tryd.prog W 0 (fun _ => true) true n 3 [c0] = some y0 from h0)
    obtain rfl := (List.cons.inj e0).1
    obtain ⟨y1, h1⟩ := go 1 _ rfl
    obtain ⟨k1, e1, _, _⟩ := DataW.trod_int Tryd.underlying3 (show DataW.trod enc Tryd.prog W 0 (fun _ => true) true n 3 [c1] = some y1 from h1)
    obtain rfl := (List.cons.inj e1).1
    obtain ⟨y2, h2⟩ := go 2 _ rfl
    obtain ⟨k2, e2, _, z2⟩ := DataW.trod_string Tryd.underlying9 (show DataW.trod enc Tryd.prog W 0 (fun _ => true) true n 9 [c2] = some y2 from h2)
    obtain rfl := (List.cons.inj e2).1
    exact ⟨k1, k2, k0, rfl, z2⟩
theorem by_tlv {base : Nat} {v : Value} {d : DataW H} {p : List MemPlace} (hv : Value.okWide Tryd.prog W .any base 31 v) (h : DataW.Trod enc Tryd.prog W 0 (fun _ => true) true 31 v d p) :
    ∃ a d t, v = .agg (cellsT (a, (d, t))) ∧ d.size ≤ maxLen := by
  obtain ⟨cs, rfl, hsz⟩ := okWide_struct Tryd.underlying31 hv
  obtain ⟨fuel, hf⟩ := h
  obtain ⟨a, d, t, hm, hok⟩ := open_tlv hf
  have : cs = cellsT (a, (d, t)) := Array.ext' hm
  subst this
  exact ⟨a, d, t, rfl, hok⟩
theorem by_two {base : Nat} {v : Value} {d : DataW H} {p : List MemPlace} (hv : Value.okWide Tryd.prog W .any base 41 v) (h : DataW.Trod enc Tryd.prog W 0 (fun _ => true) true 41 v d p) :
    ∃ t u : Int, v = .agg #[.int .u8 t, .int .u8 u] ∧ 0 ≤ t ∧ t ≤ 255 ∧ 0 ≤ u ∧ u ≤ 255 := by
  simp only [Value.okWide, Tryd.underlying41] at hv
  obtain ⟨cs, rfl, hsz, _⟩ := hv
  obtain ⟨fuel, hf⟩ := h
  obtain ⟨xs, m, _, _, hlen, hxl, hi⟩ := DataW.trod_array Tryd.underlying41 hf
  have hc : Tryd.prog.cellsOf 5 = 1 := by kernel_rfl
  have h0 := hi 0 (by decide)
  have h1 := hi 1 (by decide)
  rw [hc] at h0 h1
  rw [List.getElem?_eq_getElem (by omega)] at h0 h1
  have rng : ∀ {k : Int}, (Lit.int .u8 k).wf = true → 0 ≤ k ∧ k ≤ 255 := fun {k} z => by
    have h : IntKind.u8.min ≤ k ∧ k ≤ IntKind.u8.max := by simpa [Lit.wf] using z
    rwa [show IntKind.u8.min = 0 by decide, show IntKind.u8.max = 255 by decide] at h
  obtain ⟨l⟩ := cs
  match l, hsz.trans (show Tryd.prog.cellsOf 41 = 2 by kernel_rfl) with
  | [c0, c1], _ =>
    obtain ⟨t, e0, _, z0⟩ := DataW.trod_int Tryd.underlying5 (show DataW.trod enc Tryd.prog W 0 (fun _ => true) true m 5 [c0] = some _ from h0)
    obtain ⟨u, e1, _, z1⟩ := DataW.trod_int Tryd.underlying5 (show DataW.trod enc Tryd.prog W 0 (fun _ => true) true m 5 [c1] = some _ from h1)
    obtain rfl := (List.cons.inj e0).1
    obtain rfl := (List.cons.inj e1).1
    exact ⟨t, u, rfl, (rng z0).1, (rng z0).2, (rng z1).1, (rng z1).2⟩
end
end Go.Proofs.YtlfgfmhpcokjpaaDoor.Open
namespace Go.Proofs.YtlfgfmhpcokjpaaDoor.G9
open Go.ChangeShapes Go.WideShapes Go.ChangeAt Go.RowKit
open Go.Proofs.YtlfgfmhpcokjpaaDoor.Ms
open Go.Proofs.YtlfgfmhpcokjpaaDoor.Box
open Go.Proofs.YtlfgfmhpcokjpaaDoor.S1
open Go.Proofs.YtlfgfmhpcokjpaaDoor.G1
open Go.Proofs.YtlfgfmhpcokjpaaDoor.G2
open Go.Proofs.YtlfgfmhpcokjpaaDoor.An
open Go.Proofs.YtlfgfmhpcokjpaaDoor.Tb
open Go.Proofs.YtlfgfmhpcokjpaaDoor.Own (k7 k8 k9 k10)
open Go.Proofs.YtlfgfmhpcokjpaaDoor.Tl (cellsT)
open Go.Proofs.YtlfgfmhpcokjpaaDoor.Hs
set_option linter.unusedVariables false
set_option maxRecDepth 100000
theorem bytes_same (a : ByteArray) : (a.toList == a.toList) = true := by simp
theorem bool_same (a : Bool) : (a == a) = true := by simp
theorem int_same (a : Int) : (a == a) = true := by simp
theorem ok_pl {n m : M} (h : Pl n m) (ho : okF m = true) : okF n = true ∧ putF n = putF m := by
  have e : n = { m with sa := n.sa, sc := n.sc } := h
  clear h
  generalize n.sa = a at e
  generalize n.sc = c at e
  subst e
  obtain ⟨hb, hs, n1, n2, n3, n4, hk⟩ := (ok_iff m).1 ho
  have hb2 : bare { m with sa := a, sc := c } = true := by
    rcases kind_cases hk with k | k | ⟨k, _⟩ | ⟨k, _⟩
    · unfold bare at hb ⊢
      rw [(is_7 k).1, (is_7 k).2] at hb
      rw [(is_7 (m := { m with sa := a, sc := c }) k).1, (is_7 (m := { m with sa := a, sc := c }) k).2]
      exact hb
    · unfold bare at hb ⊢
      rw [(is_8 k).1, (is_8 k).2] at hb
      rw [(is_8 (m := { m with sa := a, sc := c }) k).1, (is_8 (m := { m with sa := a, sc := c }) k).2]
      exact hb
    · unfold bare at hb ⊢
      rw [(is_9 k).1, (is_9 k).2] at hb
      rw [(is_9 (m := { m with sa := a, sc := c }) k).1, (is_9 (m := { m with sa := a, sc := c }) k).2]
      exact hb
    · unfold bare at hb ⊢
      rw [(is_10 k).1, (is_10 k).2] at hb
      rw [(is_10 (m := { m with sa := a, sc := c }) k).1, (is_10 (m := { m with sa := a, sc := c }) k).2]
      exact hb
  have ho2 : okF { m with sa := a, sc := c } = true := (ok_iff _).2 ⟨hb2, hs, n1, n2, n3, n4, hk⟩
  exact ⟨ho2, by rw [putF_yes ho, putF_yes ho2]; rfl⟩
/-- The example. -/
def d0 : ByteArray := ⟨#[128, 0, 0, 1, 0, 100]⟩
def m0 : M := { M.zero with kind := 9, flags := 1, seq := 1, interval := 100 }
theorem ex_out : outF 4 d0 = (m0, true, 0) := by
  rw [out_yes (t := 4) (d := d0) (l := []) (by decide) (fun x => by have := x.1; omega) (outS_yes (l := []) F1.okT_nil rfl (by decide))]
  rfl
theorem ex_ok : okF m0 = true := (ok_iff _).2 ⟨by
  unfold bare
  rw [(is_9 rfl).1, (is_9 rfl).2]
  unfold M.same M.flatE k9 m0 M.zero
  simp, rfl, zero_fits, fits2 (show (0 : Int) ≤ 100 by decide) (by decide), fits2 (show (0 : Int) ≤ 1 by decide) (by decide), zero_fits, rfl⟩
theorem ex_put : putF m0 = ⟨#[4, 6, 128, 0, 0, 1, 0, 100]⟩ := by
  rw [putF_yes ex_ok]
  rfl
/-- What stays: the message's copy, its lists, the variable. -/
def FT (w : World) (g : Nat) (m : M) (W : World) : Prop := Fs w W g m ∧ Tab W
theorem FT.call {w W w' : World} {g : Nat} {m : M} (h : FT w g m W) (hb : Below W.heap.size W w') : FT w g m w' := ⟨h.1.call hb, h.2.below hb⟩
theorem FT.drew {w W : World} {g : Nat} {m : M} (h : FT w g m W) : FT w g m W.drew := ⟨h.1.drew, h.2.drew⟩
theorem heldT {P : Program} {f : Nat} {args : Array Value} {v : Ending} {w W : World} {g : Nat} {m : M} (h : Calls P f args W fun e w' => e = v ∧ Below W.heap.size W w') (hS : FT w g m W) : Calls P f args W fun e w' => e = v ∧ FT w g m w' :=
  h.mono fun _ _ ⟨he, hb⟩ => ⟨he, hS.call hb⟩
set_option maxHeartbeats 3200000 in
theorem awake_any (w : World) (ht : Tab w) : Calls Tryd.prog 8 #[] w fun e w' => e = .returned (.bool true) ∧ Below w.heap.size w w' := by
  have P1 := Lib.hid (fun V (t : Tab V) => G6.get_own 4 0 d0 V (by decide) (by decide) (by decide) t)
  rw [ex_out] at P1
  have P2 := Lib.hid (fun (n : M) (hn : Pl n m0) V (h : n.In V) (t : Tab V) => G3.put_any n V h (by rw [hn.sl]; exact Nat.zero_le _) (by rw [hn.sl]; exact fun x hx => absurd hx (by show ¬ x ∈ ([] : List El); simp)) t)
  have HK := Lib.hid (fun (n : M) (hn : Pl n m0) => show okF n = true ∧ putF n = ⟨#[4, 6, 128, 0, 0, 1, 0, 100]⟩ ∧ n.kind = 9 ∧ n.flags = 1 ∧ n.seq = 1 ∧ n.interval = 100 from ⟨(ok_pl hn ex_ok).1, (ok_pl hn ex_ok).2.trans ex_put, by rw [show n = _ from hn]; rfl, by rw [show n = _ from hn]; rfl, by rw [show n = _ from hn]; rfl, by rw [show n = _ from hn]; rfl⟩)
  have HT := Lib.hid ht
  clear ht
  unfold d0 at P1
  go_enter Tryd.func8, Tryd.ntmps8
  go_wp2_with fail
  refine (P1.out _ HT.out).mono ?_
  intro e w1 hr
  obtain ⟨n, rfl, hi, hp, hb⟩ := hr.at rfl (Nat.zero_le _)
  have HT := Lib.hid (HT.out.below hb)
  have HB := Lib.hid hb
  clear hr P1
  go_upto_region 2 with (refine wpList_storeM (b := w1.heap.size) (m := M.zero) (m' := n) rfl _ _ rfl rfl rfl (Bx.new w1 M.zero) ?_)
  change Code.wp _ _ _ _ ((w1.alloc (.cells M.zero.cells 25)).setRow w1.heap.size n.cells)
  rw [World.setRow_alloc_new]
  have bel := balloc (Below.refl w1.heap.size w1) (.cells n.cells 25)
  have HI := Lib.hid (hi.below bel)
  have HT := Lib.hid (HT.out.below bel)
  have HB := Lib.hid (bcall HB.out bel)
  have X := Lib.hid (Bx.new w1 n)
  obtain ⟨k1, k2, k3, k4, k5, k6⟩ := HK.out n hp
  have P2 := Lib.hid (P2.out n hp)
  rw [k1, k2] at P2
  clear hi hp hb bel HK k1 k2
  generalize w1.alloc (.cells n.cells 25) = V at *
  generalize w1.heap.size = g at *
  go_wp2_with (first | (refine wpList_loadM (b := g) (m := n) rfl _ rfl rfl X.out ?_))
  refine (P2.out _ HI.out HT.out).mono ?_
  rintro e w2 ⟨rfl, hb⟩
  have X := Lib.hid (X.out.below hb)
  have HB := Lib.hid (bcall HB.out hb)
  clear hb
  have c0 := X.out.cs.c0
  have c12 := X.out.cs.c12
  have c14 := X.out.cs.c14
  have c15 := X.out.cs.c15
  rw [k3] at c0
  rw [k4] at c15
  rw [k5] at c12
  rw [k6] at c14
  clear k3 k4 k5 k6
  go_wp2
  go_ret
  exact ⟨rfl, HB.out⟩
end Go.Proofs.YtlfgfmhpcokjpaaDoor.G9
