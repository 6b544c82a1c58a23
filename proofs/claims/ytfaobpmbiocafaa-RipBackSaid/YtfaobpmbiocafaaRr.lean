/-
  readRoutes: the routes of the entries, or the first error among them. Conditions: at most 100 entries; the head has no lists.
-/
import Derived.Test.YtfaobpmbiocafaaHd
import Derived.Test.YtfaobpmbiocafaaAp
namespace Go.Proofs.Ytfaobpmbiocafaa.Rr
open Go.ChangeShapes Go.WideShapes Go.ChangeAt Go.RowKit
open Go.Proofs.Ytfaobpmbiocafaa.Ms
open Go.Proofs.Ytfaobpmbiocafaa.Box
open Go.Proofs.Ytfaobpmbiocafaa.Rp
open Go.Proofs.Ytfaobpmbiocafaa.Ps
open Go.Proofs.Ytfaobpmbiocafaa.Ck
open Go.Proofs.Ytfaobpmbiocafaa.Ap
open Go.Proofs.Ytfaobpmbiocafaa.All
open Go.Proofs.Ytfaobpmbiocafaa.Bk (E Bk shE wpList_loadK wpList_storeK)
open Go.Proofs.Ytfaobpmbiocafaa.Or (st_yes)
set_option linter.unusedVariables false
set_option maxRecDepth 100000

/-- The answer: routes, a place, an error. -/
def Ans (p : List M × Int × Int) (w : World) (e : Ending) (w' : World) : Prop :=
  ∃ a c, e = .returned (.tuple #[.slice a p.1.length c, .int .i64 p.2.1, .int .i64 p.2.2]) ∧ MRow w' a p.1 ∧ Below w.heap.size w w'
theorem rts_flat (h : M) (b : ByteArray) (p k : Nat) (h1 : h.ll = []) (h2 : h.sl = []) : Flat (rts h b p k) := by
  intro m hm
  simp only [rts, List.mem_map] at hm
  obtain ⟨i, _, rfl⟩ := hm
  exact ⟨h1, h2⟩

theorem results_three {P : Program} {fn : Func} {p q r : Nat} (h : fn.results = #[.tmp p, .tmp q, .tmp r]) (tmps : Array Value) (w : World) (x y z : Value)
    (hx : tmps.getD p undef = x) (hy : tmps.getD q undef = y) (hz : tmps.getD r undef = z) : (results fn tmps).run P w = .ok (.tuple #[x, y, z]) w := by
  have hx' : tmps[p]?.getD undef = x := by simpa using hx
  have hy' : tmps[q]?.getD undef = y := by simpa using hy
  have hz' : tmps[r]?.getD undef = z := by simpa using hz
  simp [results, h, hx', hy', hz']
theorem Ans.no {p : List M × Int × Int} {w w' : World} {c d : Int} (h : p = ([], c, d)) (hb : Below w.heap.size w w') : Ans p w (.returned (.tuple #[.slice none 0 0, .int .i64 c, .int .i64 d])) w' := by
  subst h
  exact ⟨none, 0, rfl, MRow.nil _ _, hb⟩
theorem Ans.yes {p : List M × Int × Int} {w w' : World} {a : Option Addr} {c : Nat} {l : List M} (h : p = (l, 0, 0)) (hl : MRow w' a l) (hb : Below w.heap.size w w') : Ans p w (.returned (.tuple #[.slice a l.length c, .int .i64 0, .int .i64 0])) w' := by
  subst h
  exact ⟨a, c, rfl, hl, hb⟩
/-- What stays from round to round. -/
structure L (w wr : World) (h : M) (v : Value) (l : List M) : Prop where
  hd : Bx wr w.heap.size h
  own : Lst (w.heap.size + 1) wr v l
  bel : Below w.heap.size w wr
theorem L.call {w wr w' : World} {h : M} {v : Value} {l : List M} (g : L w wr h v l) (hb : Below wr.heap.size wr w') : L w w' h v l := ⟨g.hd.below hb, g.own.below hb, g.bel.trans (hb.mono g.bel.size)⟩
theorem L.sz {w wr : World} {h : M} {v : Value} {l : List M} (g : L w wr h v l) : w.heap.size + 1 ≤ wr.heap.size := g.hd.lt

set_option maxHeartbeats 6400000 in
theorem routes_rr (b : ByteArray) (h : M) (p0 n : Nat) (w : World) (hl : h.ll = []) (hsl : h.sl = []) (hla : h.la = none) (hsa : h.sa = none) (hs : b.size ≤ 1048576) (hn : b.size = p0 + 20 * n) (hn1 : n ≤ 100) :
    Calls Try.prog 19 #[.agg h.cells, .string b, .int .i64 (p0 : Nat)] w (Ans (ents h b p0 n (decide (p0 + 20 = b.size))) w) := by
  have hi : ∀ w, h.In w := fun w => ⟨by rw [hl]; exact DRow.nil _ _, by rw [hsl]; exact SRow.nil _ _, by rw [hl]; simp, by rw [hsl]; simp⟩
  have PG := Lib.hid (fun (s : ByteArray) (hz : s.size = 20) W => Ent.get_yes s W hz)
  have PE := Lib.hid (fun (e : E) (a : Bool) W (he : E4 e) => entry_ck h e a W he hi)
  have PR := Lib.hid (fun (e : E) W (he : E4 e) => route_ck h e W he)
  obtain ⟨b0, bel⟩ := Rt.boxed w h
  have H0 : Hid (L w (w.alloc (.cells h.cells 34)) h (.slice none 0 0) []) := Lib.hid ⟨b0, Lst.nil _ _, bel⟩
  have HF := Lib.hid (fun k => rts_flat h b p0 k hl hsl)
  clear hi b0 bel hl hsl hla hsa
  have HN := Lib.hid hn
  have hp0 : p0 ≤ 1048576 := by omega
  have ha1 : ((p0 : Int) + 20 == (b.size : Int)) = decide (p0 + 20 = b.size) := by rw [Bool.eq_iff_iff, beq_iff_eq, decide_eq_true_iff]; omega
  generalize decide (p0 + 20 = b.size) = al at *
  go_enter Try.func19, Try.ntmps19
  go_upto_region 1 with fail
  generalize w.alloc (.cells h.cells 34) = V at *
  clear hn
  go_upto_region 3 with fail
  clear ha1
  go_loopw [2, 10] (fun i v wr => ∃ k : Nat, k ≤ n ∧ i = .int .i64 ((p0 + 20 * k : Nat) : Int) ∧ Hid (L w wr h v (rts h b p0 k)) ∧ Hid (∀ i, i < k → ckE h (entP b (p0 + 20 * i)) al = 0)) (fun i _ _ => b.size - (intOf i).toNat)
  case atStart => exact ⟨0, Nat.zero_le _, rfl, H0, Lib.hid (fun i hi => absurd hi (by omega))⟩
  case round =>
    obtain ⟨k, hk, rfl, HL, HK⟩ := hrel
    by_cases hlt : k < n
    · have HS := Lib.hid (fun hz => ents_some (h := h) (b := b) (p := p0) (n := n) (alone := al) hlt HK.out hz)
      have HR := Lib.hid (rts_succ h b p0 k)
      have HJ := Lib.hid (fun (hc : ckE h (entP b (p0 + 20 * k)) al = 0) => show ∀ i, i < k + 1 → ckE h (entP b (p0 + 20 * i)) al = 0 from fun i hi => by
        by_cases hik : i < k
        · exact HK.out i hik
        · obtain rfl : i = k := by omega
          exact hc)
      have HP : Hid (((p0 + 20 * (k + 1) : Nat) : Int) = ((p0 + 20 * k : Nat) : Int) + 20) := Lib.hid (by omega)
      have hp : p0 + 20 * k + 20 ≤ b.size := by have := HN.out; omega
      have HM : Hid (b.size - ((p0 + 20 * k : Nat) : Int).toNat > b.size - (((p0 + 20 * k : Nat) : Int) + 20).toNat) := Lib.hid (by omega)
      have hk1 : (rts h b p0 k).length ≤ 100000 := by rw [rts_len]; omega
      have HL1 := Lib.hid hk1
      clear hk hk1 hp0
      generalize hq : p0 + 20 * k = p at *
      clear hq
      have sl := Ent.sl_m b (p : Int) ((p : Int) + 20) p (p + 20) rfl (by omega) (by omega) hp
      have hz : (b.extract p (p + 20)).size = 20 := by simp; omega
      have he : Hid (E4 (entP b p)) := Lib.hid (ent4 _ hz)
      have PG1 : Hid (∀ W, Calls Try.prog 44 #[.string (b.extract p (p + 20))] W fun e w' => e = .returned (.tuple #[.agg (entP b p).cells, .bool true]) ∧ Below W.heap.size W w') := Lib.hid (fun W => PG.out _ hz W)
      clear hz PG
      generalize entP b p = x at *
      go_wp2_with fail
      refine (PG1.out _).mono ?_
      rintro e w1 ⟨rfl, hb⟩
      have HL := Lib.hid (HL.out.call hb)
      clear hb PG1 sl
      go_upto_region 6 with (first | (refine wpList_storeK (b := w1.heap.size) shE rfl _ _ rfl rfl rfl (Bk.Bk.new 48 w1 E.zero.cells) rfl rfl (E.one x) ?_))
      have HL := Lib.hid (HL.out.call ((Below.refl w1.heap.size w1).alloc (Nat.le_refl _) (.cells x.cells 48)))
      have HX := Lib.hid (Bk.Bk.new 48 w1 x.cells)
      change Code.wp _ _ _ _ ((w1.alloc (.cells E.zero.cells 48)).setRow w1.heap.size x.cells)
      rw [World.setRow_alloc_new]
      generalize w1.alloc _ = W2 at *
      generalize w1.heap.size = g at *
      go_wp2_with (first | (refine wpList_loadM (b := w.heap.size) (m := h) rfl _ rfl rfl HL.out.hd ?_) | (refine wpList_loadK (b := g) shE rfl _ rfl rfl HX.out rfl ?_))
      refine (PE.out x al _ he.out).mono ?_
      rintro e w3 ⟨rfl, hb⟩
      have HL := Lib.hid (HL.out.call hb)
      have HX := Lib.hid (HX.out.below hb)
      clear hb
      by_cases hc : ckE h x al = 0
      rotate_left
      · have HC := Lib.hid (HS.out hc)
        have e1 : (ckE h x al == 0) = false := by simpa using hc
        have e2 : (ckE h x al != 0) = true := by rw [bne, e1]; rfl
        clear hc HS
        generalize ckE h x al = c at *
        go_wp2
        go_ret3
        exact Ans.no HC.out HL.out.bel
      · have HK1 := Lib.hid (HJ.out hc)
        rw [hc]
        clear hc HS
        go_upto_region 9 with fail
        go_wp2_with (first | (refine wpList_loadM (b := w.heap.size) (m := h) rfl _ rfl rfl HL.out.hd ?_) | (refine wpList_loadK (b := g) shE rfl _ rfl rfl HX.out rfl ?_))
        refine (PR.out x _ he.out).mono ?_
        rintro e w4 ⟨rfl, hb⟩
        have HL := Lib.hid (HL.out.call hb)
        have HL2 := Lib.hid (HL.out.call ((Below.refl w4.heap.size w4).alloc (Nat.le_refl _) (.cells (routeM h x).cells 34)))
        have HC := Lib.hid (cells_new (routeM h x) w4)
        clear hb HX HL
        go_wp2_with (first | (refine bs_one rfl _ rfl (m := routeM h x) rfl ?_) | (at_builtin; refine app_one rfl _ _ rfl (w.heap.size + 1) _ _ (routeM h x) _ _ rfl HL2.out.own rfl HC.out HL1.out ?c1 ?_))
        case c1 => exact HL2.out.sz
        intro v' w5 hown hb hsz
        have HL := Lib.hid (show L w w5 h v' (rts h b p0 (k + 1)) from ⟨(hb.block _ (Nat.lt_succ_self _)).trans HL2.out.hd, by rw [HR.out]; exact hown, HL2.out.bel.trans (hb.mono (by omega))⟩)
        clear hown hb hsz HC HL2 HR
        go_wp2
        go_roundw
        case rel => exact ⟨k + 1, hlt, by rw [HP.out], HL, HK1⟩
        case measure => have := HM.out; simp only [intOf]; omega
    · obtain rfl : k = n := by omega
      have HE := Lib.hid (show ents h b p0 k al = (rts h b p0 k, 0, 0) from ents_none HK.out)
      obtain ⟨a, c, rfl⟩ := HL.out.own.slice
      have HW := Lib.hid (HL.out.own.row (HF.out k))
      have hge : ¬ ((p0 + 20 * k : Nat) : Int) < (b.size : Int) := by have := HN.out; omega
      have hge2 : decide (((p0 + 20 * k : Nat) : Int) < (b.size : Int)) = false := decide_eq_false hge
      clear hlt hk
      generalize hq : p0 + 20 * k = p at *
      clear hq
      go_wp2
      go_ret3
      exact Ans.yes HE.out HW.out HL.out.bel
end Go.Proofs.Ytfaobpmbiocafaa.Rr
