/-
  Parse: the routes of bytes, or the first error and its place. Condition: at most 2^20 bytes.
-/
import Derived.Test.YthfdcmijciclkaaTk
namespace Go.Proofs.Ythfdcmijciclkaa.Pa
open Go.ChangeShapes Go.WideShapes Go.ChangeAt Go.RowKit
open Go.Proofs.Ythfdcmijciclkaa.Ms
open Go.Proofs.Ythfdcmijciclkaa.Box
open Go.Proofs.Ythfdcmijciclkaa.Rp
open Go.Proofs.Ythfdcmijciclkaa.Rt
open Go.Proofs.Ythfdcmijciclkaa.Hs
open Go.Proofs.Ythfdcmijciclkaa.Hx
open Go.Proofs.Ythfdcmijciclkaa.Ap
open Go.Proofs.Ythfdcmijciclkaa.St
open Go.Proofs.Ythfdcmijciclkaa.Tk
open Go.Proofs.Ythfdcmijciclkaa.All
open Go.Proofs.Ythfdcmijciclkaa.Bk (E Bk Sh shE results_one loadVarK wpList_builtK wpList_loadK wpList_storeK run_loadK)
open Go.Proofs.Ythfdcmijciclkaa.Or (st_yes)
set_option linter.unusedVariables false
set_option maxRecDepth 100000

/-- The next hop, the routes behind an entry without an error. -/
def stN (nx : ByteArray) (e : E) : ByteArray := if e.met = 255 then nx1 e else nx
def stL (c : Int) (nx : ByteArray) (e : E) (l : List M) : List M := l ++ if e.met = 255 then [] else [routeM c nx e]
set_option maxHeartbeats 1600000 in
theorem take_any (B b : Nat) (c : Int) (nx : ByteArray) (l : List M) (e : E) (w : World) (h : Rdr B b c nx l w) (hB : B ≤ w.heap.size) (hl : l.length ≤ 100000) :
    Calls Try.prog 19 #[.pointer (some ⟨b, 0, none⟩), .agg e.cells] w fun r w' => r = .returned (.int .i64 (ckE e)) ∧ (ckE e = 0 → Rdr B b c (stN nx e) (stL c nx e l) w') ∧ Below B w w' := by
  obtain ⟨b0, bel⟩ := boxE w e
  have hr := h.below bel
  replace bel := bel.mono hB
  have hsz := Bk.alloc_size w (.cells e.cells 45)
  go_enter Try.func19, Try.ntmps19
  go_upto_region 1 with fail
  generalize w.alloc (.cells e.cells 45) = V at *
  have hBV : B ≤ V.heap.size := by omega
  have P1 := Lib.hid (hop_any B b c nx l e V hr hBV)
  have P2 := Lib.hid (route_any B b c nx l e V hr hBV hl)
  have c5 := (ec b0).c5
  have B0 := Lib.hid b0
  clear b0 h hr
  by_cases hm : e.met = 255
  · have HE := Lib.hid (show ckE e = ckHop e by unfold ckE; rw [if_pos hm])
    have HN := Lib.hid (show ckHop e = 0 → stN nx e = hopN nx e by intro h; rw [hopN_yes nx e h]; unfold stN; rw [if_pos hm])
    have HL := Lib.hid (show stL c nx e l = l by unfold stL; rw [if_pos hm, List.append_nil])
    have e1 : (e.met == 255) = true := by simpa using hm
    clear hm P2
    go_wp2_with (first | (refine wpList_loadK (b := w.heap.size) shE rfl _ rfl rfl B0.out rfl ?_))
    refine P1.out.mono ?_
    rintro r w1 ⟨rfl, hr, hb⟩
    have HR := Lib.hid hr
    replace bel := bel.trans hb
    clear hb hr c5
    go_wp2
    go_ret
    exact ⟨int_eq HE.out.symm, fun h => by rw [HL.out, HN.out (HE.out ▸ h)]; exact HR.out, bel⟩
  · have HE := Lib.hid (show ckE e = ckRte e by unfold ckE; rw [if_neg hm])
    have HN := Lib.hid (show stN nx e = nx by unfold stN; rw [if_neg hm])
    have HL := Lib.hid (show ckRte e = 0 → stL c nx e l = rteL c nx e l by intro h; rw [rteL_yes c nx e l h]; unfold stL; rw [if_neg hm])
    have e1 : (e.met == 255) = false := by simpa using hm
    clear hm P1
    go_wp2_with (first | (refine wpList_loadK (b := w.heap.size) shE rfl _ rfl rfl B0.out rfl ?_))
    refine P2.out.mono ?_
    rintro r w1 ⟨rfl, hr, hb⟩
    have HR := Lib.hid hr
    replace bel := bel.trans hb
    clear hb hr c5
    go_wp2
    go_ret
    exact ⟨int_eq HE.out.symm, fun h => by rw [HN.out, HL.out (HE.out ▸ h)]; exact HR.out, bel⟩

/-- The answer: routes, a place, an error. -/
def Ans (p : List M × Int × Int) (w : World) (e : Ending) (w' : World) : Prop :=
  ∃ a c, e = .returned (.tuple #[.slice a p.1.length c, .int .i64 p.2.1, .int .i64 p.2.2]) ∧ MRow w' a p.1 ∧ Below w.heap.size w w'
theorem Ans.no {p : List M × Int × Int} {w w' : World} {c d : Int} (h : p = ([], c, d)) (hb : Below w.heap.size w w') : Ans p w (.returned (.tuple #[.slice none 0 0, .int .i64 c, .int .i64 d])) w' := by
  subst h
  exact ⟨none, 0, rfl, MRow.nil _ _, hb⟩
theorem Ans.yes {p : List M × Int × Int} {w w' : World} {a : Option Addr} {c n : Nat} {l : List M} (h : p = (l, 0, 0)) (hn : l.length = n) (hl : MRow w' a l) (hb : Below w.heap.size w w') : Ans p w (.returned (.tuple #[.slice a n c, .int .i64 0, .int .i64 0])) w' := by
  subst h hn
  exact ⟨a, c, rfl, hl, hb⟩
theorem rts_flat (b : ByteArray) (k : Nat) : Flat (rts b k) := fun m hm => by
  have := run_flat _ _ _ m hm
  exact ⟨this.1, this.2.1⟩
theorem shR : Sh Try.prog 43 3 := ⟨_, Try.underlying43, by kernel_rfl⟩
theorem ent_ck (b : ByteArray) (p : Nat) (h : p + 20 ≤ b.size) : (b.extract p (p + 20)).size = 20 := by simp; omega
theorem ckI_succ {b : ByteArray} {k : Nat} (h : ∀ i, i < k → ckI b i = 0) (hc : ckI b k = 0) : ∀ i, i < k + 1 → ckI b i = 0 := fun i hi => by
  by_cases hik : i < k
  · exact h i hik
  · obtain rfl : i = k := by omega
    exact hc

set_option maxHeartbeats 6400000 in
theorem parse_any (b : ByteArray) (w : World) (hs : b.size ≤ 1048576) : Calls Try.prog 8 #[.string b] w (Ans (out b) w) := by
  have P1 := Lib.hid (fun W => head_any b W hs)
  by_cases h1 : (hdAt b).2 = 0
  rotate_left
  · have HZ : Hid (out b = ([], (hdAt b).1, (hdAt b).2)) := Lib.hid (by unfold out; rw [if_pos h1])
    have e1 : ((hdAt b).2 == 0) = false := by simpa using h1
    have e2 : ((hdAt b).2 != 0) = true := by rw [bne, e1]; rfl
    clear h1
    generalize (hdAt b).2 = x at *
    generalize (hdAt b).1 = y at *
    go_enter Try.func8, Try.ntmps8
    go_wp2_with fail
    refine (P1.out _).mono ?_
    rintro e w1 ⟨rfl, rfl⟩
    go_wp2
    go_ret3
    exact Ans.no HZ.out (Below.refl _ _)
  obtain ⟨h65, h4, _, _, _, h20⟩ := hd_ok h1
  have HO := Lib.hid (show out b = ents b ((b.size - 4) / 20) by unfold out; rw [if_neg (by simpa using h1)])
  rw [h1] at P1
  clear h1
  obtain ⟨n, hn⟩ : ∃ n, b.size = 4 + 20 * n := ⟨(b.size - 4) / 20, by omega⟩
  rw [show (b.size - 4) / 20 = n by omega] at HO
  have j0 := idx b 0 0 rfl (by omega)
  have v0 := conv8 (bt b 0) (bt_nn _ _) (bt_lt _ _)
  have HR0 := Lib.hid (show Rdr w.heap.size w.heap.size (bt b 0) (nxK b 0) (rts b 0) (w.alloc (.cells #[.int .i64 (bt b 0), .string ⟨#[0, 0, 0, 0, 0, 0, 0, 0, 0, 0, 0, 0, 0, 0, 0, 0]⟩, .slice none 0 0] 43)) from ⟨Nat.le_refl _, .slice none 0 0, Bk.Bk.new _ w _, Lst.nil _ _⟩)
  generalize hc0 : bt b 0 = c0 at *
  generalize (hdAt b).1 = y at *
  go_enter Try.func8, Try.ntmps8
  go_wp2_with fail
  refine (P1.out _).mono ?_
  rintro e w1 ⟨rfl, rfl⟩
  clear P1
  have HN := Lib.hid hn
  have HC0 := Lib.hid hc0
  clear hc0 hn h20 h4
  go_upto_region 5 with (first | (refine wpList_builtK rfl 43 _ rfl #[.int .i64 c0, .string ⟨#[0, 0, 0, 0, 0, 0, 0, 0, 0, 0, 0, 0, 0, 0, 0, 0]⟩, .slice none 0 0] (by kernel_rfl) ?_) | (refine wpList_storeK (b := w.heap.size) shR rfl _ _ rfl rfl rfl (Bk.Bk.new 43 w #[.int .i64 0, .string ⟨#[]⟩, .slice none 0 0]) rfl rfl rfl ?_))
  have HB0 := Lib.hid (balloc (Below.refl _ w) (.cells #[.int .i64 c0, .string ⟨#[0, 0, 0, 0, 0, 0, 0, 0, 0, 0, 0, 0, 0, 0, 0, 0]⟩, .slice none 0 0] 43))
  generalize w.alloc _ = V at *
  clear j0 v0
  go_upto_region 6 with fail
  go_loopw [8] (fun i wr => ∃ k : Nat, k ≤ n ∧ i = .int .i64 ((4 + 20 * k : Nat) : Int) ∧ Hid (Rdr w.heap.size w.heap.size c0 (nxK b k) (rts b k) wr) ∧ Hid (∀ i, i < k → ckI b i = 0) ∧ Hid (Below w.heap.size w wr)) (fun i _ => b.size - (intOf i).toNat)
  case atStart => exact ⟨0, Nat.zero_le _, rfl, HR0, Lib.hid (fun i hi => absurd hi (by omega)), HB0⟩
  case round =>
    obtain ⟨k, hk, rfl, HL, HK, HB⟩ := hrel
    clear HR0 HB0
    by_cases hlt : k < n
    · have HS := Lib.hid (fun hz => ents_some (b := b) (n := n) hlt HK.out hz)
      have HJ := Lib.hid (fun hc => ckI_succ HK.out hc)
      have HNx := Lib.hid (show nxK b (k + 1) = stN (nxK b k) (entP b (4 + 20 * k)) from nxK_succ b k)
      have HRt := Lib.hid (show rts b (k + 1) = stL c0 (nxK b k) (entP b (4 + 20 * k)) (rts b k) by rw [← HC0.out]; exact rts_succ b k)
      have HP : Hid (((4 + 20 * (k + 1) : Nat) : Int) = ((4 + 20 * k : Nat) : Int) + 20) := Lib.hid (by omega)
      have hp : 4 + 20 * k + 20 ≤ b.size := by have := HN.out; omega
      have HM : Hid (b.size - ((4 + 20 * k : Nat) : Int).toNat > b.size - (((4 + 20 * k : Nat) : Int) + 20).toNat) := Lib.hid (by omega)
      have HL1 : Hid ((rts b k).length ≤ 100000) := Lib.hid (by have := rts_len b k; have := HN.out; omega)
      have HCk : Hid (ckI b k = ckE (entP b (4 + 20 * k))) := Lib.hid rfl
      clear hk HK
      generalize ckI b k = ck at *
      generalize hq : 4 + 20 * k = p at *
      clear hq
      have sl := Rte.sl_m b (p : Int) ((p : Int) + 20) p (p + 20) rfl (by omega) (by omega) hp
      have PG : Hid (∀ W, Calls Try.prog 18 #[.string (b.extract p (p + 20))] W fun e w' => e = .returned (.tuple #[.agg (entP b p).cells, .bool true]) ∧ Below W.heap.size W w') := Lib.hid (fun W => Rte.get_yes _ W (ent_ck b p hp))
      generalize entP b p = x at *
      generalize nxK b k = nx at *
      generalize rts b k = lk at *
      go_wp2_with fail
      refine (PG.out _).mono ?_
      rintro e w1 ⟨rfl, hb⟩
      have HL := Lib.hid (HL.out.below hb)
      have HB := Lib.hid (bcall HB.out hb)
      clear hb PG sl
      go_upto_region 9 with (first | (refine wpList_storeK (b := w1.heap.size) shE rfl _ _ rfl rfl rfl (Bk.Bk.new 45 w1 E.zero.cells) rfl rfl (E.one x) ?_))
      change Code.wp _ _ _ _ ((w1.alloc (.cells E.zero.cells 45)).setRow w1.heap.size x.cells)
      rw [World.setRow_alloc_new]
      have HL := Lib.hid (HL.out.below (balloc (Below.refl _ w1) (.cells x.cells 45)))
      have HB := Lib.hid (balloc HB.out (.cells x.cells 45))
      have HX := Lib.hid (Bk.Bk.new 45 w1 x.cells)
      generalize w1.alloc (.cells x.cells 45) = W2 at *
      generalize w1.heap.size = g at *
      go_wp2_with (first | (refine wpList_loadK (b := g) shE rfl _ rfl rfl HX.out rfl ?_))
      refine (take_any w.heap.size w.heap.size c0 nx lk x _ HL.out HB.out.size HL1.out).mono ?_
      rintro e w3 ⟨rfl, hr, hb⟩
      have HR := Lib.hid hr
      have HB := Lib.hid (HB.out.trans hb)
      clear hb hr HX HL
      rw [← HCk.out] at *
      by_cases hc : ck = 0
      rotate_left
      · have HC := Lib.hid (HS.out hc)
        have e1 : (ck == 0) = false := by simpa using hc
        have e2 : (ck != 0) = true := by rw [bne, e1]; rfl
        clear hc HS HR
        go_wp2
        go_ret3
        exact Ans.no (HO.out.trans HC.out) HB.out
      · have HK1 := Lib.hid (HJ.out hc)
        have HL := Lib.hid (show Rdr w.heap.size w.heap.size c0 (nxK b (k + 1)) (rts b (k + 1)) w3 by rw [HNx.out, HRt.out]; exact HR.out (by rw [← HCk.out]; exact hc))
        subst hc
        clear HS HR HJ HNx HRt
        go_wp2
        go_roundw
        case rel => exact ⟨k + 1, hlt, by rw [HP.out], HL, HK1, HB⟩
        case measure => have := HM.out; simp only [intOf]; omega
    · obtain rfl : k = n := by omega
      have HE := Lib.hid (HO.out.trans (ents_none HK.out))
      obtain ⟨_, v, hrd, hown⟩ := HL.out
      obtain ⟨va, vc, rfl⟩ := own_form hown
      have HW := Lib.hid (hown.row (rts_flat b k))
      have cR := hrd.cell 2 _ rfl
      have hge : ¬ ((4 + 20 * k : Nat) : Int) < (b.size : Int) := by have := HN.out; omega
      have hge2 : decide (((4 + 20 * k : Nat) : Int) < (b.size : Int)) = false := decide_eq_false hge
      clear hlt hk hrd hown HL
      generalize 4 + 20 * k = p at *
      have hHL : Hid ((rts b k).length = (rts b k).length) := Lib.hid rfl
      by_cases hz : (rts b k).length = 0
      · have HZ := Lib.hid (HE.out.trans (if_pos hz))
        have e1 : (((rts b k).length : Int) == 0) = true := by rw [beq_iff_eq]; omega
        clear hHL HW HE
        generalize (rts b k).length = len at *
        go_wp2
        go_ret3
        exact Ans.no HZ.out HB.out
      · have HZ := Lib.hid (HE.out.trans (if_neg hz))
        have e1 : (((rts b k).length : Int) == 0) = false := by rw [beq_eq_false_iff_ne]; omega
        have e2 : (((rts b k).length : Int) != 0) = true := by rw [bne, e1]; rfl
        clear hHL HE
        generalize hln : (rts b k).length = len at *
        have HLn := Lib.hid hln
        clear hln
        go_wp2
        go_ret3
        exact Ans.yes HZ.out HLn.out HW.out HB.out
end Go.Proofs.Ythfdcmijciclkaa.Pa
