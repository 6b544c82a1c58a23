/-
  The writer's calls and Put: what they answer of any entry. Condition: texts of at most 2^40 bytes.
-/
import Derived.Test.YtfaobpmbiocafaaRd
import Derived.Lib.Builder
import Derived.Lib.AppendStr
namespace Go.Proofs.Ytfaobpmbiocafaa.Ent
open Go.ChangeShapes Go.WideShapes Go.ChangeAt Go.RowKit
open Go.Proofs.Ytfaobpmbiocafaa.Cur
open Go.Proofs.Ytfaobpmbiocafaa.Oct
open Go.Proofs.Ytfaobpmbiocafaa.Bk
set_option linter.unusedVariables false
set_option maxRecDepth 100000

/-- The call's own writer in block b has laid the bytes l; what is new begins at block B. -/
def Wr (B b : Nat) (l : List UInt8) (bad : Bool) (w : World) : Prop :=
  B ≤ b ∧ ∃ v, Bk 97 w b #[v, .bool bad] ∧ w.ownsRow B 5 1 v l.length (cellsL l)
theorem neW : (97 : TypeId) ≠ 5 := by decide
theorem cellsL_append (a b : List UInt8) : cellsL (a ++ b) = cellsL a ++ cellsL b := by simp [cellsL]
theorem own_set {w : World} {B b i : Nat} {v u : Value} {n : Nat} {xs : List Value} {cs : Array Value} (hown : w.ownsRow B 5 1 v n xs) (hb : Bk 97 w b cs) : (w.setCell ⟨b, i, none⟩ u).ownsRow B 5 1 v n xs :=
  hown.kept (row := some b) ⟨rfl, rfl, rfl, by simp [World.setCell], fun k _ hk => Below.heap_setCell _ _ _ _ (fun e => hk (by simp [e]))⟩ (Or.inr (Lib.ownBlock_ne hown hb neW))

set_option maxHeartbeats 800000 in
theorem lay_no (B b : Nat) (l : List UInt8) (bad : Bool) (s : ByteArray) (w : World) (h : Wr B b l bad w) :
    Calls Try.prog 97 #[.pointer (some ⟨b, 0, none⟩), .string s, .bool false] w fun e w' => e = .returned (.tuple #[]) ∧ Wr B b l true w' ∧ Below B w w' := by
  obtain ⟨hB, v, hb, hown⟩ := h
  have c1 := hb.cell 1 (.bool bad) rfl
  have f1 := hb.frozen 1
  have HB := Lib.hid hb
  have HO := Lib.hid hown
  clear hb hown
  go_enter Try.func97, Try.ntmps97
  go_wp2_with fail
  refine bodyPost_ret (results_none rfl _ _ _) rfl ?_
  exact ⟨rfl, ⟨hB, v, HB.out.set rfl, own_set HO.out HB.out⟩, (Below.refl _ _).setCell (p := ⟨b, 1, none⟩) hB _⟩

set_option maxHeartbeats 800000 in
theorem lay_yes (B b : Nat) (l : List UInt8) (bad : Bool) (s : ByteArray) (w : World) (h : Wr B b l bad w) (hlen : l.length + s.size ≤ 140737488355328) (hBw : B ≤ w.heap.size) :
    Calls Try.prog 97 #[.pointer (some ⟨b, 0, none⟩), .string s, .bool true] w fun e w' => e = .returned (.tuple #[]) ∧ Wr B b (l ++ s.data.toList) bad w' ∧ Below B w w' := by
  obtain ⟨i0, hi, hz0, hz1, hz2⟩ := info_parts info5
  obtain ⟨hB, v, hb, hown⟩ := h
  have hne := Lib.ownBlock_ne hown hb neW
  have hlt := hb.lt
  have c0 := hb.cell 0 v rfl
  have HB := Lib.hid hb
  clear hb
  go_enter Try.func97, Try.ntmps97
  go_wp2_with (at_builtin; refine Lib.wpList_append_own_string _ rfl _ _ 76 9 rfl B 5 i0 Try.underlying76 Try.underlying9 hi hz0 hz1 hz2 _ _ _ rfl hown s rfl ?c3 ?c4 ?c5 ?_)
  case c3 => unfold maxLen; omega
  case c4 => omega
  case c5 => exact hBw
  intro v' w2 hown' hgrow _
  have hb2 : Bk 97 w2 b #[v, .bool bad] := (hgrow.block b hlt (fun e => hne e.symm)).trans HB.out
  have d0 := hb2.cell 0 v rfl
  have f0 := hb2.frozen 0
  have h1v : v'.oneCell' = true := by
    rcases hown'.2 with ⟨rfl, _⟩ | ⟨g, cap, cur, rfl, _⟩ <;> rfl
  have HB2 := Lib.hid hb2
  clear hb2
  obtain ⟨ao, n', cap, rfl⟩ : ∃ ao n' cap, v' = .slice ao n' cap := by
    rcases hown'.2 with ⟨hv, _⟩ | ⟨g, cap, cur, hv, _⟩
    · exact ⟨_, _, _, hv⟩
    · exact ⟨_, _, _, hv⟩
  go_wp2_with fail
  go_end0
  refine ⟨rfl, ⟨hB, _, HB2.out.set rfl, own_set ?_ HB2.out⟩, ((Below.refl _ _).grown hgrow hBw (fun k hk => (hown.lt k hk).1)).setCell (p := ⟨b, 0, none⟩) hB _⟩
  rw [cellsL_append, List.length_append]
  exact hown'

/-- What a number lays: its bytes, if it fits. -/
def layN (v : Int) (n : Nat) : List UInt8 := if fitsB v n then be v.toNat n else []
/-- What a text of four bytes lays. -/
def layT (s : ByteArray) : List UInt8 := if s.size = 4 then s.data.toList else []
theorem layN_len (v : Int) (n : Nat) : (layN v n).length ≤ n := by unfold layN; split <;> simp [be_length]
theorem layT_len (s : ByteArray) : (layT s).length ≤ 4 := by unfold layT; split <;> simp <;> omega

theorem Wr.under {B b : Nat} {l : List UInt8} {bad : Bool} {w w' : World} (h : Wr B b l bad w) (hb : Below w.heap.size w w') : Wr B b l bad w' := by
  obtain ⟨h1, v, h2, h3⟩ := h
  refine ⟨h1, v, h2.below hb, h3.1, ?_⟩
  rcases h3.2 with h | ⟨g, cap, cur, a, b, c, d⟩
  · exact .inl h
  · exact .inr ⟨g, cap, cur, a, b, (hb.block g (Array.getElem?_eq_some_iff.1 c).1).trans c, d⟩
theorem Wr.lt {B b : Nat} {l : List UInt8} {bad : Bool} {w : World} (h : Wr B b l bad w) : b < w.heap.size := by
  obtain ⟨h1, v, h2, h3⟩ := h
  exact h2.lt

set_option maxHeartbeats 800000 in
theorem wnum (B b : Nat) (l : List UInt8) (bad : Bool) (v : Int) (n : Nat) (ni : Int) (hni : ni = n) (w : World) (h : Wr B b l bad w) (hlen : l.length ≤ 1000) (h1 : 1 ≤ n) (h7 : n ≤ 7) :
    Calls Try.prog 83 #[.pointer (some ⟨b, 0, none⟩), .int .i64 v, .int .i64 ni] w fun e w' => e = .returned (.tuple #[]) ∧ Wr B b (l ++ layN v n) (bad || !fitsB v n) w' ∧ Below B w w' := by
  subst hni
  have hlt := h.lt
  have hB := h.1
  by_cases hf : fitsB v n = true
  · obtain ⟨_, _, hv0, hv1⟩ := (fitsB_iff v n).1 hf
    have hl : layN v n = be v.toNat n := by unfold layN; rw [if_pos hf]
    rw [hl, hf, Bool.not_true, Bool.or_false]
    obtain ⟨v, rfl⟩ := Int.eq_ofNat_of_zero_le hv0
    have hv : v < pw n := by simpa using hv1
    clear hv0 hv1 hl hf
    have hz : (be v n).length = n := be_length v n
    go_enter Try.func83, Try.ntmps83
    go_wp2_with fail
    refine (put_yes v n w h1 h7 hv).mono ?_
    rintro e w1 ⟨rfl, hb1⟩
    have h' := h.under hb1
    go_wp2_with fail
    refine (lay_yes B b l bad ⟨(be v n).toArray⟩ w1 h' (by show l.length + (be v n).toArray.size ≤ _; simp [hz]; omega) (by have := hb1.size; omega)).mono ?_
    rintro e w2 ⟨rfl, hw, hb2⟩
    go_wp2_with fail
    go_end0
    exact ⟨rfl, hw, (hb1.mono (by omega)).trans hb2⟩
  · have hf : fitsB v n = false := by simpa using hf
    have hl : layN v n = [] := by unfold layN; rw [hf]; rfl
    rw [hl, hf, Bool.not_false, Bool.or_true, List.append_nil]
    go_enter Try.func83, Try.ntmps83
    go_wp2_with fail
    refine (put_no v n w hf).mono ?_
    rintro e w1 ⟨rfl, hb1⟩
    have h' := h.under hb1
    go_wp2_with fail
    refine (lay_no B b l bad _ w1 h').mono ?_
    rintro e w2 ⟨rfl, hw, hb2⟩
    go_wp2_with fail
    go_end0
    exact ⟨rfl, hw, (hb1.mono (by omega)).trans hb2⟩

set_option maxHeartbeats 800000 in
theorem wtext (B b : Nat) (l : List UInt8) (bad : Bool) (s : ByteArray) (w : World) (h : Wr B b l bad w) (hlen : l.length ≤ 1000) (hs : s.size ≤ maxLen) :
    Calls Try.prog 84 #[.pointer (some ⟨b, 0, none⟩), .string s, .int .i64 4] w fun e w' => e = .returned (.tuple #[]) ∧ Wr B b (l ++ layT s) (bad || !decide (s.size = 4)) w' ∧ Below B w w' := by
  have hlt := h.lt
  have hB := h.1
  unfold maxLen at hs
  by_cases h4 : s.size = 4
  · have hl : layT s = s.data.toList := by unfold layT; rw [if_pos h4]
    rw [hl, decide_eq_true h4, Bool.not_true, Bool.or_false]
    have hx : l.length + s.size ≤ 140737488355328 := by omega
    go_enter Try.func84, Try.ntmps84
    go_wp2_with fail
    refine (lay_yes B b l bad s w h hx (by omega)).mono ?_
    rintro e w2 ⟨rfl, hw, hb2⟩
    go_wp2_with fail
    go_end0
    exact ⟨rfl, hw, hb2⟩
  · have hl : layT s = [] := by unfold layT; rw [if_neg h4]
    rw [hl, decide_eq_false h4, Bool.not_false, Bool.or_true, List.append_nil]
    have hq : ((s.size : Int) == 4) = false := by simp; omega
    clear h4
    go_enter Try.func84, Try.ntmps84
    go_wp2_with fail
    refine (lay_no B b l bad s w h).mono ?_
    rintro e w2 ⟨rfl, hw, hb2⟩
    go_wp2_with fail
    go_end0
    exact ⟨rfl, hw, hb2⟩

/-- What it says of what was laid. -/
def outB (l : List UInt8) (bad : Bool) : ByteArray := if bad then ⟨#[]⟩ else ⟨l.toArray⟩

theorem conv_own {B : Nat} (w : World) (l : List UInt8) {ao : Option Addr} {cap : Nat} (h : w.ownsRow B 5 1 (.slice ao l.length cap) l.length (cellsL l)) :
    (convert 76 9 (.slice ao l.length cap)).run Try.prog w = .ok (.string ⟨l.toArray⟩) w := by
  rcases h.2 with ⟨hv, h0⟩ | ⟨g, c, cur, hv, _⟩
  · have : l = [] := List.length_eq_zero_iff.1 h0
    subst this
    show (convert 76 9 (.slice ao 0 cap)).run Try.prog w = _
    obtain ⟨rfl, _, rfl⟩ : ao = none ∧ True ∧ cap = 0 := by simpa using hv
    rw [run_convert_bytes_string w 76 9 5 none 0 0 Try.underlying76 Try.underlying5 Try.underlying9]; rfl
  · simp at hv
    obtain ⟨rfl, rfl⟩ := hv
    exact conv_row w g cap B l l.length rfl h

set_option maxHeartbeats 800000 in
theorem wdone (B b : Nat) (l : List UInt8) (bad : Bool) (w : World) (h : Wr B b l bad w) :
    Calls Try.prog 85 #[.pointer (some ⟨b, 0, none⟩)] w fun e w' => e = .returned (.tuple #[.string (outB l bad), .bool (!bad)]) ∧ w = w' := by
  obtain ⟨hB, v, hb, hown⟩ := h
  have c1 := hb.cell 1 (.bool bad) rfl
  have c0 := hb.cell 0 v rfl
  clear hb
  cases bad
  · obtain ⟨ao, cap, rfl⟩ : ∃ ao cap, v = .slice ao l.length cap := by
      rcases hown.2 with ⟨hv, h0⟩ | ⟨g, cap, cur, hv, _⟩
      · exact ⟨_, _, by rw [hv, h0]⟩
      · exact ⟨_, _, hv⟩
    have hc := conv_own w l hown
    clear hown
    go_enter Try.func85, Try.ntmps85
    go_wp2_with fail
    go_ret2
    exact ⟨rfl, rfl⟩
  · go_enter Try.func85, Try.ntmps85
    go_wp2_with fail
    go_ret2
    exact ⟨rfl, rfl⟩

/-- All that an entry's fields lay, and whether one doesn't fit. -/
def laidE (e : E) : List UInt8 := layN e.fam 2 ++ (layN e.tag 2 ++ (layT e.addr ++ (layT e.mask ++ (layT e.next ++ layN e.met 4))))
def okE (e : E) : Bool := fitsB e.fam 2 && fitsB e.tag 2 && decide (e.addr.size = 4) && decide (e.mask.size = 4) && decide (e.next.size = 4) && fitsB e.met 4
/-- The bytes of an entry. -/
def putE (e : E) : ByteArray := if okE e then ⟨(laidE e).toArray⟩ else ⟨#[]⟩
structure OkE (e : E) : Prop where
  (addr : e.addr.size ≤ maxLen) (mask : e.mask.size ≤ maxLen) (next : e.next.size ≤ maxLen)

/-- What stands in the middle of Put. -/
structure U (w0 w : World) (b : Nat) (e : E) (l : List UInt8) (bad : Bool) : Prop where
  ent : Bk 48 w w0.heap.size e.cells
  wr : Wr b b l bad w
  o : w0.heap.size < b
  bel : Below w0.heap.size w0 w
theorem U.call {w0 w w' : World} {b : Nat} {e : E} {l l' : List UInt8} {bad bad' : Bool} (g : U w0 w b e l bad) (h : Wr b b l' bad' w') (hb : Below b w w') : U w0 w' b e l' bad' :=
  ⟨g.ent.under hb g.o, h, g.o, g.bel.trans (hb.mono (Nat.le_of_lt g.o))⟩

set_option maxHeartbeats 1600000 in
theorem put_any (e : E) (w : World) (he : OkE e) :
    Calls Try.prog 63 #[.agg e.cells] w fun r w' => r = .returned (.tuple #[.string (putE e), .bool (okE e)]) ∧ Below w.heap.size w w' := by
  go_enter Try.func63, Try.ntmps63
  go_upto_region 2 with fail
  have G0 : U w ((w.alloc (.cells e.cells 48)).alloc (.cells #[.slice none 0 0, .bool false] 97)) (w.heap.size + 1) e [] false := by
    refine ⟨(Bk.new _ _ _).old _, ⟨Nat.le_refl _, .slice none 0 0, ?_, ⟨by simp [cellsL], .inl ⟨rfl, rfl⟩⟩⟩, by omega, ((Below.refl w.heap.size w).alloc (Nat.le_refl _) _).alloc (by rw [alloc_size]; omega) _⟩
    have := Bk.new 97 (w.alloc (.cells e.cells 48)) #[.slice none 0 0, .bool false]
    rwa [alloc_size] at this
  generalize (w.alloc (.cells e.cells 48)).alloc _ = W at *
  have c := G0.ent.cell 0 (.int .i64 e.fam) rfl
  go_wp2_with fail
  refine (wnum _ _ _ _ e.fam 2 2 rfl _ G0.wr (by (try simp only [List.length_append]); have := layN_len e.fam 2; have := layN_len e.tag 2; have := layT_len e.addr; have := layT_len e.mask; have := layT_len e.next; (try simp); try omega) (by omega) (by omega)).mono ?_
  rintro r V0 ⟨rfl, hw, hb⟩
  replace G0 := G0.call hw hb
  clear hw hb
  have c := G0.ent.cell 1 (.int .i64 e.tag) rfl
  go_wp2_with fail
  refine (wnum _ _ _ _ e.tag 2 2 rfl _ G0.wr (by (try simp only [List.length_append]); have := layN_len e.fam 2; have := layN_len e.tag 2; have := layT_len e.addr; have := layT_len e.mask; have := layT_len e.next; (try simp); try omega) (by omega) (by omega)).mono ?_
  rintro r V1 ⟨rfl, hw, hb⟩
  replace G0 := G0.call hw hb
  clear hw hb
  have c := G0.ent.cell 2 (.string e.addr) rfl
  go_wp2_with fail
  refine (wtext _ _ _ _ e.addr _ G0.wr (by (try simp only [List.length_append]); have := layN_len e.fam 2; have := layN_len e.tag 2; have := layT_len e.addr; have := layT_len e.mask; (try simp); try omega) he.addr).mono ?_
  rintro r V2 ⟨rfl, hw, hb⟩
  replace G0 := G0.call hw hb
  clear hw hb
  have c := G0.ent.cell 3 (.string e.mask) rfl
  go_wp2_with fail
  refine (wtext _ _ _ _ e.mask _ G0.wr (by (try simp only [List.length_append]); have := layN_len e.fam 2; have := layN_len e.tag 2; have := layT_len e.addr; have := layT_len e.mask; (try simp); try omega) he.mask).mono ?_
  rintro r V3 ⟨rfl, hw, hb⟩
  replace G0 := G0.call hw hb
  clear hw hb
  have c := G0.ent.cell 4 (.string e.next) rfl
  go_wp2_with fail
  refine (wtext _ _ _ _ e.next _ G0.wr (by (try simp only [List.length_append]); have := layN_len e.fam 2; have := layN_len e.tag 2; have := layT_len e.addr; have := layT_len e.mask; (try simp); try omega) he.next).mono ?_
  rintro r V4 ⟨rfl, hw, hb⟩
  replace G0 := G0.call hw hb
  clear hw hb
  have c := G0.ent.cell 5 (.int .i64 e.met) rfl
  go_wp2_with fail
  refine (wnum _ _ _ _ e.met 4 4 rfl _ G0.wr (by (try simp only [List.length_append]); have := layN_len e.fam 2; have := layN_len e.tag 2; have := layT_len e.addr; have := layT_len e.mask; have := layT_len e.next; (try simp); try omega) (by omega) (by omega)).mono ?_
  rintro r V5 ⟨rfl, hw, hb⟩
  replace G0 := G0.call hw hb
  clear hw hb
  go_wp2_with fail
  refine (wdone _ _ _ _ _ G0.wr).mono ?_
  rintro r V6 ⟨rfl, rfl⟩
  go_wp2_with fail
  go_ret2
  refine ⟨tup_eq ?_ rfl, G0.bel⟩
  unfold putE outB okE laidE
  generalize fitsB e.fam 2 = x1
  generalize fitsB e.tag 2 = x2
  generalize decide (e.addr.size = 4) = x3
  generalize decide (e.mask.size = 4) = x4
  generalize decide (e.next.size = 4) = x5
  generalize fitsB e.met 4 = x6
  cases x1 <;> cases x2 <;> cases x3 <;> cases x4 <;> cases x5 <;> cases x6 <;> rfl
end Go.Proofs.Ytfaobpmbiocafaa.Ent
