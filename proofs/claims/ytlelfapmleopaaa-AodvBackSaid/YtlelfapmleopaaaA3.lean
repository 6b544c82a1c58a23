/-
  The program's Encode of AODV: the first message of a list that may not be, and the bytes of its only message, or why there are none. Conditions: a list of at most 1000 messages, whose lists aren't long.
-/
import Derived.Test.YtlelfapmleopaaaA2
namespace Go.Proofs.Ytlelfapmleopaaa.A3
open Go.ChangeShapes Go.WideShapes Go.ChangeAt Go.RowKit
open Go.Proofs.Ytlelfapmleopaaa.Ms
open Go.Proofs.Ytlelfapmleopaaa.Box
open Go.Proofs.Ytlelfapmleopaaa.Xv
open Go.Proofs.Ytlelfapmleopaaa.Cnt (int_eq)
open Go.Proofs.Ytlelfapmleopaaa.All
open Go.Proofs.Ytlelfapmleopaaa.Am
open Go.Proofs.Ytlelfapmleopaaa.A1
open Go.Proofs.Ytlelfapmleopaaa.A2
open Go.Proofs.Ytlelfapmleopaaa.Hs
set_option linter.unusedVariables false
set_option maxRecDepth 100000
open Go.Proofs.Ytlelfapmleopaaa.Y1 (putE)
/-- No list within is long. -/
def Sm (m : M) : Prop := m.ll.length ≤ 1048576 ∧ m.sl.length ≤ 2000 ∧ ∀ x ∈ m.sl, x.1.size ≤ 1099511627776
theorem few_sm {m : M} (h : Few.fewB m = true) : Sm m := by
  obtain ⟨h1, h2, h3⟩ := few_parts h
  exact ⟨by omega, by omega, h3⟩
theorem ok_sm {m : M} (h : okA m = true) (h1 : m.ll.length ≤ 255) (h2 : m.sl.length ≤ 2000) : Sm m := ⟨by omega, h2, fun x hx => by
  have := (okX_mem (ok_subs h) x hx).2.2
  omega⟩
theorem Sm.pl {n m : M} (h : Sm m) (hp : Pl n m) : Sm n := ⟨by rw [hp.ll]; exact h.1, by rw [hp.sl]; exact h.2.1, by rw [hp.sl]; exact h.2.2⟩
theorem Sm.short {m : M} (h : Sm m) : Short m := ⟨h.1, by have := h.2.1; omega⟩
theorem row_in {w : World} {a : Option Addr} {l : List M} (h : MRow w a l) (hs : ∀ m ∈ l, Sm m) {k : Nat} (hk : k < l.length) : l[k].In w := by
  obtain ⟨p, _, _, _, hd, hss⟩ := h k hk
  have := (hs _ (List.getElem_mem hk)).short
  exact ⟨hd, hss, this.1, this.2⟩
theorem enc_most {m : M} (hs : m.sl.length ≤ 2000) : (encA m).size ≤ 600000 := by
  cases h : okA m
  · have : encA m = putE m := by
      unfold okA at h
      rw [Bool.or_eq_false_iff, Bool.or_eq_false_iff] at h
      unfold encA
      rw [h.1, if_neg (by decide), h.2.1, if_neg (by decide)]
    rw [this, Y1.putE_no (by unfold okA at h; rw [Bool.or_eq_false_iff, Bool.or_eq_false_iff] at h; exact h.2.2)]
    decide
  · have hb := bytes_most (ok_subs h)
    rcases ok_cases h with ⟨_, h, e⟩ | ⟨_, h, e⟩ | ⟨_, h, e⟩
    · obtain ⟨hk, _, hn, ha, ho, hx⟩ := (Q1.ok_iff m).1 h
      obtain ⟨f0, f1, n1, n2, n3, n4⟩ := (Q1.nums_iff m).1 hn
      rw [e, Q1.putQ_yes h]
      show (Q1.encQ m).length ≤ _
      unfold Q1.encQ Q1.hd
      simp only [List.length_append, List.length_cons, Nu.lay_len n2, Nu.lay_len n3, Nu.lay_len n4, Q1.size_list, ha, ho, encX_len]
      omega
    · have h2 := Z1.hd_len h
      rw [e, Z1.putP_yes h]
      show (Z1.encP m).length ≤ _
      unfold Z1.encP
      rw [List.length_append, encX_len]
      omega
    · have := ((Y1.nums_iff m).1 ((Y1.ok_iff m).1 h).nums).n1
      rw [e, Y1.putE_len h]
      omega
set_option maxHeartbeats 3200000 in
/-- The bytes of a message that may be. -/
theorem put_any (m : M) (w : World) (hm : m.In w) (hs : Sm m) (hok : okA m = true) : Calls Try.prog 29 #[.agg m.cells] w fun e w' => e = .returned (.string (encA m)) ∧ Below w.heap.size w w' := by
  have HF := Lib.hid (Fs.new w m hm)
  rcases ok_cases hok with ⟨h, ho, he⟩ | ⟨h, ho, he⟩ | ⟨h, ho, he⟩
  · have PP := Lib.hid (fun V (h : m.In V) => Q5.put_any m V h hs.2.1 hs.2.2)
    rw [← he] at PP
    clear ho hs hok hm he
    generalize encA m = y at *
    go_enter Try.func29, Try.ntmps29
    go_upto_region 1 with fail
    generalize w.alloc (.cells m.cells 34) = V at *
    have c0 := HF.out.m.cs.c0
    rw [h] at c0
    go_wp2_with (first | (refine wpList_loadM (b := w.heap.size) (m := m) rfl _ rfl rfl HF.out.m ?_))
    refine (PP.out _ HF.out.i).mono ?_
    rintro r w1 ⟨rfl, hb⟩
    have HF := Lib.hid (HF.out.call hb)
    clear c0 hb
    go_wp2
    go_ret
    exact ⟨rfl, HF.out.bel⟩
  · rcases h with h | h
    · have PP := Lib.hid (fun V (h : m.In V) => Z5.put_any m V h hs.2.1 hs.2.2)
      rw [← he] at PP
      clear ho hs hok hm he
      generalize encA m = y at *
      go_enter Try.func29, Try.ntmps29
      go_upto_region 1 with fail
      generalize w.alloc (.cells m.cells 34) = V at *
      have c0 := HF.out.m.cs.c0
      rw [h] at c0
      go_wp2_with (first | (refine wpList_loadM (b := w.heap.size) (m := m) rfl _ rfl rfl HF.out.m ?_))
      refine (PP.out _ HF.out.i).mono ?_
      rintro r w1 ⟨rfl, hb⟩
      have HF := Lib.hid (HF.out.call hb)
      clear c0 hb
      go_wp2
      go_ret
      exact ⟨rfl, HF.out.bel⟩
    · have PP := Lib.hid (fun V (h : m.In V) => Z5.put_any m V h hs.2.1 hs.2.2)
      rw [← he] at PP
      clear ho hs hok hm he
      generalize encA m = y at *
      go_enter Try.func29, Try.ntmps29
      go_upto_region 1 with fail
      generalize w.alloc (.cells m.cells 34) = V at *
      have c0 := HF.out.m.cs.c0
      rw [h] at c0
      go_wp2_with (first | (refine wpList_loadM (b := w.heap.size) (m := m) rfl _ rfl rfl HF.out.m ?_))
      refine (PP.out _ HF.out.i).mono ?_
      rintro r w1 ⟨rfl, hb⟩
      have HF := Lib.hid (HF.out.call hb)
      clear c0 hb
      go_wp2
      go_ret
      exact ⟨rfl, HF.out.bel⟩
  · have PP := Lib.hid (fun V (h : m.In V) => Y5.put_any m V h hs.2.1 hs.2.2)
    rw [← he] at PP
    clear ho hs hok hm he
    generalize encA m = y at *
    go_enter Try.func29, Try.ntmps29
    go_upto_region 1 with fail
    generalize w.alloc (.cells m.cells 34) = V at *
    have c0 := HF.out.m.cs.c0
    rw [h] at c0
    go_wp2_with (first | (refine wpList_loadM (b := w.heap.size) (m := m) rfl _ rfl rfl HF.out.m ?_))
    refine (PP.out _ HF.out.i).mono ?_
    rintro r w1 ⟨rfl, hb⟩
    have HF := Lib.hid (HF.out.call hb)
    clear c0 hb
    go_wp2
    go_ret
    exact ⟨rfl, HF.out.bel⟩
set_option maxHeartbeats 3200000 in
theorem index_any (a : Option Addr) (c : Nat) (l : List M) (w : World) (hl : MRow w a l) (hs : ∀ m ∈ l, Sm m) (hn : l.length ≤ 1048576) :
    Calls Try.prog 26 #[.slice a l.length c, .func (.func 27) #[] #[]] w fun e w' => e = .returned (.int .i64 (idxA l)) ∧ Below w.heap.size w w' := by
  go_enter Try.func26, Try.ntmps26
  go_wp2
  go_loopw [8] (fun i wr => ∃ k : Nat, k ≤ l.length ∧ i = .int .i64 k ∧ Hid (∀ i (hi : i < l.length), i < k → okA l[i] = true) ∧ Hid (Below w.heap.size w wr)) (fun i _ => l.length - (intOf i).toNat)
  case atStart => exact ⟨0, Nat.zero_le _, rfl, Lib.hid (fun i _ hi => absurd hi (by omega)), Lib.hid (Below.refl _ _)⟩
  case round =>
    obtain ⟨k, hk, rfl, HT, HB⟩ := hrel
    by_cases hlt : k < l.length
    · obtain ⟨p, rfl, _, hc, _, _⟩ := (hl.below HB.out) k hlt
      have P := Lib.hid (wrong_any l[k] wr (row_in (hl.below HB.out) hs hlt) (hs _ (List.getElem_mem hlt)).2.2)
      have HI := Lib.hid (fun (h : okA l[k] = false) => idx_some hlt HT.out h)
      have HJ := Lib.hid (fun (h : okA l[k] = true) => show ∀ i (hi : i < l.length), i < k + 1 → okA l[i] = true from fun i h1 hi => by
        by_cases hik : i < k
        · exact HT.out i h1 hik
        · obtain rfl : i = k := by omega
          exact h)
      have HC := Lib.hid hc
      clear hl hc hs HT
      generalize l[k] = u at *
      generalize okA u = x at *
      cases x
      · have HZ := Lib.hid (HI.out rfl)
        clear HI HJ
        go_wp2_with (first | (refine wpList_loadA (m := u) rfl _ rfl rfl HC.out ?_))
        refine P.out.mono ?_
        rintro e w1 ⟨rfl, hb1⟩
        go_wp2
        go_ret
        exact ⟨int_eq HZ.out.symm, bcall HB.out hb1⟩
      · have HZ := Lib.hid (HJ.out rfl)
        clear HI HJ
        go_wp2_with (first | (refine wpList_loadA (m := u) rfl _ rfl rfl HC.out ?_))
        refine P.out.mono ?_
        rintro e w1 ⟨rfl, hb1⟩
        have HB1 := Lib.hid (bcall HB.out hb1)
        clear hb1
        go_wp2
        go_roundw
        case rel => exact ⟨k + 1, hlt, by go_num, HZ, HB1⟩
        case measure => simp [intOf]; omega
    · obtain rfl : k = l.length := by omega
      have HZ := Lib.hid (idx_none (l := l) (fun i hi => HT.out i hi hi))
      go_wp2
      go_ret
      exact ⟨int_eq HZ.out.symm, HB.out⟩
/-- The error of how many messages there are. -/
def ckC (n : Nat) : Int × Int := if n = 0 then (0, 8) else if 1 < n then (1, 8) else (0, 0)
theorem count_any (a : Option Addr) (n c : Nat) (w : World) (hn : n ≤ 1048576) : Calls Try.prog 28 #[.slice a n c] w fun e w' => e = .returned (.tuple #[.int .i64 (ckC n).1, .int .i64 (ckC n).2]) ∧ w = w' := by
  by_cases h0 : n = 0
  · have HZ : Hid (ckC n = (0, 8)) := Lib.hid (by unfold ckC; rw [if_pos h0])
    have e0 : ((n : Int) == 0) = true := by rw [beq_iff_eq]; omega
    clear h0
    go_enter Try.func28, Try.ntmps28
    go_wp2
    go_ret2
    exact ⟨Y3.two_eq HZ.out, rfl⟩
  have e0 : ((n : Int) == 0) = false := by rw [beq_eq_false_iff_ne]; omega
  by_cases h1 : 1 < n
  · have HZ : Hid (ckC n = (1, 8)) := Lib.hid (by unfold ckC; rw [if_neg h0, if_pos h1])
    have e1 : (1 : Int) < (n : Int) := by omega
    clear h0 h1
    go_enter Try.func28, Try.ntmps28
    go_wp2
    go_ret2
    exact ⟨Y3.two_eq HZ.out, rfl⟩
  have HZ : Hid (ckC n = (0, 0)) := Lib.hid (by unfold ckC; rw [if_neg h0, if_neg h1])
  have e1 : ¬ (1 : Int) < (n : Int) := by omega
  clear h0 h1
  go_enter Try.func28, Try.ntmps28
  go_wp2
  go_ret2
  exact ⟨Y3.two_eq HZ.out, rfl⟩
/-- The answer: bytes, a place, an error. -/
def AnsE (p : ByteArray × Int × Int) (w : World) (e : Ending) (w' : World) : Prop := e = .returned (.tuple #[.string p.1, .int .i64 p.2.1, .int .i64 p.2.2]) ∧ Below w.heap.size w w'
theorem AnsE.of {p : ByteArray × Int × Int} {w w' : World} {b : ByteArray} {x y : Int} (h : p = (b, x, y)) (hb : Below w.heap.size w w') : AnsE p w (.returned (.tuple #[.string b, .int .i64 x, .int .i64 y])) w' := by
  subst h
  exact ⟨rfl, hb⟩
set_option maxHeartbeats 6400000 in
theorem encode_any (a : Option Addr) (c : Nat) (l : List M) (w : World) (hl : MRow w a l) (hs : ∀ m ∈ l, Sm m) (hn : l.length ≤ 1000) :
    Calls Try.prog 13 #[.slice a l.length c] w (AnsE (encL l) w) := by
  have P1 := Lib.hid (index_any a c l w hl hs (by omega))
  rcases enc_cases l with ⟨k, hk, h1, h2⟩ | ⟨hw, h0 | h0 | h0⟩
  · have HZ := Lib.hid (enc_wrong hk h1 h2)
    have hx := idx_some hk h1 h2
    rw [hx] at P1
    clear hx hk h1 h2 hl hs
    go_enter Try.func13, Try.ntmps13
    go_wp2_with fail
    refine P1.out.mono ?_
    rintro e w1 ⟨rfl, hb⟩
    go_wp2
    go_ret3
    exact AnsE.of HZ.out hb
  · have HZ := Lib.hid (enc_none h0)
    have hx := idx_none hw
    rw [hx] at P1
    have P2 := Lib.hid (fun V => count_any a l.length c V (by omega))
    rw [show ckC l.length = (0, 8) by unfold ckC; rw [if_pos h0]] at P2
    clear hx h0 hw hl hs
    go_enter Try.func13, Try.ntmps13
    go_wp2_with fail
    refine P1.out.mono ?_
    rintro e w1 ⟨rfl, hb⟩
    go_wp2_with fail
    refine (P2.out _).mono ?_
    rintro e w1 ⟨rfl, rfl⟩
    go_wp2
    go_ret3
    exact AnsE.of HZ.out hb
  · have HZ := Lib.hid (enc_more hw h0)
    have hx := idx_none hw
    rw [hx] at P1
    have P2 := Lib.hid (fun V => count_any a l.length c V (by omega))
    rw [show ckC l.length = (1, 8) by unfold ckC; rw [if_neg (by omega), if_pos h0]] at P2
    clear hx h0 hw hl hs
    go_enter Try.func13, Try.ntmps13
    go_wp2_with fail
    refine P1.out.mono ?_
    rintro e w1 ⟨rfl, hb⟩
    go_wp2_with fail
    refine (P2.out _).mono ?_
    rintro e w1 ⟨rfl, rfl⟩
    go_wp2
    go_ret3
    exact AnsE.of HZ.out hb
  · have hx := idx_none hw
    rw [hx] at P1
    have P2 := Lib.hid (fun V => count_any a l.length c V (by omega))
    rw [show ckC l.length = (0, 0) by unfold ckC; rw [if_neg (by omega), if_neg (by omega)]] at P2
    obtain ⟨m, rfl⟩ := List.length_eq_one_iff.1 h0
    have hok : okA m = true := hw 0 (by simp)
    have hsm := hs m (by simp)
    have HMr := Lib.hid (fun (W : World) (h : Below w.heap.size w W) => hl.below h)
    have HIn := Lib.hid (fun (W : World) (h : Below w.heap.size w W) => show m.In W from row_in (hl.below h) hs (k := 0) (by simp))
    have PP := Lib.hid (fun V (h : m.In V) => put_any m V h hsm hok)
    have HY := Lib.hid (fun h => enc_long hok h)
    have HN := Lib.hid (fun h => enc_one hok h)
    have hmost : (encA m).size ≤ 600000 := enc_most hsm.2.1
    obtain ⟨p, rfl, _, _, _, _⟩ := hl 0 (by simp)
    have HC := Lib.hid (fun (W : World) (h : Below w.heap.size w W) => show ∀ j v, (m.cells.toList)[j]? = some v → W.cell? (p.add j) = some v by
      obtain ⟨p2, hp2, _, hc, _, _⟩ := hl.below h 0 (by simp)
      obtain rfl : p = p2 := by simpa using hp2
      intro j v hv
      have := hc j v hv
      rw [Nat.zero_mul, show p.add 0 = p by cases p; rfl] at this
      exact this)
    have ix0 : ∀ W, (Instr.indexAt 23 (.slice (some p) 1 c) (.int .i64 0)).run Try.prog W = .ok (.pointer (some p)) W := fun W => by
      have := indexM p 1 c 0 (by decide) W
      rw [Nat.zero_mul, show p.add 0 = p by cases p; rfl] at this
      exact this
    clear hx h0 hw hl hs hsm hok hn
    change Calls Try.prog 13 #[.slice (some p) 1 c] w (AnsE (encL [m]) w)
    have P1 := Lib.hid (show Calls Try.prog 26 #[.slice (some p) 1 c, .func (.func 27) #[] #[]] w fun e w' => e = .returned (.int .i64 (-1)) ∧ Below w.heap.size w w' from P1.out)
    have P2 := Lib.hid (fun V => show Calls Try.prog 28 #[.slice (some p) 1 c] V fun e w' => e = .returned (.tuple #[.int .i64 0, .int .i64 0]) ∧ V = w' from P2.out V)
    generalize encA m = y at *
    go_enter Try.func13, Try.ntmps13
    go_wp2_with fail
    refine P1.out.mono ?_
    rintro e w1 ⟨rfl, hb⟩
    go_wp2_with fail
    refine (P2.out _).mono ?_
    rintro e w1 ⟨rfl, rfl⟩
    go_wp2_with (first | (refine wpList_loadA (m := m) rfl _ rfl rfl (HC.out _ hb) ?_))
    refine (PP.out _ (HIn.out _ hb)).mono ?_
    rintro e w2 ⟨rfl, hb2⟩
    have HB := Lib.hid (bcall hb hb2)
    clear hb hb2 HMr HIn HC PP P1 P2 ix0
    by_cases hz : 65535 < y.size
    · have HZ := Lib.hid (HY.out hz)
      have hz1 : (65535 : Int) < (y.size : Int) := by omega
      go_wp2
      go_ret3
      exact AnsE.of HZ.out HB.out
    · have HZ := Lib.hid (HN.out hz)
      have hz1 : ¬ (65535 : Int) < (y.size : Int) := by omega
      go_wp2
      go_ret3
      exact AnsE.of HZ.out HB.out
theorem sm_one {n : M} (h : Sm n) : ∀ m ∈ [n], Sm m := fun m hm => by
  obtain rfl : m = n := by simpa using hm
  exact h
theorem encode_one (a : Option Addr) (c : Nat) (n : M) (w : World) (hl : MRow w a [n]) (hs : Sm n) : Calls Try.prog 13 #[.slice a 1 c] w (AnsE (encL [n]) w) := encode_any a c [n] w hl (sm_one hs) (by simp)
theorem row_add (p : Addr) : p.add 0 = p := by cases p; rfl
theorem index_one (p : Addr) (c : Nat) (W : World) : (Instr.indexAt 23 (.slice (some p) 1 c) (.int .i64 0)).run Try.prog W = .ok (.pointer (some p)) W := by
  have := indexM p 1 c 0 (by decide) W
  rw [Nat.zero_mul, row_add] at this
  exact this
theorem row_at {w : World} {a : Option Addr} {n : M} (h : MRow w a [n]) : ∃ p, a = some p ∧ ∀ j v, (n.cells.toList)[j]? = some v → w.cell? (p.add j) = some v := by
  obtain ⟨p, hp, _, hc, _, _⟩ := h 0 (by simp)
  refine ⟨p, hp, fun j v hv => ?_⟩
  have := hc j v hv
  rw [Nat.zero_mul, row_add] at this
  exact this
end Go.Proofs.Ytlelfapmleopaaa.A3
