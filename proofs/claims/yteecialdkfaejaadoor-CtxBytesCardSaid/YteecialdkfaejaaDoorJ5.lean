/-
  What was read of the fields; what stands behind them: the program's call. Conditions: at most 100000 bytes; the variable has what it is laid with.
-/
import Derived.Test.YteecialdkfaejaaDoorJ4
import Derived.Test.YteecialdkfaejaaDoorS5
import Derived.Test.YteecialdkfaejaaDoorP5
namespace Go.Proofs.YteecialdkfaejaaDoor.J5
open Go.ChangeShapes Go.WideShapes Go.ChangeAt Go.RowKit
open Go.Proofs.YteecialdkfaejaaDoor.Ms
open Go.Proofs.YteecialdkfaejaaDoor.Box
open Go.Proofs.YteecialdkfaejaaDoor.S1
open Go.Proofs.YteecialdkfaejaaDoor.S5 (AnsS)
open Go.Proofs.YteecialdkfaejaaDoor.Nu
open Go.Proofs.YteecialdkfaejaaDoor.J1
open Go.Proofs.YteecialdkfaejaaDoor.J2
open Go.Proofs.YteecialdkfaejaaDoor.J4
open Go.Proofs.YteecialdkfaejaaDoor.Rg
open Go.Proofs.YteecialdkfaejaaDoor.An
open Go.Proofs.YteecialdkfaejaaDoor.Tc
open Go.Proofs.YteecialdkfaejaaDoor.F1 (bt bt_nn bt_lt num_one num_two)
open Go.Proofs.YteecialdkfaejaaDoor.Cur (numL)
open Go.Proofs.YteecialdkfaejaaDoor.Bk (Bk Sh loadVarK wpList_builtK wpList_loadK wpList_storeK alloc_size)
open Go.Proofs.YteecialdkfaejaaDoor.Hs
set_option linter.unusedVariables false
set_option maxRecDepth 100000
set_option maxRecDepth 100000
theorem nx_was {s : ByteArray} {k : Nat} {p : Nat × Bool} (h : (nx s k p).2 = false) : p.2 = false ∧ p.1 + k ≤ s.size ∧ nx s k p = (p.1 + k, false) := by
  obtain ⟨a, y⟩ := p
  cases y with
  | true => rw [nx_bad (s := s) (k := k) (p := (a, true)) rfl] at h; cases h
  | false =>
    by_cases hk : a + k ≤ s.size
    · exact ⟨rfl, hk, nx_yes hk⟩
    · rw [nx_no hk] at h; cases h
theorem at1 {s : ByteArray} {a : Nat} (h : a + 1 ≤ s.size) : rdV s (a, false) 1 = bt s a := (v_yes h).trans (num_one s a h)
theorem at2 {s : ByteArray} {a : Nat} (h : a + 2 ≤ s.size) : rdV s (a, false) 2 = num2 s a := v_yes h
/-- What request answers of a type: Bad, or the fields. -/
theorem isQ (t : Int) (s : ByteArray) (h : t = 9 ∨ t = 10) : (s.size < szJ t → (pQ t s).2 = true) ∧ (¬ s.size < szJ t → pQ t s = (szJ t, false) ∧ RQ t s = hdJ t s) := by
  rcases h with rfl | rfl
  · refine ⟨fun h => ?_, fun h => ?_⟩
    · cases e : (pQ 9 s).2
      · obtain ⟨f1, g1, _⟩ := nx_was (show (nx s 1 (nx s 1 (0, false))).2 = false from e)
        obtain ⟨_, g0, w0⟩ := nx_was f1
        rw [w0] at g1
        simp only [] at g1
        have : s.size < 2 := h
        omega
      · rfl
    · have h2 : 2 ≤ s.size := by have : ¬ s.size < 2 := h; omega
      have e1 : nx s 1 (0, false) = (1, false) := nx_yes (by omega)
      refine ⟨?_, ?_⟩
      · show nx s 1 (nx s 1 (0, false)) = (2, false)
        rw [e1, nx_yes (by omega)]
      · show R9 s = hd9 s
        unfold R9 hd9
        rw [e1, at1 (by omega), at1 (by omega)]
  · have go : ∀ e : (pQ 10 s).2 = false, 14 ≤ s.size := fun e => by
      have e : (nx s 8 (nx s 1 (nx s 1 (nx s 2 (nx s 1 (nx s 1 (0, false))))))).2 = false := e
      obtain ⟨f5, g5, _⟩ := nx_was e
      obtain ⟨f4, g4, w4⟩ := nx_was f5
      obtain ⟨f3, g3, w3⟩ := nx_was f4
      obtain ⟨f2, g2, w2⟩ := nx_was f3
      obtain ⟨f1, g1, w1⟩ := nx_was f2
      obtain ⟨_, g0, w0⟩ := nx_was f1
      rw [w4] at g5
      rw [w3] at g5
      rw [w2] at g5
      rw [w1] at g5
      rw [w0] at g5
      simp only [] at g5
      omega
    refine ⟨fun h => ?_, fun h => ?_⟩
    · cases e : (pQ 10 s).2
      · have := go e
        have : s.size < 14 := h
        omega
      · rfl
    · have h14 : 14 ≤ s.size := by have : ¬ s.size < 14 := h; omega
      have e1 : nx s 1 (0, false) = (1, false) := nx_yes (by omega)
      have e2 : nx s 1 (1, false) = (2, false) := nx_yes (by omega)
      have e3 : nx s 2 (2, false) = (4, false) := nx_yes (by omega)
      have e4 : nx s 1 (4, false) = (5, false) := nx_yes (by omega)
      have e5 : nx s 1 (5, false) = (6, false) := nx_yes (by omega)
      have e6 : nx s 8 (6, false) = (14, false) := nx_yes (by omega)
      refine ⟨?_, ?_⟩
      · show nx s 8 (nx s 1 (nx s 1 (nx s 2 (nx s 1 (nx s 1 (0, false)))))) = (14, false)
        rw [e1, e2, e3, e4, e5, e6]
      · show R10 s = hd10 s
        unfold R10 hd10
        rw [e1, e2, e3, e4, e5, at1 (by omega), at1 (by omega), at2 (by omega), at1 (by omega), t_yes (by omega)]
/-- What update answers. -/
def pU (s : ByteArray) : Nat × Bool := nx s 2 (nx s 2 (nx s 2 (nx s 1 (nx s 1 (nx s 1 (nx s 1 (0, false)))))))
theorem isU (s : ByteArray) : (s.size < 10 → (pU s).2 = true) ∧ (¬ s.size < 10 → pU s = (10, false) ∧ R8 s = hdK s) := by
  refine ⟨fun h => ?_, fun h => ?_⟩
  · cases e : (pU s).2
    · have e : (nx s 2 (nx s 2 (nx s 2 (nx s 1 (nx s 1 (nx s 1 (nx s 1 (0, false)))))))).2 = false := e
      obtain ⟨f6, g6, _⟩ := nx_was e
      obtain ⟨f5, g5, w5⟩ := nx_was f6
      obtain ⟨f4, g4, w4⟩ := nx_was f5
      obtain ⟨f3, g3, w3⟩ := nx_was f4
      obtain ⟨f2, g2, w2⟩ := nx_was f3
      obtain ⟨f1, g1, w1⟩ := nx_was f2
      obtain ⟨_, g0, w0⟩ := nx_was f1
      rw [w5] at g6
      rw [w4] at g6
      rw [w3] at g6
      rw [w2] at g6
      rw [w1] at g6
      rw [w0] at g6
      simp only [] at g6
      omega
    · rfl
  · have e1 : nx s 1 (0, false) = (1, false) := nx_yes (by omega)
    have e2 : nx s 1 (1, false) = (2, false) := nx_yes (by omega)
    have e3 : nx s 1 (2, false) = (3, false) := nx_yes (by omega)
    have e4 : nx s 1 (3, false) = (4, false) := nx_yes (by omega)
    have e5 : nx s 2 (4, false) = (6, false) := nx_yes (by omega)
    have e6 : nx s 2 (6, false) = (8, false) := nx_yes (by omega)
    have e7 : nx s 2 (8, false) = (10, false) := nx_yes (by omega)
    refine ⟨?_, ?_⟩
    · show nx s 2 (nx s 2 (nx s 2 (nx s 1 (nx s 1 (nx s 1 (nx s 1 (0, false))))))) = (10, false)
      rw [e1, e2, e3, e4, e5, e6, e7]
    · unfold R8 hdK
      rw [e1, e2, e3, e4, e5, e6, at1 (by omega), at1 (by omega), at1 (by omega), at1 (by omega), at2 (by omega), at2 (by omega), at2 (by omega)]
/-- The cells of what stands behind the fields. -/
def cellsN (x : En) (sa : Option Addr) (sc : Nat) : Array Value := #[.string x.bytes, .slice sa x.sl.length sc, .bool x.known]
theorem oneN (x : En) (sa : Option Addr) (sc : Nat) : ((cellsN x sa sc).all fun x => x.oneCell') = true := by simp [cellsN, Value.oneCell']
theorem shN : Sh Tryd.prog 111 3 := ⟨_, Tryd.underlying111, by kernel_rfl⟩
theorem wpList_storeN {ops : Array Oper} {rest : List Oper} {o : Oper} {a : Act} {w : World} {Q : Exit → Act → World → Prop} (hgd : o.guard = none) (x y : Operand) (ho : o.op = .store 111 x y) {b : Nat} (hx : a.eval x = .pointer (some ⟨b, 0, none⟩)) (m' : En) (sa : Option Addr) (sc : Nat) {m : En} {sa0 : Option Addr} {sc0 : Nat} (hy : a.eval y = .agg (cellsN m' sa sc)) (hb : Bk 111 w b (cellsN m sa0 sc0))
    (h : wpList Tryd.prog ops Q rest (a.put o.dst undef) (w.setRow b (cellsN m' sa sc))) : wpList Tryd.prog ops Q (o :: rest) a w := wpList_storeK shN hgd x y ho hx hy hb rfl rfl (oneN m' sa sc) h
/-- What ending answers. -/
def AnsE (o : En × Bool × Int) (b : Nat) (w : World) (e : Ending) (w' : World) : Prop :=
  ∃ sa sc, e = .returned (.tuple #[.agg (cellsN o.1 sa sc), .bool o.2.1, .int .i64 o.2.2]) ∧ Sx.Lst w.heap.size w' (.slice sa o.1.sl.length sc) o.1.sl ∧ Bel w.heap.size b w w'
theorem AnsE.no {o : En × Bool × Int} {b : Nat} {w w' : World} {d : Int} (h : o = (En.zero, false, d)) (hb : Bel w.heap.size b w w') : AnsE o b w (.returned (.tuple #[.agg (cellsN En.zero none 0), .bool false, .int .i64 d])) w' := by
  subst h
  exact ⟨none, 0, rfl, Sx.Lst.nil _ _, hb⟩
theorem AnsE.yes {o : En × Bool × Int} {b B : Nat} {w w' : World} {x : En} {sa : Option Addr} {sc : Nat} (h : o = (x, true, 0)) (hl : Sx.Lst B w' (.slice sa x.sl.length sc) x.sl) (hB : w.heap.size ≤ B) (hb : Bel w.heap.size b w w') : AnsE o b w (.returned (.tuple #[.agg (cellsN x sa sc), .bool true, .int .i64 0])) w' := by
  subst h
  exact ⟨sa, sc, rfl, lst_mono hl hB, hb⟩
set_option maxHeartbeats 6400000 in
theorem ending_bad (s : ByteArray) (a b : Nat) (ae p om : Int) (o : En × Bool × Int) (ho : o = (En.zero, false, 2)) (w : World) (hb : Bk 108 w b (cu s (a, true))) :
    Calls Tryd.prog 75 #[.pointer (some ⟨b, 0, none⟩), .int .i64 ae, .int .i64 p, .int .i64 om] w (AnsE o b w) := by
  have HY := Lib.hid ho
  have HR := Lib.hid hb
  clear ho hb
  go_enter Tryd.func75, Tryd.ntmps75
  go_upto_region 1 with fail
  change Code.wp _ _ _ _ (w.alloc (.cells (cellsN En.zero none 0) 111))
  have hz := alloc_size w (.cells (cellsN En.zero none 0) 111)
  have X0 := Lib.hid (Bk.Bk.new 111 w (cellsN En.zero none 0))
  have HL := Lib.hid (show Bel w.heap.size b w (w.alloc (.cells (cellsN En.zero none 0) 111)) from Bel.of (balloc (Below.refl _ w) _))
  have R0 := Lib.hid (HR.out.old (.cells (cellsN En.zero none 0) 111))
  have hlt := HR.out.lt
  clear HR
  generalize w.alloc (.cells (cellsN En.zero none 0) 111) = W at *
  have c3 := R0.out.cell 3 (.bool true) rfl
  go_wp2_with (first | (refine wpList_builtK rfl 111 _ rfl (cellsN En.zero none 0) (by kernel_rfl) ?_) | (refine wpList_storeN (b := w.heap.size) rfl _ _ rfl rfl En.zero none 0 (m := En.zero) rfl X0.out ?_))
  exact bodyPost_ret (v := .tuple #[.agg (cellsN En.zero none 0), .bool false, .int .i64 2]) (results_three rfl _ _ w.heap.size _ rfl (loadVarK shN (X0.out.put (cellsN En.zero none 0)) rfl) (.bool false) rfl (.int .i64 2) rfl) rfl (AnsE.no HY.out (HL.out.row (Nat.le_refl _) _))
set_option maxHeartbeats 12800000 in
theorem ending_any (s : ByteArray) (z b : Nat) (ae p om : Int) (hs : s.size ≤ 100000) (hz1 : z ≤ s.size) (h0 : 0 ≤ ae) (h1 : 0 ≤ om) (h2 : om ≤ 255) (w : World) (hb : Bk 108 w b (cu s (z, false))) (ht : Tab w) (hb0 : 1 < b) :
    Calls Tryd.prog 75 #[.pointer (some ⟨b, 0, none⟩), .int .i64 ae, .int .i64 p, .int .i64 om] w (AnsE (endE s z ae p om) b w) := by
  have hm : s.size ≤ maxLen := by unfold maxLen; omega
  have hzz : ¬ s.size < z := by omega
  have HR := Lib.hid hb
  have HT := Lib.hid ht
  have PA := Lib.hid (fun V => ae_any ae V)
  have PN := Lib.hid (fun V (h : Tab V) => length_any ae p V h)
  have hw0 := ht.pos
  clear hb ht
  by_cases k : 3 < ae
  · have HY := Lib.hid (end_none (p := p) (om := om) hzz k)
    rw [decide_eq_false (by omega)] at PA
    generalize endE s z ae p om = o at *
    go_enter Tryd.func75, Tryd.ntmps75
    go_upto_region 1 with fail
    change Code.wp _ _ _ _ (w.alloc (.cells (cellsN En.zero none 0) 111))
    have hz := alloc_size w (.cells (cellsN En.zero none 0) 111)
    have X0 := Lib.hid (Bk.Bk.new 111 w (cellsN En.zero none 0))
    have HL := Lib.hid (show Bel w.heap.size b w (w.alloc (.cells (cellsN En.zero none 0) 111)) from Bel.of (balloc (Below.refl _ w) _))
    have R0 := Lib.hid (HR.out.old (.cells (cellsN En.zero none 0) 111))
    have hlt := HR.out.lt
    clear HR
    generalize w.alloc (.cells (cellsN En.zero none 0) 111) = W at *
    have c3 := R0.out.cell 3 (.bool false) rfl
    go_wp2_with fail
    refine (PA.out _).mono ?_
    rintro e w' ⟨rfl, rfl⟩
    go_wp2_with (first | (refine wpList_builtK rfl 111 _ rfl (cellsN En.zero none 0) (by kernel_rfl) ?_) | (refine wpList_storeN (b := w.heap.size) rfl _ _ rfl rfl En.zero none 0 (m := En.zero) rfl X0.out ?_))
    exact bodyPost_ret (v := .tuple #[.agg (cellsN En.zero none 0), .bool false, .int .i64 0]) (results_three rfl _ _ w.heap.size _ rfl (loadVarK shN (X0.out.put (cellsN En.zero none 0)) rfl) (.bool false) rfl (.int .i64 0) rfl) rfl (AnsE.no HY.out (HL.out.row (Nat.le_refl _) _))
  rw [decide_eq_true (by omega)] at PA
  cases g1 : lenB ae p
  · have HY := Lib.hid (end_range (om := om) hzz k (.inl g1))
    rw [g1] at PN
    clear g1
    generalize endE s z ae p om = o at *
    go_enter Tryd.func75, Tryd.ntmps75
    go_upto_region 1 with fail
    change Code.wp _ _ _ _ (w.alloc (.cells (cellsN En.zero none 0) 111))
    have hz := alloc_size w (.cells (cellsN En.zero none 0) 111)
    have X0 := Lib.hid (Bk.Bk.new 111 w (cellsN En.zero none 0))
    have HL := Lib.hid (show Bel w.heap.size b w (w.alloc (.cells (cellsN En.zero none 0) 111)) from Bel.of (balloc (Below.refl _ w) _))
    have R0 := Lib.hid (HR.out.old (.cells (cellsN En.zero none 0) 111))
    have hlt := HR.out.lt
    clear HR
    generalize w.alloc (.cells (cellsN En.zero none 0) 111) = W at *
    have c3 := R0.out.cell 3 (.bool false) rfl
    go_wp2_with fail
    refine (PA.out _).mono ?_
    rintro e w' ⟨rfl, rfl⟩
    go_wp2_with fail
    refine (PN.out _ (HL.out.tab hw0 hb0 HT.out)).mono ?_
    rintro e w' ⟨rfl, rfl⟩
    go_wp2_with (first | (refine wpList_builtK rfl 111 _ rfl (cellsN En.zero none 0) (by kernel_rfl) ?_) | (refine wpList_storeN (b := w.heap.size) rfl _ _ rfl rfl En.zero none 0 (m := En.zero) rfl X0.out ?_))
    exact bodyPost_ret (v := .tuple #[.agg (cellsN En.zero none 0), .bool false, .int .i64 6]) (results_three rfl _ _ w.heap.size _ rfl (loadVarK shN (X0.out.put (cellsN En.zero none 0)) rfl) (.bool false) rfl (.int .i64 6) rfl) rfl (AnsE.no HY.out (HL.out.row (Nat.le_refl _) _))
  rw [g1] at PN
  have PC := Lib.hid (fun V => count_any ae p V g1)
  have hc16 := (count_le g1).1
  by_cases g2 : (countN ae p : Int) < om
  · have HY := Lib.hid (end_range hzz k (.inr g2))
    clear g1
    generalize endE s z ae p om = o at *
    generalize countN ae p = c at *
    go_enter Tryd.func75, Tryd.ntmps75
    go_upto_region 1 with fail
    change Code.wp _ _ _ _ (w.alloc (.cells (cellsN En.zero none 0) 111))
    have hz := alloc_size w (.cells (cellsN En.zero none 0) 111)
    have X0 := Lib.hid (Bk.Bk.new 111 w (cellsN En.zero none 0))
    have HL := Lib.hid (show Bel w.heap.size b w (w.alloc (.cells (cellsN En.zero none 0) 111)) from Bel.of (balloc (Below.refl _ w) _))
    have R0 := Lib.hid (HR.out.old (.cells (cellsN En.zero none 0) 111))
    have hlt := HR.out.lt
    clear HR
    generalize w.alloc (.cells (cellsN En.zero none 0) 111) = W at *
    have c3 := R0.out.cell 3 (.bool false) rfl
    go_wp2_with fail
    refine (PA.out _).mono ?_
    rintro e w' ⟨rfl, rfl⟩
    go_wp2_with fail
    refine (PN.out _ (HL.out.tab hw0 hb0 HT.out)).mono ?_
    rintro e w' ⟨rfl, rfl⟩
    go_wp2_with fail
    refine (PC.out _).mono ?_
    rintro e w' ⟨rfl, rfl⟩
    go_wp2_with (first | (refine wpList_builtK rfl 111 _ rfl (cellsN En.zero none 0) (by kernel_rfl) ?_) | (refine wpList_storeN (b := w.heap.size) rfl _ _ rfl rfl En.zero none 0 (m := En.zero) rfl X0.out ?_))
    exact bodyPost_ret (v := .tuple #[.agg (cellsN En.zero none 0), .bool false, .int .i64 6]) (results_three rfl _ _ w.heap.size _ rfl (loadVarK shN (X0.out.put (cellsN En.zero none 0)) rfl) (.bool false) rfl (.int .i64 6) rfl) rfl (AnsE.no HY.out (HL.out.row (Nat.le_refl _) _))
  obtain ⟨n, hn⟩ : ∃ n, countN ae p - om.toNat = n := ⟨_, rfl⟩
  have hr : restN z ae p om = z + n := by unfold restN; rw [hn]
  have hni : (countN ae p : Int) - om = (n : Int) := by omega
  have hw : wrap64 ((countN ae p : Int) - om) = (n : Int) := by rw [IntWalk.wrap64_in _ ⟨by omega, by omega⟩, hni]
  have PT := Lib.hid (fun V (h : Bk 108 V b (cu s (z, false))) => rdtext s (z, false) n b n rfl hm hz1 V h)
  by_cases c2 : s.size < z + n
  · have HY := Lib.hid (end_cut hzz k g1 g2 (by rw [hr]; exact c2))
    rw [nx_no (by omega)] at PT
    clear g1 hr hn
    generalize endE s z ae p om = o at *
    generalize countN ae p = c at *
    generalize rdT s (z, false) n = tx at *
    go_enter Tryd.func75, Tryd.ntmps75
    go_upto_region 1 with fail
    change Code.wp _ _ _ _ (w.alloc (.cells (cellsN En.zero none 0) 111))
    have hz := alloc_size w (.cells (cellsN En.zero none 0) 111)
    have X0 := Lib.hid (Bk.Bk.new 111 w (cellsN En.zero none 0))
    have HL := Lib.hid (show Bel w.heap.size b w (w.alloc (.cells (cellsN En.zero none 0) 111)) from Bel.of (balloc (Below.refl _ w) _))
    have R0 := Lib.hid (HR.out.old (.cells (cellsN En.zero none 0) 111))
    have hlt := HR.out.lt
    clear HR
    generalize w.alloc (.cells (cellsN En.zero none 0) 111) = W at *
    have c3 := R0.out.cell 3 (.bool false) rfl
    go_wp2_with fail
    refine (PA.out _).mono ?_
    rintro e w' ⟨rfl, rfl⟩
    go_wp2_with fail
    refine (PN.out _ (HL.out.tab hw0 hb0 HT.out)).mono ?_
    rintro e w' ⟨rfl, rfl⟩
    go_wp2_with fail
    refine (PC.out _).mono ?_
    rintro e w' ⟨rfl, rfl⟩
    go_wp2_with fail
    refine (PC.out _).mono ?_
    rintro e w' ⟨rfl, rfl⟩
    go_wp2_with fail
    refine (PT.out _ R0.out).mono ?_
    rintro e w2 ⟨rfl, hr2, hbel⟩
    have X0 := Lib.hid (hbel.bk (by omega) X0.out)
    have hWs := HL.out.size
    have HL := Lib.hid (HL.out.trans (hbel.mono (by omega)))
    have R0 := Lib.hid hr2
    clear hr2 hbel c3 PT
    have c3 := R0.out.cell 3 (.bool true) rfl
    go_wp2_with (first | (refine wpList_builtK rfl 111 _ rfl (cellsN En.zero none 0) (by kernel_rfl) ?_) | (refine wpList_storeN (b := w.heap.size) rfl _ _ rfl rfl En.zero none 0 (m := En.zero) rfl X0.out ?_))
    exact bodyPost_ret (v := .tuple #[.agg (cellsN En.zero none 0), .bool false, .int .i64 2]) (results_three rfl _ _ w.heap.size _ rfl (loadVarK shN (X0.out.put (cellsN En.zero none 0)) rfl) (.bool false) rfl (.int .i64 2) rfl) rfl (AnsE.no HY.out (HL.out.row (Nat.le_refl _) _))
  have hle : z + n ≤ s.size := by omega
  rw [nx_yes hle, t_yes hle] at PT
  have PR := Lib.hid (fun V r => rest_any s (z + n) b hm hle V r)
  have PS := Lib.hid (fun V => S5.get_own (s.extract (z + n) s.size) V (by simp; omega))
  obtain ⟨⟨l, kn, er⟩, ho⟩ : ∃ q, outS (s.extract (z + n) s.size) = q := ⟨_, rfl⟩
  rw [ho] at PS
  rw [← hr] at ho
  by_cases he : er = 0
  rotate_left
  · have HY := Lib.hid (end_sub hzz k g1 g2 (by rw [hr]; exact c2) ho he)
    have e1 : (er == 0) = false := by simpa using he
    have e2 : (er != 0) = true := by rw [bne, e1]; rfl
    clear g1 hr hn ho he
    generalize endE s z ae p om = o at *
    generalize countN ae p = c at *
    generalize s.extract z (z + n) = tx at *
    generalize s.extract (z + n) s.size = rx at *
    go_enter Tryd.func75, Tryd.ntmps75
    go_upto_region 1 with fail
    change Code.wp _ _ _ _ (w.alloc (.cells (cellsN En.zero none 0) 111))
    have hz := alloc_size w (.cells (cellsN En.zero none 0) 111)
    have X0 := Lib.hid (Bk.Bk.new 111 w (cellsN En.zero none 0))
    have HL := Lib.hid (show Bel w.heap.size b w (w.alloc (.cells (cellsN En.zero none 0) 111)) from Bel.of (balloc (Below.refl _ w) _))
    have R0 := Lib.hid (HR.out.old (.cells (cellsN En.zero none 0) 111))
    have hlt := HR.out.lt
    clear HR
    generalize w.alloc (.cells (cellsN En.zero none 0) 111) = W at *
    have c3 := R0.out.cell 3 (.bool false) rfl
    go_wp2_with fail
    refine (PA.out _).mono ?_
    rintro e w' ⟨rfl, rfl⟩
    go_wp2_with fail
    refine (PN.out _ (HL.out.tab hw0 hb0 HT.out)).mono ?_
    rintro e w' ⟨rfl, rfl⟩
    go_wp2_with fail
    refine (PC.out _).mono ?_
    rintro e w' ⟨rfl, rfl⟩
    go_wp2_with fail
    refine (PC.out _).mono ?_
    rintro e w' ⟨rfl, rfl⟩
    go_wp2_with fail
    refine (PT.out _ R0.out).mono ?_
    rintro e w2 ⟨rfl, hr2, hbel⟩
    have X0 := Lib.hid (hbel.bk (by omega) X0.out)
    have hWs := HL.out.size
    have HL := Lib.hid (HL.out.trans (hbel.mono (by omega)))
    have R0 := Lib.hid hr2
    clear hr2 hbel c3 PT
    have c3 := R0.out.cell 3 (.bool false) rfl
    go_wp2_with fail
    refine (PR.out _ R0.out).mono ?_
    rintro e w3 ⟨rfl, hr3, hbel⟩
    have hWs2 := X0.out.lt
    have X0 := Lib.hid (hbel.bk (by omega) X0.out)
    have hWs3 := HL.out.size
    have HL := Lib.hid (HL.out.trans (hbel.mono (by omega)))
    clear hr3 hbel c3 PR R0
    go_wp2_with fail
    refine (PS.out _).mono ?_
    rintro e w4 ⟨sa, sc, rfl, hl, hb⟩
    have hWs4 := X0.out.lt
    have hWs5 := HL.out.size
    have X0 := Lib.hid (X0.out.below hb)
    have HL := Lib.hid (HL.out.trans ((Bel.of hb).mono (by omega)))
    have HK := Lib.hid hl
    clear hb hl PS
    simp only [] at HK
    go_wp2_with (first | (refine wpList_builtK rfl 111 _ rfl (cellsN En.zero none 0) (by kernel_rfl) ?_) | (refine wpList_storeN (b := w.heap.size) rfl _ _ rfl rfl En.zero none 0 (m := En.zero) rfl X0.out ?_))
    exact bodyPost_ret (v := .tuple #[.agg (cellsN En.zero none 0), .bool false, .int .i64 er]) (results_three rfl _ _ w.heap.size _ rfl (loadVarK shN (X0.out.put (cellsN En.zero none 0)) rfl) (.bool false) rfl (.int .i64 er) rfl) rfl (AnsE.no HY.out (HL.out.row (Nat.le_refl _) _))
  subst he
  have HY := Lib.hid (end_yes hzz k g1 g2 (by rw [hr]; exact c2) ho)
  rw [hr] at HY
  clear g1 hr hn ho
  generalize endE s z ae p om = o at *
  generalize countN ae p = c at *
  generalize s.extract z (z + n) = tx at *
  generalize s.extract (z + n) s.size = rx at *
  go_enter Tryd.func75, Tryd.ntmps75
  go_upto_region 1 with fail
  change Code.wp _ _ _ _ (w.alloc (.cells (cellsN En.zero none 0) 111))
  have hz := alloc_size w (.cells (cellsN En.zero none 0) 111)
  have X0 := Lib.hid (Bk.Bk.new 111 w (cellsN En.zero none 0))
  have HL := Lib.hid (show Bel w.heap.size b w (w.alloc (.cells (cellsN En.zero none 0) 111)) from Bel.of (balloc (Below.refl _ w) _))
  have R0 := Lib.hid (HR.out.old (.cells (cellsN En.zero none 0) 111))
  have hlt := HR.out.lt
  clear HR
  generalize w.alloc (.cells (cellsN En.zero none 0) 111) = W at *
  have c3 := R0.out.cell 3 (.bool false) rfl
  go_wp2_with fail
  refine (PA.out _).mono ?_
  rintro e w' ⟨rfl, rfl⟩
  go_wp2_with fail
  refine (PN.out _ (HL.out.tab hw0 hb0 HT.out)).mono ?_
  rintro e w' ⟨rfl, rfl⟩
  go_wp2_with fail
  refine (PC.out _).mono ?_
  rintro e w' ⟨rfl, rfl⟩
  go_wp2_with fail
  refine (PC.out _).mono ?_
  rintro e w' ⟨rfl, rfl⟩
  go_wp2_with fail
  refine (PT.out _ R0.out).mono ?_
  rintro e w2 ⟨rfl, hr2, hbel⟩
  have X0 := Lib.hid (hbel.bk (by omega) X0.out)
  have hWs := HL.out.size
  have HL := Lib.hid (HL.out.trans (hbel.mono (by omega)))
  have R0 := Lib.hid hr2
  clear hr2 hbel c3 PT
  have c3 := R0.out.cell 3 (.bool false) rfl
  go_wp2_with fail
  refine (PR.out _ R0.out).mono ?_
  rintro e w3 ⟨rfl, hr3, hbel⟩
  have hWs2 := X0.out.lt
  have X0 := Lib.hid (hbel.bk (by omega) X0.out)
  have hWs3 := HL.out.size
  have HL := Lib.hid (HL.out.trans (hbel.mono (by omega)))
  clear hr3 hbel c3 PR R0
  go_wp2_with fail
  refine (PS.out _).mono ?_
  rintro e w4 ⟨sa, sc, rfl, hl, hb⟩
  have hWs4 := X0.out.lt
  have hWs5 := HL.out.size
  have X0 := Lib.hid (X0.out.below hb)
  have HL := Lib.hid (HL.out.trans ((Bel.of hb).mono (by omega)))
  have HK := Lib.hid hl
  clear hb hl PS
  simp only [] at HK
  go_wp2_with (first | (refine wpList_builtK rfl 111 _ rfl (cellsN ⟨tx, l, kn⟩ sa sc) (by kernel_rfl) ?_) | (refine wpList_storeN (b := w.heap.size) rfl _ _ rfl rfl ⟨tx, l, kn⟩ sa sc (m := En.zero) rfl X0.out ?_))
  exact bodyPost_ret (v := .tuple #[.agg (cellsN ⟨tx, l, kn⟩ sa sc), .bool true, .int .i64 0]) (results_three rfl _ _ w.heap.size _ rfl (loadVarK shN (X0.out.put (cellsN ⟨tx, l, kn⟩ sa sc)) rfl) (.bool true) rfl (.int .i64 0) rfl) rfl (AnsE.yes HY.out (lst_under HK.out hWs4 _) hWs5 (HL.out.row (Nat.le_refl _) _))
/-- Both. -/
theorem ending_is (s : ByteArray) (z b : Nat) (q : Nat × Bool) (ae p om : Int) (hs : s.size ≤ 100000) (hq : (s.size < z → q.2 = true) ∧ (¬ s.size < z → q = (z, false) ∧ 0 ≤ ae ∧ 0 ≤ om ∧ om ≤ 255)) (w : World) (hb : Bk 108 w b (cu s q)) (ht : Tab w) (hb0 : 1 < b) :
    Calls Tryd.prog 75 #[.pointer (some ⟨b, 0, none⟩), .int .i64 ae, .int .i64 p, .int .i64 om] w (AnsE (endE s z ae p om) b w) := by
  by_cases h : s.size < z
  · obtain ⟨a, y⟩ := q
    obtain rfl : y = true := hq.1 h
    exact ending_bad s a b ae p om _ (end_short h) w hb
  · obtain ⟨rfl, h0, h1, h2⟩ := hq.2 h
    exact ending_any s z b ae p om hs (by omega) h0 h1 h2 w hb ht hb0
end Go.Proofs.YteecialdkfaejaaDoor.J5
