/-
  The program's cutting off of one extension, and its Get; the document's Get. Condition: at most 2^20 bytes.
-/
import Derived.Test.YtlelfapmleopaaaXv
import Derived.Test.YtlelfapmleopaaaP5
namespace Go.Proofs.Ytlelfapmleopaaa.Xc
open Go.ChangeShapes Go.WideShapes Go.ChangeAt Go.RowKit
open Go.Proofs.Ytlelfapmleopaaa.Ms
open Go.Proofs.Ytlelfapmleopaaa.Xv
open Go.Proofs.Ytlelfapmleopaaa.Sx
open Go.Proofs.Ytlelfapmleopaaa.Hs
open Go.Proofs.Ytlelfapmleopaaa.Hx
open Go.Proofs.Ytlelfapmleopaaa.Cnt
open Go.Proofs.Ytlelfapmleopaaa.Bk (Bk Sh loadVarK wpList_builtK wpList_loadK wpList_storeK run_loadK below_setRow)
set_option linter.unusedVariables false
set_option maxRecDepth 100000
set_option maxRecDepth 100000

theorem idx (b : ByteArray) (k : Nat) (i : Int) (hi : i = k) (h : k < b.size) (W : World) : (Instr.index 9 (.string b) (.int .i64 i)).run Try.prog W = .ok (.int .u8 (bt b k)) W := by
  subst hi
  rw [run_index_string W 9 b .i64 (k : Int) Try.underlying9, dif_pos ⟨by omega, by omega⟩, ← bt_eq b k h]
  rfl
theorem sl_m (s : ByteArray) (i j : Int) (lo hi : Nat) (hi' : i = lo) (hj : j = hi) (h1 : lo ≤ hi) (h2 : hi ≤ s.size) (W : World) :
    (Instr.slice 9 (.string s) (some (.int .i64 i)) (some (.int .i64 j)) none).run Try.prog W = .ok (.string (s.extract lo hi)) W := by
  subst hi' hj
  have := run_slice_string (P := Try.prog) W 9 s .i64 .i64 (lo : Int) (hi : Int) Try.underlying9 (by omega) (by omega) (by omega)
  simpa using this
theorem sl_l (s : ByteArray) (i : Int) (lo hi : Nat) (hi' : i = lo) (h1 : lo ≤ s.size) (hs : s.size = hi) (W : World) :
    (Instr.slice 9 (.string s) (some (.int .i64 i)) none none).run Try.prog W = .ok (.string (s.extract lo hi)) W := by
  subst hi' hs
  have := run_slice_string_l (P := Try.prog) (t := 9) (s := s) W Try.underlying9 .i64 (lo : Int) (by omega) (by omega)
  simpa using this
theorem results_three {P : Program} {fn : Func} {p q r : Nat} {ty : TypeId} (h : fn.results = #[.cell p ty, .tmp q, .tmp r]) (tmps : Array Value) (w : World) (g : Nat) (u : Value)
    (hp : tmps.getD p undef = .pointer (some ⟨g, 0, none⟩)) (hl : (loadVar ty ⟨g, 0, none⟩).run P w = .ok u w) (v : Value) (hv : tmps.getD q undef = v) (x : Value) (hx : tmps.getD r undef = x) :
    (results fn tmps).run P w = .ok (.tuple #[u, v, x]) w := by
  have hp' : tmps[p]?.getD undef = .pointer (some ⟨g, 0, none⟩) := by simpa using hp
  have hv' : tmps[q]?.getD undef = v := by simpa using hv
  have hx' : tmps[r]?.getD undef = x := by simpa using hx
  simp [results, h, hp', hv', hx', asAddr, hl]
def zeroS : El := (⟨#[]⟩, 0)

set_option maxHeartbeats 1600000 in
theorem cut_no (b : ByteArray) (w : World) (hs : b.size ≤ 1048576) (h : cut1 b.data.toList = none) :
    Calls Try.prog 75 #[.string b] w fun e w' => e = .returned (.tuple #[.agg (cellsS zeroS), .string ⟨#[]⟩, .bool false]) ∧ Below w.heap.size w w' := by
  have B0 := Lib.hid (Bk.Bk.new 52 w #[.int .i64 0, .string ⟨#[]⟩])
  have hb := Lib.hid (below_setRow ((Below.refl w.heap.size w).alloc (Nat.le_refl _) (.cells #[.int .i64 0, .string ⟨#[]⟩] 52)) (Nat.le_refl _) (cellsS zeroS))
  obtain ⟨-, h2 | ⟨h2, h3⟩⟩ := at_none (s := b) (a := []) (p := 0) rfl rfl h
  · have h2 : b.size < 2 := by omega
    clear h hs
    go_enter Try.func75, Try.ntmps75
    go_wp2_with (first | (refine wpList_builtK rfl 52 _ rfl (cellsS zeroS) (by kernel_rfl) ?_) | (refine wpList_storeK (b := w.heap.size) shS rfl _ _ rfl rfl rfl B0.out rfl rfl (oneS zeroS) ?_))
    exact bodyPost_ret (v := .tuple #[.agg (cellsS zeroS), .string ⟨#[]⟩, .bool false]) (results_three (ty := 52) rfl _ _ w.heap.size (.agg (cellsS zeroS)) rfl (loadVarK shS (B0.out.put (cellsS zeroS)) rfl) (.string ⟨#[]⟩) rfl (.bool false) rfl) rfl ⟨rfl, hb.out⟩
  · have h2 : 2 ≤ b.size := by omega
    have hbs : (b.size : Int) ≤ 1048576 := by omega
    clear h hs
    have h3 : (b.size : Int) < 2 + bt b 1 := by simpa using h3
    have j1 := idx b 1 1 rfl (by omega)
    have v1 := conv8 (bt b 1) (bt_nn _ _) (bt_lt _ _)
    have k1 := bt_nn b 1
    have k2 := bt_lt b 1
    generalize bt b 1 = n at *
    go_enter Try.func75, Try.ntmps75
    go_wp2_with (first | (refine wpList_builtK rfl 52 _ rfl (cellsS zeroS) (by kernel_rfl) ?_) | (refine wpList_storeK (b := w.heap.size) shS rfl _ _ rfl rfl rfl B0.out rfl rfl (oneS zeroS) ?_))
    exact bodyPost_ret (v := .tuple #[.agg (cellsS zeroS), .string ⟨#[]⟩, .bool false]) (results_three (ty := 52) rfl _ _ w.heap.size (.agg (cellsS zeroS)) rfl (loadVarK shS (B0.out.put (cellsS zeroS)) rfl) (.string ⟨#[]⟩) rfl (.bool false) rfl) rfl ⟨rfl, hb.out⟩

set_option maxHeartbeats 3200000 in
theorem cut_yes (b : ByteArray) (x : El) (r : List UInt8) (w : World) (hs : b.size ≤ 1048576) (h : cut1 b.data.toList = some (x, r)) :
    Calls Try.prog 75 #[.string b] w fun e w' => e = .returned (.tuple #[.agg (cellsS x), .string ⟨r.toArray⟩, .bool true]) ∧ Below w.heap.size w w' := by
  have B0 := Lib.hid (Bk.Bk.new 52 w #[.int .i64 0, .string ⟨#[]⟩])
  have hb := Lib.hid (below_setRow ((Below.refl w.heap.size w).alloc (Nat.le_refl _) (.cells #[.int .i64 0, .string ⟨#[]⟩] 52)).drew (Nat.le_refl _) (cellsS x))
  obtain ⟨hz, e0, e1, e2, e3, _⟩ := at_some (s := b) (a := []) (p := 0) rfl rfl h
  clear h
  rw [Nat.zero_add] at hz e1 e2 e3
  have j0 := idx b 0 0 rfl (by omega)
  have j1 := idx b 1 1 rfl (by omega)
  have v0 := conv8 (bt b 0) (bt_nn _ _) (bt_lt _ _)
  have v1 := conv8 (bt b 1) (bt_nn _ _) (bt_lt _ _)
  have k0 := bt_nn b 0
  have k1 := bt_nn b 1
  have k2 := bt_lt b 1
  rw [e1] at v1 j1 k1 k2
  rw [e0] at v0 j0 k0
  have s2 := sl_m b 2 (2 + (x.1.size : Int)) 2 (2 + x.1.size) rfl (by push_cast; omega) (by omega) (by omega)
  have s3 := sl_l b (2 + (x.1.size : Int)) (2 + x.1.size) b.size (by push_cast; omega) (by omega) rfl
  rw [e2] at s2
  rw [e3] at s3
  have HX := Lib.hid (show cellsS x = #[.int .i64 x.2, .string x.1] from rfl)
  have hlt : ¬ (b.size : Int) < 2 + (x.1.size : Int) := by omega
  have h2 : 2 ≤ b.size := by omega
  have hbs : (b.size : Int) ≤ 1048576 := by omega
  clear hz e0 e1 e2 e3 hs
  go_enter Try.func75, Try.ntmps75
  go_upto_region 6 with fail
  refine wp_region_held_drew (S := fun _ => True) (by kernel_rfl) trivial (fun hS => ?_)
  refine H.tk (i := 0) (v := ?v0) ?h0 hS ?_
  case h0 => (intro w hw; go_simp; first | done | (with_reducible rfl))
  try simp only [Act.put, List.setIfInBounds_toArray, List.set_cons_zero, List.set_cons_succ]
  refine H.tk (i := 1) (v := ?v1) ?h1 hS ?_
  case h1 => (intro w hw; go_simp; first | done | (with_reducible rfl))
  try simp only [Act.put, List.setIfInBounds_toArray, List.set_cons_zero, List.set_cons_succ]
  refine H.tk (i := 2) (v := ?v2) ?h2 hS ?_
  case h2 => (intro w hw; go_simp; first | done | (with_reducible rfl))
  try simp only [Act.put, List.setIfInBounds_toArray, List.set_cons_zero, List.set_cons_succ]
  refine H.tk (i := 3) (v := ?v3) ?h3 hS ?_
  case h3 => (intro w hw; go_simp; first | done | (with_reducible rfl))
  try simp only [Act.put, List.setIfInBounds_toArray, List.set_cons_zero, List.set_cons_succ]
  refine H.tk (i := 4) (v := ?v4) ?h4 hS ?_
  case h4 => (intro w hw; go_simp; first | done | (with_reducible rfl))
  try simp only [Act.put, List.setIfInBounds_toArray, List.set_cons_zero, List.set_cons_succ]
  refine H.tk (i := 5) (v := ?v5) ?h5 hS ?_
  case h5 => (intro w hw; go_simp; first | done | (with_reducible rfl))
  try simp only [Act.put, List.setIfInBounds_toArray, List.set_cons_zero, List.set_cons_succ]
  refine H.tk (i := 6) (v := .agg (cellsS x)) ?h6 hS ?_
  case h6 => exact fun w _ => ex_built rfl (by kernel_rfl)
  try simp only [Act.put, List.setIfInBounds_toArray, List.set_cons_zero, List.set_cons_succ]
  refine H.tk (i := 7) (v := ?v7) ?h7 hS ?_
  case h7 => (intro w hw; go_simp; first | done | (with_reducible rfl))
  try simp only [Act.put, List.setIfInBounds_toArray, List.set_cons_zero, List.set_cons_succ]
  refine H.tk (i := 8) (v := ?v8) ?h8 hS ?_
  case h8 => (intro w hw; go_simp; first | done | (with_reducible rfl))
  try simp only [Act.put, List.setIfInBounds_toArray, List.set_cons_zero, List.set_cons_succ]
  refine H.tk (i := 9) (v := ?v9) ?h9 hS ?_
  case h9 => (intro w hw; go_simp; first | done | (with_reducible rfl))
  try simp only [Act.put, List.setIfInBounds_toArray, List.set_cons_zero, List.set_cons_succ]
  refine H.storeRow (i := 10) (g := w.heap.size) (cells := cellsS x) (by simp only [List.getElem?_toArray, List.getElem?_cons_succ, List.getElem?_cons_zero]; rfl) (by kernel_rfl) rfl rfl (by kernel_rfl) rfl rfl 52 #[.int .i64 0, .string ⟨#[]⟩] B0.out (by kernel_rfl) rfl (oneS x) trivial ?_
  refine H.tk (i := 11) (v := ?v11) ?h11 hS ?_
  case h11 => (intro w hw; go_simp; first | done | (with_reducible rfl))
  try simp only [Act.put, List.setIfInBounds_toArray, List.set_cons_zero, List.set_cons_succ]
  refine H.tk (i := 12) (v := (Value.bool true)) (fun w _ => rfl) hS ?_
  try simp only [Act.put, List.setIfInBounds_toArray, List.set_cons_zero, List.set_cons_succ]
  refine wpAnyH_done (by kernel_rfl) ?_ _
  go_wp2_with fail
  exact bodyPost_ret (v := .tuple #[.agg (cellsS x), .string ⟨r.toArray⟩, .bool true]) (results_three (ty := 52) rfl _ _ w.heap.size (.agg (cellsS x)) rfl (loadVarK shS (B0.out.drew.put (cellsS x)) rfl) (.string ⟨r.toArray⟩) rfl (.bool true) rfl) rfl ⟨rfl, hb.out⟩

/-- The answer: extensions, a place, an error. -/
def Ans (p : List El × Int × Int) (w : World) (e : Ending) (w' : World) : Prop :=
  ∃ a c, e = .returned (.tuple #[.slice a p.1.length c, .int .i64 p.2.1, .int .i64 p.2.2]) ∧ SRow w' a p.1 ∧ Below w.heap.size w w'
theorem Ans.no {p : List El × Int × Int} {w w' : World} {c d : Int} (h : p = ([], c, d)) (hb : Below w.heap.size w w') : Ans p w (.returned (.tuple #[.slice none 0 0, .int .i64 c, .int .i64 d])) w' := by
  subst h
  exact ⟨none, 0, rfl, SRow.nil _ _, hb⟩
theorem Ans.yes {p : List El × Int × Int} {w w' : World} {a : Option Addr} {c n : Nat} {l : List El} (h : p = (l, 0, 0)) (hn : l.length = n) (hl : SRow w' a l) (hb : Below w.heap.size w w') : Ans p w (.returned (.tuple #[.slice a n c, .int .i64 0, .int .i64 0])) w' := by
  subst h hn
  exact ⟨a, c, rfl, hl, hb⟩
/-- The same answer: the list of extensions is the call's own. -/
def AnsL (p : List El × Int × Int) (w : World) (e : Ending) (w' : World) : Prop :=
  ∃ a c, e = .returned (.tuple #[.slice a p.1.length c, .int .i64 p.2.1, .int .i64 p.2.2]) ∧ Lst w.heap.size w' (.slice a p.1.length c) p.1 ∧ Below w.heap.size w w'
theorem AnsL.no {p : List El × Int × Int} {w w' : World} {c d : Int} (h : p = ([], c, d)) (hb : Below w.heap.size w w') : AnsL p w (.returned (.tuple #[.slice none 0 0, .int .i64 c, .int .i64 d])) w' := by
  subst h
  exact ⟨none, 0, rfl, Lst.nil _ _, hb⟩
theorem AnsL.yes {p : List El × Int × Int} {w w' : World} {a : Option Addr} {c n : Nat} {l : List El} (h : p = (l, 0, 0)) (hn : l.length = n) (hl : Lst w.heap.size w' (.slice a n c) l) (hb : Below w.heap.size w w') : AnsL p w (.returned (.tuple #[.slice a n c, .int .i64 0, .int .i64 0])) w' := by
  subst h hn
  exact ⟨a, c, rfl, hl, hb⟩
theorem AnsL.ans {p : List El × Int × Int} {w w' : World} {e : Ending} (h : AnsL p w e w') : Ans p w e w' := by
  obtain ⟨a, c, h1, h2, h3⟩ := h
  exact ⟨a, c, h1, h2.row, h3⟩
def strLen (v : Value) : Nat := match v with | .string x => x.size | _ => 0

set_option maxHeartbeats 3200000 in
theorem get_own (b : ByteArray) (w : World) (hs : b.size ≤ 200000) : Calls Try.prog 55 #[.string b] w (AnsL (outX b) w) := by
  have HS := Lib.hid hs
  clear hs
  go_enter Try.func55, Try.ntmps55
  go_wp2
  go_loopw [5, 6] (fun v rv wr => ∃ (l : List El) (u : ByteArray), rv = .string u ∧ Hid (Lst w.heap.size wr v l) ∧ Hid (okX l = true) ∧ Hid (b.data.toList = encX l ++ u.data.toList) ∧ Hid (Below w.heap.size w wr)) (fun _ rv _ => strLen rv)
  case atStart => exact ⟨[], b, rfl, Lib.hid (Lst.nil _ _), Lib.hid rfl, Lib.hid rfl, Lib.hid (Below.refl _ _)⟩
  case round =>
    obtain ⟨l, u, rfl, HL, HO, HE, HB⟩ := hrel
    have HZ : Hid (b.size = (encX l).length + u.size) := Lib.hid (by rw [size_of HE.out, List.length_append]; rfl)
    by_cases hu : u.data.toList = []
    · have HY := Lib.hid (out_yes HO.out (by rw [HE.out, hu, List.append_nil]))
      have e1 : u.toList = [] := by rw [ByteArray.toList_eq]; exact hu
      obtain ⟨a, c, rfl⟩ := HL.out.slice
      have HW := Lib.hid HL.out
      clear hu HL
      go_wp2
      go_ret3
      exact AnsL.yes HY.out rfl HW.out HB.out
    · have e1 : ¬ u.toList = [] := by rw [ByteArray.toList_eq]; exact hu
      have e2 : (u.toList == []) = false := by simpa using e1
      have e3 : u.toList.isEmpty = false := by simpa using e1
      have HU : Hid (u.size ≤ 1048576) := Lib.hid (by have := HS.out; have := HZ.out; omega)
      cases hc : cut1 u.data.toList with
      | none =>
        have HY := Lib.hid (out_no HO.out HE.out hc hu)
        have PC := Lib.hid (fun W => cut_no u W HU.out hc)
        have HN : Hid (((encX l).length : Int) = wrap64 ((b.size : Int) - (u.size : Int))) := Lib.hid (by have h1 := HZ.out; have h2 := HS.out; clear hu hc; rw [show (b.size : Int) - (u.size : Int) = ((encX l).length : Int) by omega]; exact (IntWalk.wrap64_in ((encX l).length : Int) (by omega)).symm)
        clear hu hc HL HE
        go_wp2_with fail
        refine (PC.out _).mono ?_
        rintro e w1 ⟨rfl, hb⟩
        have HB := Lib.hid (bcall HB.out hb)
        clear hb PC
        have HB := Lib.hid (below_setRow (balloc HB.out (.cells #[.int .i64 0, .string ⟨#[]⟩] 52)) HB.out.size (cellsS zeroS))
        go_wp2_with (first | (refine wpList_storeK (b := w1.heap.size) shS rfl _ _ rfl rfl rfl (Bk.Bk.new 52 w1 #[.int .i64 0, .string ⟨#[]⟩]) rfl rfl (oneS zeroS) ?_))
        rw [HN.out] at HY
        go_ret3
        exact AnsL.no HY.out HB.out
      | some p =>
        obtain ⟨x, r'⟩ := p
        have PC := Lib.hid (fun W => cut_yes u x r' W HU.out hc)
        obtain ⟨ho, he⟩ := cut1_some hc
        have HO := Lib.hid (show okX (l ++ [x]) = true from (okX_append _ _).2 ⟨HO.out, (okX_cons _ _).2 ⟨ho, rfl⟩⟩)
        have HM : Hid (u.size > (⟨r'.toArray⟩ : ByteArray).size) := Lib.hid (by
          rw [size_of he, List.length_append, enc1_len]
          show _ > r'.length
          omega)
        have HE : Hid (b.data.toList = encX (l ++ [x]) ++ (⟨r'.toArray⟩ : ByteArray).data.toList) := Lib.hid (by rw [HE.out, he, encX_append, encX_one, List.append_assoc])
        have HC : Hid (l.length ≤ 100000) := Lib.hid (by have := HS.out; have := HZ.out; have := len_le l; omega)
        clear hu hc ho he HZ HU
        generalize (⟨r'.toArray⟩ : ByteArray) = u' at *
        go_wp2_with fail
        refine (PC.out _).mono ?_
        rintro e w1 ⟨rfl, hb⟩
        have HL := Lib.hid (HL.out.below hb)
        have HB := Lib.hid (bcall HB.out hb)
        clear hb PC
        go_upto_region 5 with (first | (refine wpList_storeK (b := w1.heap.size) shS rfl _ _ rfl rfl rfl (Bk.Bk.new 52 w1 #[.int .i64 0, .string ⟨#[]⟩]) rfl rfl (oneS x) ?_))
        change Code.wp _ _ _ _ ((w1.alloc (.cells #[.int .i64 0, .string ⟨#[]⟩] 52)).setRow w1.heap.size (cellsS x))
        rw [World.setRow_alloc_new]
        have HL := Lib.hid (HL.out.below (balloc (Below.refl _ w1) (.cells (cellsS x) 52)))
        have HB := Lib.hid (balloc HB.out (.cells (cellsS x) 52))
        have HX := Lib.hid (Bk.Bk.new 52 w1 (cellsS x))
        generalize w1.alloc (.cells (cellsS x) 52) = W2 at *
        generalize w1.heap.size = g at *
        go_upto_region 8 with (first | (refine wpList_loadK (b := g) shS rfl _ rfl rfl HX.out rfl ?_) | (refine bs_one rfl _ rfl (m := x) rfl ?_) | (at_builtin; refine app_one rfl _ _ rfl w.heap.size _ l x W2.heap.size 1 rfl (HL.out.below (balloc (Below.refl _ W2) (.cells (cellsS x) 52))) rfl (cells_new x W2) HC.out (balloc HB.out (.cells (cellsS x) 52)).size ?_))
        intro v' w' hl hb _
        have HL := Lib.hid hl
        have HB := Lib.hid ((balloc HB.out (.cells (cellsS x) 52)).trans hb)
        clear hl hb HX
        go_wp2
        go_roundw
        case rel => exact ⟨l ++ [x], u', rfl, HL, HO, HE, HB⟩
        case measure => have := HM.out; simp only [strLen]; omega
theorem get_any (b : ByteArray) (w : World) (hs : b.size ≤ 200000) : Calls Try.prog 55 #[.string b] w (Ans (outX b) w) := (get_own b w hs).mono fun _ _ h => h.ans

set_option maxHeartbeats 6400000 in
theorem rget_own (b : ByteArray) (w : World) (hs : b.size ≤ 200000) : Calls Try.prog 61 #[.string b] w (AnsL (outX b) w) := by
  have HS := Lib.hid hs
  have hbs : (b.size : Int) ≤ 200000 := by omega
  clear hs
  go_enter Try.func61, Try.ntmps61
  go_wp2
  go_loopw [5, 6] (fun v pv wr => ∃ (l : List El) (p : Nat) (r : List UInt8), pv = .int .i64 (p : Int) ∧ Hid ((encX l).length = p) ∧ Hid (Lst w.heap.size wr v l) ∧ Hid (okX l = true) ∧ Hid (b.data.toList = encX l ++ r) ∧ Hid (Below w.heap.size w wr)) (fun _ pv _ => b.size - (intOf pv).toNat)
  case atStart => exact ⟨[], 0, b.data.toList, rfl, Lib.hid rfl, Lib.hid (Lst.nil _ _), Lib.hid rfl, Lib.hid rfl, Lib.hid (Below.refl _ _)⟩
  case round =>
    obtain ⟨l, p, r, rfl, HP, HL, HO, HE, HB⟩ := hrel
    have HZ : Hid (b.size = p + r.length) := Lib.hid (by rw [size_of HE.out, List.length_append, HP.out])
    by_cases hu : r = []
    · subst hu
      have HY := Lib.hid (out_yes HO.out (by rw [HE.out, List.append_nil]))
      have e1 : ¬ (p : Int) < (b.size : Int) := by have := HZ.out; simp only [List.length_nil] at this; omega
      obtain ⟨a, c, rfl⟩ := HL.out.slice
      have HW := Lib.hid HL.out
      clear HL HP HZ HE
      go_wp2
      go_ret3
      exact AnsL.yes HY.out rfl HW.out HB.out
    · have hr : 0 < r.length := by
        cases r with
        | nil => exact absurd rfl hu
        | cons _ _ => simp
      have e1 : (p : Int) < (b.size : Int) := by have := HZ.out; omega
      clear hr
      cases hc : cut1 r with
      | none =>
        have HY := Lib.hid (out_no HO.out HE.out hc hu)
        rw [HP.out] at HY
        obtain ⟨-, h2 | ⟨h2, h3⟩⟩ := at_none HE.out HP.out hc
        · have h2 : (b.size : Int) - (p : Int) < 2 := by omega
          clear hu hc HL HE HZ HP
          go_wp2
          go_ret3
          exact AnsL.no HY.out HB.out
        · have h2 : ¬ (b.size : Int) - (p : Int) < 2 := by omega
          have j1 := idx b (p + 1) ((p : Int) + 1) (by push_cast; rfl) (by omega)
          have v1 := conv8 (bt b (p + 1)) (bt_nn _ _) (bt_lt _ _)
          have h4 : (b.size : Int) - (p : Int) - 2 < bt b (p + 1) := by omega
          have k1 := bt_nn b (p + 1)
          have k2 := bt_lt b (p + 1)
          generalize bt b (p + 1) = n at *
          clear hu hc HL HE HZ HP h3
          go_wp2
          go_ret3
          exact AnsL.no HY.out HB.out
      | some q =>
        obtain ⟨x, r'⟩ := q
        obtain ⟨hz, t0, t1, t2, -, ho⟩ := at_some HE.out HP.out hc
        have he := (cut1_some hc).2
        have HO := Lib.hid (show okX (l ++ [x]) = true from (okX_append _ _).2 ⟨HO.out, (okX_cons _ _).2 ⟨ho, rfl⟩⟩)
        have HE : Hid (b.data.toList = encX (l ++ [x]) ++ r') := Lib.hid (by rw [HE.out, he, encX_append, encX_one, List.append_assoc])
        have HC : Hid (l.length ≤ 100000) := Lib.hid (by have := HS.out; have := HP.out; have := len_le l; omega)
        have HP : Hid ((encX (l ++ [x])).length = p + 2 + x.1.size) := Lib.hid (by rw [encX_append, encX_one, List.length_append, HP.out, enc1_len]; omega)
        have h2 : ¬ (b.size : Int) - (p : Int) < 2 := by omega
        have h4 : ¬ (b.size : Int) - (p : Int) - 2 < (x.1.size : Int) := by omega
        have j0 := idx b p (p : Int) rfl (by omega)
        have j1 := idx b (p + 1) ((p : Int) + 1) (by push_cast; rfl) (by omega)
        have v0 := conv8 (bt b p) (bt_nn _ _) (bt_lt _ _)
        have v1 := conv8 (bt b (p + 1)) (bt_nn _ _) (bt_lt _ _)
        have k1 : (x.1.size : Int) ≤ 255 := by have := ho.2.2; omega
        rw [t1] at v1 j1
        rw [t0] at v0 j0
        have s2 := sl_m b ((p : Int) + 2) ((p : Int) + 2 + (x.1.size : Int)) (p + 2) (p + 2 + x.1.size) (by push_cast; rfl) (by push_cast; rfl) (by omega) (by omega)
        rw [t2] at s2
        have HM : Hid (b.size - p > b.size - (p + 2 + x.1.size)) := Lib.hid (by omega)
        have HX := Lib.hid (show cellsS x = #[.int .i64 x.2, .string x.1] from rfl)
        have hbp : (p : Int) ≤ 200000 := by omega
        clear hu hc he HZ hz t0 t1 t2 ho
        go_upto_region 7 with fail
        have q1 : IntKind.i64.wrap ((p : Int) + 2) = (p : Int) + 2 := IntWalk.i64_in _ (by omega)
        have q2 : IntKind.i64.wrap ((p : Int) + 2 + (x.1.size : Int)) = (p : Int) + 2 + (x.1.size : Int) := IntWalk.i64_in _ (by omega)
        have q3 : wrap64 ((p : Int) + 2) = (p : Int) + 2 := IntWalk.wrap64_in _ (by omega)
        have q4 : wrap64 ((p : Int) + 2 + (x.1.size : Int)) = (p : Int) + 2 + (x.1.size : Int) := IntWalk.wrap64_in _ (by omega)
        refine wp_region_held_drew (S := fun _ => True) (by kernel_rfl) trivial (fun hS => ?_)
        have HL := Lib.hid (show Lst w.heap.size wr.drew u5 l from HL.out)
        have HB := Lib.hid (HB.out.drew)
        generalize wr.drew = w1 at *
        refine H.tk (i := 0) (v := ?v0) ?h0 hS ?_
        case h0 => (intro w hw; go_simp; first | done | (with_reducible rfl))
        try simp only [Act.put, List.setIfInBounds_toArray, List.set_cons_zero, List.set_cons_succ]
        refine H.tk (i := 1) (v := ?v1) ?h1 hS ?_
        case h1 => (intro w hw; go_simp; first | done | (with_reducible rfl))
        try simp only [Act.put, List.setIfInBounds_toArray, List.set_cons_zero, List.set_cons_succ]
        refine H.tk (i := 2) (v := ?v2) ?h2 hS ?_
        case h2 => (intro w hw; go_simp; first | done | (with_reducible rfl))
        try simp only [Act.put, List.setIfInBounds_toArray, List.set_cons_zero, List.set_cons_succ]
        refine H.tk (i := 3) (v := ?v3) ?h3 hS ?_
        case h3 => (intro w hw; go_simp; first | done | (with_reducible rfl))
        try simp only [Act.put, List.setIfInBounds_toArray, List.set_cons_zero, List.set_cons_succ]
        refine H.tk (i := 4) (v := ?v4) ?h4 hS ?_
        case h4 => (intro w hw; go_simp; first | done | (with_reducible rfl))
        try simp only [Act.put, List.setIfInBounds_toArray, List.set_cons_zero, List.set_cons_succ]
        refine H.tk (i := 5) (v := ?v5) ?h5 hS ?_
        case h5 => (intro w hw; go_simp; first | done | (with_reducible rfl))
        try simp only [Act.put, List.setIfInBounds_toArray, List.set_cons_zero, List.set_cons_succ]
        refine H.tk (i := 6) (v := ?v6) ?h6 hS ?_
        case h6 => (intro w hw; go_simp; first | done | (with_reducible rfl))
        try simp only [Act.put, List.setIfInBounds_toArray, List.set_cons_zero, List.set_cons_succ]
        refine H.tk (i := 7) (v := ?v7) ?h7 hS ?_
        case h7 => (intro w hw; go_simp; first | done | (with_reducible rfl))
        try simp only [Act.put, List.setIfInBounds_toArray, List.set_cons_zero, List.set_cons_succ]
        refine H.tk (i := 8) (v := ?v8) ?h8 hS ?_
        case h8 => (intro w hw; go_simp; first | done | (with_reducible rfl))
        try simp only [Act.put, List.setIfInBounds_toArray, List.set_cons_zero, List.set_cons_succ]
        refine H.tk (i := 9) (v := ?v9) ?h9 hS ?_
        case h9 => (intro w hw; go_simp; first | done | (with_reducible rfl))
        try simp only [Act.put, List.setIfInBounds_toArray, List.set_cons_zero, List.set_cons_succ]
        refine H.tk (i := 10) (v := ?v10) ?h10 hS ?_
        case h10 => (intro w hw; go_simp; first | done | (with_reducible rfl))
        try simp only [Act.put, List.setIfInBounds_toArray, List.set_cons_zero, List.set_cons_succ]
        refine H.tk (i := 11) (v := ?v11) ?h11 hS ?_
        case h11 => (intro w hw; go_simp; first | done | (with_reducible rfl))
        try simp only [Act.put, List.setIfInBounds_toArray, List.set_cons_zero, List.set_cons_succ]
        refine H.tk (i := 12) (v := ?v12) ?h12 hS ?_
        case h12 => (intro w hw; go_simp; first | done | (with_reducible rfl))
        try simp only [Act.put, List.setIfInBounds_toArray, List.set_cons_zero, List.set_cons_succ]
        refine H.tk (i := 13) (v := .agg (cellsS x)) ?h13 hS ?_
        case h13 => exact fun w _ => ex_built rfl (by kernel_rfl)
        try simp only [Act.put, List.setIfInBounds_toArray, List.set_cons_zero, List.set_cons_succ]
        refine H.bsS (i := 14) (m := x) (by simp only [List.getElem?_toArray, List.getElem?_cons_succ, List.getElem?_cons_zero]; rfl) (by kernel_rfl) (by kernel_rfl) rfl _ rfl rfl trivial ?_
        try simp only [Act.put, List.setIfInBounds_toArray, List.set_cons_zero, List.set_cons_succ]
        refine H.appS (i := 15) (by simp only [List.getElem?_toArray, List.getElem?_cons_succ, List.getElem?_cons_zero]; rfl) (by kernel_rfl) (by kernel_rfl) rfl (.tmp 36) (.tmp 50) rfl w.heap.size _ l x w1.heap.size 1 rfl (HL.out.below (balloc (Below.refl _ w1) (.cells (cellsS x) 52))) rfl (cells_new x w1) HC.out (balloc HB.out (.cells (cellsS x) 52)).size (fun _ _ => trivial) ?_
        intro v' w' hl _ hb
        try simp only [Act.put, List.setIfInBounds_toArray, List.set_cons_zero, List.set_cons_succ]
        refine H.tk (i := 16) (v := ?v16) ?h16 hS ?_
        case h16 => (intro w hw; go_simp; first | done | (with_reducible rfl))
        try simp only [Act.put, List.setIfInBounds_toArray, List.set_cons_zero, List.set_cons_succ]
        refine wpAnyH_done (by kernel_rfl) ?_ _
        have HL := Lib.hid hl
        have HB := Lib.hid ((balloc HB.out (.cells (cellsS x) 52)).trans hb)
        clear hl hb s2 j0 j1 v0 v1
        go_wp2
        go_roundw
        case rel => exact ⟨l ++ [x], p + 2 + x.1.size, r', by push_cast; rfl, HP, HL, HO, HE, HB⟩
        case measure => have := HM.out; simp only [intOf]; omega
theorem rget_any (b : ByteArray) (w : World) (hs : b.size ≤ 200000) : Calls Try.prog 61 #[.string b] w (Ans (outX b) w) := (rget_own b w hs).mono fun _ _ h => h.ans

end Go.Proofs.Ytlelfapmleopaaa.Xc
