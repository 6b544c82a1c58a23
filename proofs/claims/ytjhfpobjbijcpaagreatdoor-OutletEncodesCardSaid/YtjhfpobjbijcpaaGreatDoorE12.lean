/-
  Babel's messages in as few bytes as what is known lets, whole: their TLVs, the bytes, what is known behind them; taken where it is known they tell the message. No conditions.
  Babel's messages, written one behind the other, each where what those ahead of it leave behind is known: the TLVs, the datagram, or why there is none; it is read as these messages. No conditions.
  Whether a message has few parts, of few bytes (the document's guard). No condition.
  A block of one's own that holds a struct's cells, whatever struct it is; an entry's fields; what fields' bytes are. No conditions.
  A list of Subs of a call's own, one appended behind the other: its cells, and that its Subs stand in the world; one operation of a region that draws its order. No conditions.
  What stands beside a message's copy; the answer of a Get of messages with Subs alone: a message, whether it counts, an error; what few parts say. No conditions.
-/
import Derived.Test.YtjhfpobjbijcpaaGreatDoorE01
import Derived.Test.YtjhfpobjbijcpaaGreatDoorE03
import Derived.Test.YtjhfpobjbijcpaaGreatDoorE05
import Derived.Test.YtjhfpobjbijcpaaGreatDoorE07
import Derived.Test.YtjhfpobjbijcpaaGreatDoorE11
import Derived.Laws.Rows
import Derived.Laws.Tables
import Derived.OwnWalk
import Derived.Deep.WholeRow
import Derived.Deep.DeepCutAuto
import Derived.Deep.Cut
import Derived.Laws.AppendOwn
namespace Go.Proofs.YtjhfpobjbijcpaaGreatDoor.L2
open Go.ChangeShapes Go.WideShapes Go.ChangeAt Go.RowKit
open Go.Proofs.YtjhfpobjbijcpaaGreatDoor.Ms
open Go.Proofs.YtjhfpobjbijcpaaGreatDoor.S1 (okS outS putS)
open Go.Proofs.YtjhfpobjbijcpaaGreatDoor.G1 (outF okF typF datF)
open Go.Proofs.YtjhfpobjbijcpaaGreatDoor.J1
open Go.Proofs.YtjhfpobjbijcpaaGreatDoor.K1
open Go.Proofs.YtjhfpobjbijcpaaGreatDoor.I1
open Go.Proofs.YtjhfpobjbijcpaaGreatDoor.L1
open Go.Proofs.YtjhfpobjbijcpaaGreatDoor.Pre (leadN leastN)
open Go.Proofs.YtjhfpobjbijcpaaGreatDoor.Own (ownM)
open Go.Proofs.YtjhfpobjbijcpaaGreatDoor.F1 (T okT okT_nil encT enc1 ok1 outT placed encT_append encT_cons encT_nil enc1_len okT_append)
open Go.Proofs.YtjhfpobjbijcpaaGreatDoor.Nu
set_option linter.unusedVariables false
set_option maxRecDepth 100000
set_option maxRecDepth 100000

def okO (m : M) : Bool := decide (m.kind = 14) && (bare m && (decide (11 ≤ m.typ) && (decide (m.typ ≤ 255) && decide (m.data.size ≤ 255))))
/-- May it be a message of Babel? -/
def okL (m : M) : Bool := okF m || (okJ m || (okU m || okO m))
theorem kind_F {m : M} (h : okF m = true) : 7 ≤ m.kind ∧ m.kind ≤ 10 := by
  rcases G1.kind_cases ((G1.ok_iff m).1 h).kind with k | k | ⟨k, _⟩ | ⟨k, _⟩ <;> omega
theorem kind_J {m : M} (h : okJ m = true) : m.kind = 12 ∨ m.kind = 13 := by
  rcases J1.kind_cases ((J1.ok_iff m).1 h).kind with k | ⟨k, _⟩ <;> omega
theorem o_parts {m : M} (h : okO m = true) : m.kind = 14 ∧ bare m = true ∧ 11 ≤ m.typ ∧ m.typ ≤ 255 ∧ m.data.size ≤ 255 := by
  unfold okO at h
  simpa only [Bool.and_eq_true, decide_eq_true_eq] using h
theorem ok_u {m : M} (h : okL m = true) (k : m.kind = 11) : okU m = true := by
  unfold okL at h
  simp only [Bool.or_eq_true] at h
  rcases h with h | h | h | h
  · have := kind_F h; omega
  · have := kind_J h; omega
  · exact h
  · have := (o_parts h).1; omega
theorem ok_not {m : M} (h : okL m = true) (k : ¬ m.kind = 11) : okF m = true ∨ (okF m = false ∧ okJ m = true) ∨ (okF m = false ∧ okJ m = false ∧ okO m = true) := by
  unfold okL at h
  simp only [Bool.or_eq_true] at h
  rcases h with h | h | h | h
  · exact .inl h
  · refine .inr (.inl ⟨?_, h⟩)
    rcases hF : okF m with _ | _
    · rfl
    · have := kind_F hF; have := kind_J h; omega
  · exact absurd ((oku_iff m).1 h).kind k
  · have k14 := (o_parts h).1
    refine .inr (.inr ⟨?_, ?_, h⟩)
    · rcases hF : okF m with _ | _
      · rfl
      · have := kind_F hF; omega
    · rcases hJ : okJ m with _ | _
      · rfl
      · have := kind_J hJ; omega
/-- The TLV of a message that is no Update. -/
def othE (m : M) : F1.El := if okF m = true then (datF m, typF m) else if okJ m = true then (datJ m, typJ m) else (m.data, m.typ)
theorem oth_one {m : M} (h : okL m = true) (k : ¬ m.kind = 11) (c : Kx) : one c (othE m).2 (othE m).1 = (c, [canM m], 0) ∧ ok1 (othE m) ∧ ¬ (othE m).2 = 0 := by
  unfold othE
  rcases ok_not h k with hF | ⟨nF, hJ⟩ | ⟨nF, nJ, hO⟩
  · rw [if_pos hF]
    have hl := G1.fld_len hF
    refine ⟨?_, (G1.putF_ok hF).2, by show ¬ typF m = 0; omega⟩
    rw [one_f hl.2.1 hl.2.2, G1.put_back hF]
    rfl
  · rw [if_neg (by rw [nF]; decide), if_pos hJ]
    have hl := (J1.fld_len hJ).2
    refine ⟨?_, (J1.putJ_ok hJ).2, by show ¬ typJ m = 0; omega⟩
    rw [one_j hl, J1.put_back hJ]
    rfl
  · rw [if_neg (by rw [nF]; decide), if_neg (by rw [nJ]; decide)]
    obtain ⟨o1, o2, o3, o4, o5⟩ := o_parts hO
    refine ⟨?_, ⟨by show 0 ≤ m.typ; omega, o4, o5, fun h0 => absurd h0 (by show ¬ m.typ = 0; omega)⟩, by show ¬ m.typ = 0; omega⟩
    rw [one_o (.inr (by show 10 < m.typ; omega)), can_14 o1]
/-- How many bytes of an Update's prefix are left out. -/
def omN (c : Kx) (m : M) : Nat := if m.ae = 0 ∨ (c.pf m.ae).size = 0 then 0 else leadN ⟨((c.pf m.ae).data.toList.drop (baseN m.ae)).toArray⟩ (cutP m.ae m.pfx m.plen)
theorem om_le {c : Kx} {m : M} (h : okU m = true) : omN c m ≤ countN m.ae m.plen ∧ (0 < omN c m → ¬ (c.pf m.ae).size = 0 ∧ ¬ m.ae = 0) ∧ ((c.pf m.ae).data.toList.drop (baseN m.ae)).take (omN c m) = (cutP m.ae m.pfx m.plen).data.toList.take (omN c m) := by
  have hz := cut_size ((oku_iff m).1 h).pfx
  unfold omN
  by_cases h0 : m.ae = 0 ∨ (c.pf m.ae).size = 0
  · rw [if_pos h0]
    exact ⟨Nat.zero_le _, fun h => absurd h (Nat.lt_irrefl 0), rfl⟩
  · rw [if_neg h0]
    refine ⟨?_, fun _ => ⟨fun k => h0 (.inr k), fun k => h0 (.inl k)⟩, ?_⟩
    · rw [← hz]; exact (Ld.lead_le _ _).2
    · have := congrArg (fun b : ByteArray => b.data.toList) (Ld.lead_same ⟨((c.pf m.ae).data.toList.drop (baseN m.ae)).toArray⟩ (cutP m.ae m.pfx m.plen))
      simp only [ext_list, List.drop_zero, Nat.sub_zero] at this
      exact this
/-- The TLVs ahead of an Update, what is known behind them. -/
def wayE (c : Kx) (m : M) : List F1.El := if m.metric = 65535 then [] else (if m.id = c.id then [] else [(idD m.id, 6)]) ++ (if m.next = c.nx (fam m.ae) then [] else [(hopD m.next, 7)])
def wayC (c : Kx) (m : M) : Kx := if m.metric = 65535 then c else ({ c with id := m.id } : Kx).setN (fam m.ae) m.next
/-- A next hop is known, and the message says none. -/
def badC (c : Kx) (m : M) : Bool := decide (m.kind = 11) && (!decide (m.metric = 65535) && (decide (m.next.size = 0) && !decide ((c.nx (fam m.ae)).size = 0)))
def elsL (c : Kx) (m : M) : List F1.El := if m.kind = 11 then wayE c m ++ [(updD m (omN c m), 8)] else [othE m]
def ctxL (c : Kx) (m : M) : Kx := if m.kind = 11 then knowP (wayC c m) m else c
theorem set_same {c : Kx} {ae : Int} {a : ByteArray} (h : a = c.nx (fam ae)) : c.setN (fam ae) a = c := by
  subst h
  unfold Kx.setN Kx.nx
  split <;> rfl
theorem near_next {c : Kx} {m : M} (h : okU m = true) (hm : ¬ m.metric = 65535) (hb : badC c m = false) : m.next = c.nx (fam m.ae) ∨ ((m.next.size = 4 ∨ m.next.size = 16) ∧ famA m.next = fam m.ae) := by
  have o := (oku_iff m).1 h
  obtain ⟨w1, _, w3⟩ := way_near o.way hm
  obtain ⟨a0, a1, _, _⟩ := len_range (in_cases o.pfx).1
  by_cases hz : m.next.size = 0
  · left
    unfold badC at hb
    rw [decide_eq_true o.kind, decide_eq_false hm, decide_eq_true hz] at hb
    simp only [Bool.not_false, Bool.true_and, Bool.not_eq_false', decide_eq_true_eq] at hb
    rw [empty_of hz, empty_of hb]
  · have hf : famA m.next = fam m.ae := by rcases w3 with k | k; exact absurd k hz; exact k
    have h0 : ¬ fam m.ae = -1 := by
      unfold fam
      rcases (show m.ae = 1 ∨ m.ae = 2 ∨ m.ae = 3 by omega) with k | k | k <;> rw [k] <;> decide
    refine .inr ⟨?_, hf⟩
    unfold famA at hf
    by_cases h4 : m.next.size = 4
    · exact .inl h4
    · by_cases h16 : m.next.size = 16
      · exact .inr h16
      · rw [if_neg h4, if_neg h16] at hf
        exact absurd hf.symm h0
theorem way_pf (c : Kx) (m : M) (ae : Int) : (wayC c m).pf ae = c.pf ae := by
  have hs : ∀ (x : Kx) (f : Int) (a : ByteArray), (x.setN f a).pf ae = x.pf ae := fun x f a => by unfold Kx.setN; split <;> rfl
  unfold wayC
  split
  · rfl
  · rw [hs]; rfl
theorem way_ok {c : Kx} {m : M} (hc : okC c = true) (h : okU m = true) (hb : badC c m = false) : okC (wayC c m) = true := by
  have ok := (oku_iff m).1 h
  have hk := (okc_iff c).1 hc
  obtain ⟨a0, a1, _, _⟩ := len_range (in_cases ok.pfx).1
  unfold wayC
  split
  · exact hc
  · rename_i hm
    obtain ⟨w1, w2, w3⟩ := way_near ok.way hm
    rw [okc_iff]
    rcases near_next h hm hb with e | ⟨e1, e2⟩
    · rw [set_same (c := { c with id := m.id }) (show m.next = ({ c with id := m.id } : Kx).nx (fam m.ae) from e)]
      exact hk.setI w2
    · refine (hk.setI w2).setN (by omega) a1 ?_
      unfold famA fam at e2
      rcases (show m.ae = 1 ∨ m.ae = 2 ∨ m.ae = 3 by omega) with q | q | q <;> rw [q] at e2 ⊢ <;> rcases e1 with e | e <;> rw [e] at e2 ⊢ <;> simp at e2 ⊢
theorem put_ok {c : Kx} {m : M} (hc : okC c = true) (h : okL m = true) (hb : badC c m = false) : okC (ctxL c m) = true := by
  unfold ctxL
  split
  · rename_i k
    have hu := ok_u h k
    have ok := (oku_iff m).1 hu
    obtain ⟨a0, a1, _, _⟩ := len_range (in_cases ok.pfx).1
    unfold knowP
    split
    · exact way_ok hc hu hb
    · rw [okc_iff]
      exact ((okc_iff _).1 (way_ok hc hu hb)).setP (by omega) a1 (in_adr ok.pfx)
  · exact hc
theorem id_ok {a : ByteArray} (h : a.size = 8) : ok1 (idD a, 6) ∧ (idD a).size = 10 := by
  have : (idD a).size = 10 := by show (0 :: 0 :: a.data.toList).toArray.size = 10; simp; omega
  exact ⟨⟨by show (0 : Int) ≤ 6; decide, by show (6 : Int) ≤ 255; decide, by show (idD a).size ≤ 255; omega, fun h => absurd h (by show ¬ (6 : Int) = 0; decide)⟩, this⟩
theorem hop_ok {a : ByteArray} (h : a.size = 4 ∨ a.size = 16) : ok1 (hopD a, 7) := by
  have := (L1.hop_size h).2
  exact ⟨by show (0 : Int) ≤ 7; decide, by show (7 : Int) ≤ 255; decide, by show (hopD a).size ≤ 255; omega, fun h => absurd h (by show ¬ (7 : Int) = 0; decide)⟩
theorem upd_ok1 {m : M} {n : Nat} (h : okU m = true) (hn : n ≤ countN m.ae m.plen) : ok1 (updD m n, 8) := by
  have := (upd_size h hn).2
  exact ⟨by show (0 : Int) ≤ 8; decide, by show (8 : Int) ≤ 255; decide, by show (updD m n).size ≤ 255; omega, fun h => absurd h (by show ¬ (8 : Int) = 0; decide)⟩
theorem okT_one {x : F1.El} (h : ok1 x) : okT [x] := fun y hy => by rw [List.mem_singleton] at hy; exact hy ▸ h
theorem els_ok {c : Kx} {m : M} (h : okL m = true) (hb : badC c m = false) : okT (elsL c m) := by
  unfold elsL
  by_cases k : m.kind = 11
  · rw [if_pos k]
    have hu := ok_u h k
    have ok := (oku_iff m).1 hu
    refine okT_append ?_ (okT_one (upd_ok1 hu (om_le hu).1))
    unfold wayE
    split
    · exact okT_nil
    · rename_i hm
      obtain ⟨w1, w2, w3⟩ := way_near ok.way hm
      refine okT_append ?_ ?_
      · split
        · exact okT_nil
        · exact okT_one (id_ok w2).1
      · split
        · exact okT_nil
        · rename_i hi
          rcases near_next hu hm hb with e | ⟨e1, _⟩
          · exact absurd e hi
          · exact okT_one (hop_ok e1)
  · rw [if_neg k]
    exact okT_one (oth_one h k c).2.1
/-- A message's bytes, what is known behind them, or why there are none. -/
def putL (c : Kx) (m : M) : ByteArray × Kx × Int := if okL m = true then (if badC c m = true then (ByteArray.empty, c, 9) else (⟨(encT (elsL c m)).toArray⟩, ctxL c m, 0)) else (ByteArray.empty, c, 1)
/-- Its plain bytes: those where nothing is known. -/
def plainL (m : M) : ByteArray × Bool := if okL m = true then (⟨(encT (elsL Kx.zero m)).toArray⟩, true) else (ByteArray.empty, false)
theorem bad_zero (m : M) : badC Kx.zero m = false := by
  unfold badC
  have : (Kx.zero.nx (fam m.ae)).size = 0 := by unfold Kx.nx; split <;> rfl
  rw [decide_eq_true this]
  simp
theorem om_zero (m : M) : omN Kx.zero m = 0 := by
  unfold omN
  rw [if_pos (.inr (by unfold Kx.pf; (repeat' split) <;> rfl))]
theorem len_one (x : F1.El) : (encT [x]).length = (enc1 x).length := by rw [encT_cons, encT_nil, List.append_nil]
end Go.Proofs.YtjhfpobjbijcpaaGreatDoor.L2
namespace Go.Proofs.YtjhfpobjbijcpaaGreatDoor.O1
open Go.ChangeShapes Go.WideShapes Go.ChangeAt Go.RowKit
open Go.Proofs.YtjhfpobjbijcpaaGreatDoor.Ms
open Go.Proofs.YtjhfpobjbijcpaaGreatDoor.K1
open Go.Proofs.YtjhfpobjbijcpaaGreatDoor.I1
open Go.Proofs.YtjhfpobjbijcpaaGreatDoor.L1 (canM)
open Go.Proofs.YtjhfpobjbijcpaaGreatDoor.L2
open Go.Proofs.YtjhfpobjbijcpaaGreatDoor.F1 (T okT okT_nil encT outT wrap placed okT_append encT_append encT_nil)
set_option linter.unusedVariables false
set_option maxRecDepth 100000
set_option maxRecDepth 100000
/-- Messages, one by one, from what is known and written; i: the place. -/
def outW : List M → Kx → List F1.El → Int → ByteArray × Int × Int
  | [], _, a, _ => (wrap ⟨(encT a).toArray⟩, 0, 0)
  | m :: l, c, a, i => if badC c m = true then (ByteArray.empty, i, 9) else if 65531 < (encT (a ++ elsL c m)).length then (ByteArray.empty, i, 10) else outW l (ctxL c m) (a ++ elsL c m) (i + 1)
/-- The first that may not be. -/
def wrongAt : List M → Int → Int
  | [], _ => -1
  | m :: l, i => if okL m = true then wrongAt l (i + 1) else i
/-- The datagram of messages, or why there is none. -/
def outE (l : List M) : ByteArray × Int × Int := if l.all okL = true then outW l Kx.zero [] 0 else (ByteArray.empty, wrongAt l 0, 1)
def plainN : List M → Int
  | [] => 0
  | m :: l => ((encT (elsL Kx.zero m)).length : Int) + plainN l
def outN (l : List M) : Int := if l.all okL = true then 4 + plainN l else 0
theorem plain_nn : ∀ l : List M, 0 ≤ plainN l
  | [] => Int.le_refl 0
  | m :: l => by unfold plainN; have := plain_nn l; omega
end Go.Proofs.YtjhfpobjbijcpaaGreatDoor.O1
namespace Go.Proofs.YtjhfpobjbijcpaaGreatDoor.Few
open Go.ChangeShapes Go.WideShapes Go.ChangeAt Go.RowKit
open Go.Proofs.YtjhfpobjbijcpaaGreatDoor.Ms
open Go.Proofs.YtjhfpobjbijcpaaGreatDoor.Box
open Go.Proofs.YtjhfpobjbijcpaaGreatDoor.Same
open Go.Proofs.YtjhfpobjbijcpaaGreatDoor.Cnt
set_option linter.unusedVariables false
set_option maxRecDepth 100000

def small (n : Nat) (l : List El) : Bool := l.all fun x => decide (x.1.size ≤ n)
theorem small_take (n : Nat) (l : List El) (k : Nat) (h : k < l.length) : small n (l.take (k + 1)) = (small n (l.take k) && decide (l[k].1.size ≤ n)) := by
  unfold small
  rw [List.take_succ_eq_append_getElem h, List.all_append]
  simp
theorem small_not (n : Nat) (l : List El) (k : Nat) (h : k < l.length) (hn : n < l[k].1.size) : small n l = false := by
  unfold small
  rw [List.all_eq_false]
  exact ⟨l[k], List.getElem_mem h, by simp; omega⟩
/-- Few parts, of few bytes? -/
def fewB (m : M) : Bool := decide (m.ll.length ≤ 300) && decide (m.sl.length ≤ 60) && decide (wrap64 ((m.auth.size : Int) + m.pfx.size) ≤ 200) && decide (wrap64 ((m.next.size : Int) + m.id.size) ≤ 200) && decide (wrap64 ((m.addr.size : Int) + m.orig.size) ≤ 200) && decide (m.data.size ≤ 300) && small 50 m.ll && small 300 m.sl
set_option maxHeartbeats 3200000 in
set_option maxRecDepth 100000 in
theorem few_any (m : M) (w : World) (hd : DRow w m.la m.ll) (hs : SRow w m.sa m.sl) :
    Calls Tryz.prog 14 #[.agg m.cells] w fun e w' => e = .returned (.bool (fewB m)) ∧ Below w.heap.size w w' := by
  have bel := balloc (Below.refl _ w) (.cells m.cells 38)
  have hd := hd.below (balloc (Below.refl _ w) (.cells m.cells 38))
  have hs := hs.below (balloc (Below.refl _ w) (.cells m.cells 38))
  have b0 := Bx.new w m
  have HFB := Lib.hid (show fewB m = (decide (m.ll.length ≤ 300) && decide (m.sl.length ≤ 60) && decide (wrap64 ((m.auth.size : Int) + m.pfx.size) ≤ 200) && decide (wrap64 ((m.next.size : Int) + m.id.size) ≤ 200) && decide (wrap64 ((m.addr.size : Int) + m.orig.size) ≤ 200) && decide (m.data.size ≤ 300) && small 50 m.ll && small 300 m.sl) from rfl)
  go_enter Tryz.func14, Tryz.ntmps14
  go_upto_region 1 with fail
  generalize w.alloc (.cells m.cells 38) = V at *
  have c3 := b0.cs.c3
  have c6 := b0.cs.c6
  have c9 := b0.cs.c9
  have c11 := b0.cs.c11
  have c19 := b0.cs.c19
  have c20 := b0.cs.c20
  have c21 := b0.cs.c21
  have c23 := b0.cs.c23
  have c24 := b0.cs.c24
  clear b0
  by_cases h1 : 300 < m.ll.length
  · go_wp2
    go_ret
    exact ⟨bool_eq (by rw [HFB.out]; simp; omega), bel⟩
  by_cases h2 : 60 < m.sl.length
  · go_wp2
    go_ret
    exact ⟨bool_eq (by rw [HFB.out]; simp; omega), bel⟩
  by_cases h3 : 200 < wrap64 ((m.auth.size : Int) + m.pfx.size)
  · go_wp2
    go_ret
    exact ⟨bool_eq (by rw [HFB.out]; simp; omega), bel⟩
  by_cases h4 : 200 < wrap64 ((m.next.size : Int) + m.id.size)
  · go_wp2
    go_ret
    exact ⟨bool_eq (by rw [HFB.out]; simp; omega), bel⟩
  by_cases h5 : 200 < wrap64 ((m.addr.size : Int) + m.orig.size)
  · go_wp2
    go_ret
    exact ⟨bool_eq (by rw [HFB.out]; simp; omega), bel⟩
  by_cases h6 : 300 < m.data.size
  · go_wp2
    go_ret
    exact ⟨bool_eq (by rw [HFB.out]; simp; omega), bel⟩
  have HF2 : Hid (fewB m = (small 50 m.ll && small 300 m.sl)) := Lib.hid (by rw [HFB.out]; simp [show m.ll.length ≤ 300 by omega, show m.sl.length ≤ 60 by omega, show wrap64 ((m.auth.size : Int) + m.pfx.size) ≤ 200 by omega, show wrap64 ((m.next.size : Int) + m.id.size) ≤ 200 by omega, show wrap64 ((m.addr.size : Int) + m.orig.size) ≤ 200 by omega, show m.data.size ≤ 300 by omega])
  clear HFB
  go_upto_region 3 with fail
  have l1 : m.ll.length ≤ 300 := by omega
  have l2 : m.sl.length ≤ 60 := by omega
  clear h1 h2 h3 h4 h5 h6 c3 c6 c9 c11 c19 c20 c23
  generalize m.ll = x at *
  generalize m.sl = y at *
  go_wp2
  go_loopw [3] (fun i wr => ∃ k : Nat, k ≤ x.length ∧ i = .int .i64 k ∧ Hid (small 50 (x.take k) = true) ∧ wr = V) (fun i _ => x.length - (intOf i).toNat)
  case atStart => exact ⟨0, Nat.zero_le _, rfl, Lib.hid rfl, rfl⟩
  case round =>
    obtain ⟨k, hk, rfl, HN, rfl⟩ := hrel
    by_cases hlt : k < x.length
    · obtain ⟨p, hp, _, d0, _⟩ := hd k hlt
      rw [hp] at c21
      have HT := Lib.hid (small_take 50 x k hlt)
      have HF := Lib.hid (small_not 50 x k hlt)
      clear hd hs hp c24
      generalize x[k] = u at *
      obtain ⟨s, n⟩ := u
      by_cases h1 : 50 < s.size
      · go_wp2
        go_ret
        exact ⟨bool_eq (by rw [HF2.out, HF.out h1]; simp), bel⟩
      · go_wp2
        go_roundw
        case rel => exact ⟨k + 1, hlt, by go_num, Lib.hid (by rw [HT.out, HN.out]; simp; omega), by first | rfl | trivial⟩
        case measure => simp [intOf]; omega
    · obtain rfl : k = x.length := by omega
      have HX : Hid (small 50 x = true) := Lib.hid (by have := HN.out; rwa [List.take_length] at this)
      clear HN hd
      go_wp2
      go_loopw [4] (fun i wr2 => ∃ k : Nat, k ≤ y.length ∧ i = .int .i64 k ∧ Hid (small 300 (y.take k) = true) ∧ wr2 = wr) (fun i _ => y.length - (intOf i).toNat)
      case atStart => exact ⟨0, Nat.zero_le _, rfl, Lib.hid rfl, rfl⟩
      case round =>
        obtain ⟨k, hk, rfl, HN, rfl⟩ := hrel
        by_cases hlt : k < y.length
        · obtain ⟨p, hp, _, _, d1⟩ := hs k hlt
          rw [hp] at c24
          have HT := Lib.hid (small_take 300 y k hlt)
          have HF := Lib.hid (small_not 300 y k hlt)
          clear hs hp c21
          rw [add_one] at d1
          generalize y[k] = u at *
          obtain ⟨s, n⟩ := u
          by_cases h1 : 300 < s.size
          · go_wp2
            go_ret
            exact ⟨bool_eq (by rw [HF2.out, HF.out h1]; simp), bel⟩
          · go_wp2
            go_roundw
            case rel => exact ⟨k + 1, hlt, by go_num, Lib.hid (by rw [HT.out, HN.out]; simp; omega), by first | rfl | trivial⟩
            case measure => simp [intOf]; omega
        · obtain rfl : k = y.length := by omega
          have HY : Hid (small 300 y = true) := Lib.hid (by have := HN.out; rwa [List.take_length] at this)
          clear HN hs
          go_wp2
          go_ret
          exact ⟨bool_eq (by rw [HF2.out, HX.out, HY.out]; rfl), bel⟩
end Go.Proofs.YtjhfpobjbijcpaaGreatDoor.Few
namespace Go.Proofs.YtjhfpobjbijcpaaGreatDoor.Bk
open Go.ChangeShapes Go.WideShapes Go.ChangeAt Go.RowKit
open Go.Proofs.YtjhfpobjbijcpaaGreatDoor.Cur
open Go.Proofs.YtjhfpobjbijcpaaGreatDoor.Oct
set_option linter.unusedVariables false
set_option maxRecDepth 100000

theorem alloc_size (w : World) (o : Obj) : (w.alloc o).heap.size = w.heap.size + 1 := by show (w.heap.push o).size = _; simp
/-- Block b holds the cells cs of a struct of type t. -/
def Bk (t : TypeId) (w : World) (b : Nat) (cs : Array Value) : Prop := w.heap[b]? = some (.cells cs t (0, 0))
section
variable {t : TypeId} {w w' : World} {b : Nat} {cs cs' : Array Value}
theorem Bk.lt (h : Bk t w b cs) : b < w.heap.size := (Array.getElem?_eq_some_iff.1 h).1
theorem Bk.below (h : Bk t w b cs) (hb : Below w.heap.size w w') : Bk t w' b cs := (hb.block b h.lt).trans h
theorem Bk.under {B : Nat} (h : Bk t w b cs) (hb : Below B w w') (hB : b < B) : Bk t w' b cs := (hb.block b hB).trans h
theorem Bk.new (t : TypeId) (w : World) (cs : Array Value) : Bk t (w.alloc (.cells cs t)) w.heap.size cs := heap_alloc_new w _
theorem Bk.old (h : Bk t w b cs) (o : Obj) : Bk t (w.alloc o) b cs := (heap_alloc_old w o h.lt).trans h
theorem Bk.row {g : Nat} (h : Bk t w b cs) (hn : b ≠ g) (cs' : Array Value) : Bk t (w.setRow g cs') b cs := (setRow_other w g b cs' hn).trans h
theorem Bk.put (h : Bk t w b cs) (cs' : Array Value) : Bk t (w.setRow b cs') b cs' := setRow_heap w b cs cs' _ _ h
theorem Bk.set {i : Nat} {v : Value} (h : Bk t w b cs) (hm : cs.setIfInBounds i v = cs') : Bk t (w.setCell ⟨b, i, none⟩ v) b cs' := by
  have := heap_setCell_same w b i cs t v h
  rw [hm] at this
  exact this
theorem Bk.off (h : Bk t w b cs) {p : Addr} (hn : b ≠ p.block) (v : Value) : Bk t (w.setCell p v) b cs := (heap_setCell_other w p b v hn).trans h
theorem Bk.cell (h : Bk t w b cs) (j : Nat) (v : Value) (hv : cs[j]? = some v) : w.cell? ⟨b, j, none⟩ = some v := by
  rw [cell_of_row w b j cs _ _ h, hv]
theorem Bk.frozen (h : Bk t w b cs) (j : Nat) : w.frozen? ⟨b, j, none⟩ = false := frozen_of_row w b j cs _ h
end

/-- ty is a struct of n cells. -/
def Sh (P : Program) (ty : TypeId) (n : Nat) : Prop := ∃ fs, P.underlying ty = some (.struct fs) ∧ (P.info? ty).map (·.size) = some n
section
variable {P : Program}
theorem wpList_loadK {ops : Array Oper} {rest : List Oper} {o : Oper} {a : Act} {w : World} {Q : Exit → Act → World → Prop} {ty tb : TypeId} {n : Nat} (hs : Sh P ty n)
    (hgd : o.guard = none) (x : Operand) (ho : o.op = .load ty x) {b : Nat} (hx : a.eval x = .pointer (some ⟨b, 0, none⟩)) {cs : Array Value} (hb : Bk tb w b cs) (hn : cs.size = n)
    (h : wpList P ops Q rest (a.put o.dst (.agg cs)) w) : wpList P ops Q (o :: rest) a w := by
  subst hn
  obtain ⟨d, h1, h3⟩ := hs
  exact wpList_load_row hgd ty x ho b hx tb cs (0, 0) _ hb h1 rfl h3 h
theorem wpList_storeK {ops : Array Oper} {rest : List Oper} {o : Oper} {a : Act} {w : World} {Q : Exit → Act → World → Prop} {ty tb : TypeId} {n : Nat} (hs : Sh P ty n)
    (hgd : o.guard = none) (x y : Operand) (ho : o.op = .store ty x y) {b : Nat} (hx : a.eval x = .pointer (some ⟨b, 0, none⟩)) {cs cs' : Array Value} (hy : a.eval y = .agg cs') (hb : Bk tb w b cs) (hn : cs.size = n) (hn' : cs'.size = n) (h1 : (cs'.all fun x => x.oneCell') = true)
    (h : wpList P ops Q rest (a.put o.dst undef) (w.setRow b cs')) : wpList P ops Q (o :: rest) a w := by
  obtain ⟨d, _, h3⟩ := hs
  exact wpList_store_row hgd ty x y ho b cs' hx hy tb cs hb (by rw [h3, hn']) (by rw [hn, hn']) h1 h
theorem wpList_builtK {ops : Array Oper} {rest : List Oper} {o : Oper} {a : Act} {w : World} {Q : Exit → Act → World → Prop} (hg : o.guard = none) (t : TypeId) (parts : Array (Nat × Operand)) (ho : o.op = .build t parts)
    (cells : Array Value) (hc : P.built t (parts.map fun (i, x) => (i, a.eval x)).toList = some cells)
    (h : wpList P ops Q rest (a.put o.dst (.agg cells)) w) : wpList P ops Q (o :: rest) a w :=
  wpList_build hg t parts ho (by rw [hc]; rfl) (by rw [hc]; exact h)
theorem loadVarK {w : World} {b n : Nat} {ty tb : TypeId} {cs : Array Value} (hs : Sh P ty n) (h : Bk tb w b cs) (hn : cs.size = n) : (loadVar ty ⟨b, 0, none⟩).run P w = .ok (.agg cs) w := by
  subst hn
  obtain ⟨d, h1, h3⟩ := hs
  exact run_loadVar_row w b tb ty cs (0, 0) _ h h1 rfl h3
theorem run_loadK {o : Oper} {ρ : Operand → Value} {x : Operand} {b n : Nat} {ty tb : TypeId} {cs : Array Value} {w : World} (hs : Sh P ty n) (ho : o.op = .load ty x) (hx : ρ x = .pointer (some ⟨b, 0, none⟩)) (hb : Bk tb w b cs) (hn : cs.size = n) :
    (execOp ρ o).run P w = .ok (.value (.agg cs)) w := by
  unfold execOp
  simp only [ho, hx, Instr.loadAt, Instr.sureAddr, Sem.run_bind, Sem.run_pure, Result.andThen_ok, loadVarK hs hb hn]
end

end Go.Proofs.YtjhfpobjbijcpaaGreatDoor.Bk
namespace Go.Proofs.YtjhfpobjbijcpaaGreatDoor.Sx
open Go.ChangeShapes Go.WideShapes Go.ChangeAt Go.RowKit
open Go.Proofs.YtjhfpobjbijcpaaGreatDoor.Ms
open Go.Proofs.YtjhfpobjbijcpaaGreatDoor.Bk (Bk Sh)
set_option linter.unusedVariables false
set_option maxRecDepth 100000
set_option maxRecDepth 100000

/-- A Sub's cells. -/
def cellsS (x : El) : Array Value := #[.int .i64 x.2, .string x.1]
theorem add_at (g o j : Nat) : (⟨g, o, none⟩ : Addr).add j = ⟨g, o + j, none⟩ := by
  unfold Addr.add
  split
  · rename_i h; rw [h]; rfl
  · rfl
section
variable {P : Program} {ops : Array Oper} {Q : Exit → Act → World → Prop} {md : Region.Mode} {S : World → Prop}
end
section
variable {ops : Array Oper} {Q : Exit → Act → World → Prop} {md : Region.Mode} {S : World → Prop}
end
end Go.Proofs.YtjhfpobjbijcpaaGreatDoor.Sx
namespace Go.Proofs.YtjhfpobjbijcpaaGreatDoor.An
open Go.ChangeShapes Go.WideShapes Go.ChangeAt Go.RowKit
open Go.Proofs.YtjhfpobjbijcpaaGreatDoor.Ms
open Go.Proofs.YtjhfpobjbijcpaaGreatDoor.Box
set_option linter.unusedVariables false
set_option maxRecDepth 100000
set_option maxRecDepth 100000
/-- What stays: the message's copy, its lists. -/
structure Fs (w W : World) (g : Nat) (f : M) : Prop where
  m : Bx W g f
  i : f.In W
  bel : Below w.heap.size w W
theorem Fs.call {w W w' : World} {g : Nat} {f : M} (h : Fs w W g f) (hb : Below W.heap.size W w') : Fs w w' g f := ⟨h.m.below hb, h.i.below hb, h.bel.trans (hb.mono h.bel.size)⟩
theorem Fs.new (w : World) (m : M) (hm : m.In w) : Fs w (w.alloc (.cells m.cells 38)) w.heap.size m := ⟨Bx.new w m, hm.below (balloc (Below.refl _ w) _), balloc (Below.refl _ w) _⟩
theorem Fs.drew {w W : World} {g : Nat} {f : M} (h : Fs w W g f) : Fs w W.drew g f := ⟨h.m, ⟨h.i.d, h.i.s, h.i.dl, h.i.sl⟩, h.bel.drew⟩
theorem heldF {P : Program} {f : Nat} {args : Array Value} {v : Ending} {w W : World} {g : Nat} {m : M} (h : Calls P f args W fun e w' => e = v ∧ Below W.heap.size W w') (hS : Fs w W g m) : Calls P f args W fun e w' => e = v ∧ Fs w w' g m :=
  h.mono fun _ _ ⟨he, hb⟩ => ⟨he, hS.call hb⟩
theorem few_parts {m : M} (h : Few.fewB m = true) : m.ll.length ≤ 300 ∧ m.sl.length ≤ 60 ∧ ∀ x ∈ m.sl, x.1.size ≤ 1099511627776 := by
  unfold Few.fewB at h
  simp only [Bool.and_eq_true, decide_eq_true_eq] at h
  refine ⟨h.1.1.1.1.1.1.1, h.1.1.1.1.1.1.2, fun x hx => ?_⟩
  have h2 := h.2
  unfold Few.small at h2
  rw [List.all_eq_true] at h2
  have := h2 x hx
  rw [decide_eq_true_eq] at this
  omega
end Go.Proofs.YtjhfpobjbijcpaaGreatDoor.An
