/-
  Babel's messages in as few bytes as what is known lets, whole: their TLVs, the bytes, what is known behind them; taken where it is known they tell the message. No conditions.
  The library's contracts laid at this program, in plain words: each laying is a table of numbers and one theorem; each contract one application. No condition beyond those that each states.
  strings.Builder's writers and String at a builder of the call's own, as lists of bytes; strings.HasPrefix. Condition: at most 2^47 bytes.
-/
import Derived.Test.YtbfjebfodaoikaaGreatDoorA14
import Derived.Shelf.Strings.Builder1
import Derived.Shelf.Strings.Builder2
import Derived.Test.YtbfjebfodaoikaaGreatDoorProg
import Derived.Test.YtbfjebfodaoikaaGreatDoorRows
import Derived.WalkKit
import Derived.ProofKit
import Derived.OpenShut
import Derived.ShutString
import Derived.Below
import Derived.Lib.Hide
import Derived.WalkLawsBesides
import Derived.Outline
import Derived.RegionTactic
import Derived.Deep.RegionWith
import Derived.StillTailTactics
import Derived.Deep.RegionHeld3
import Derived.Deep.QuietTactic
import Derived.BigQuiet
import Derived.IntWalk
import Derived.OwnWalk
import Derived.Laws.CopyOwn
namespace Go.Proofs.YtbfjebfodaoikaaGreatDoor.L2
open Go.ChangeShapes Go.WideShapes Go.ChangeAt Go.RowKit
open Go.Proofs.YtbfjebfodaoikaaGreatDoor.Ms
open Go.Proofs.YtbfjebfodaoikaaGreatDoor.S1 (okS outS putS)
open Go.Proofs.YtbfjebfodaoikaaGreatDoor.G1 (outF okF typF datF)
open Go.Proofs.YtbfjebfodaoikaaGreatDoor.J1
open Go.Proofs.YtbfjebfodaoikaaGreatDoor.K1
open Go.Proofs.YtbfjebfodaoikaaGreatDoor.I1
open Go.Proofs.YtbfjebfodaoikaaGreatDoor.L1
open Go.Proofs.YtbfjebfodaoikaaGreatDoor.Pre (leadN leastN)
open Go.Proofs.YtbfjebfodaoikaaGreatDoor.Own (ownM)
open Go.Proofs.YtbfjebfodaoikaaGreatDoor.F1 (T okT okT_nil encT enc1 ok1 outT placed encT_append encT_cons encT_nil enc1_len okT_append)
open Go.Proofs.YtbfjebfodaoikaaGreatDoor.Nu
set_option linter.unusedVariables false
set_option maxRecDepth 100000
set_option maxRecDepth 100000

def okO (m : M) : Bool := decide (m.kind = 14) && (bare m && (decide (11 ≤ m.typ) && (decide (m.typ ≤ 255) && decide (m.data.size ≤ 255))))
/-- May it be a message of Babel? -/
def okL (m : M) : Bool := okF m || (okJ m || (okU m || okO m))
theorem kind_F {m : M} (h : okF m = true) : 7 ≤ m.kind ∧ m.kind ≤ 10 := by
  rcases G1.kind_cases ((G1.ok_iff m).1 h).kind with k | k | ⟨k, _⟩ | ⟨k, _⟩ <;> omega
theorem kind_J {m : M} (h : okJ m = true) : m.kind = 12 ∨ m.kind = 13 := by
  rcases J1.kind_cases ((J1.ok_iff m).1 h).kind with k | ⟨k, _⟩ <;> omega
theorem o_parts {m : M} (h : okO m = true) : m.kind = 14 ∧ bare m = true ∧ 11 ≤ m.typ ∧ m.typ ≤ 255 ∧ m.data.size ≤ 255 := by
  unfold okO at h
  simpa only [Bool.and_eq_true, decide_eq_true_eq] using h
theorem ok_u {m : M} (h : okL m = true) (k : m.kind = 11) : okU m = true := by
  unfold okL at h
  simp only [Bool.or_eq_true] at h
  rcases h with h | h | h | h
  · have := kind_F h; omega
  · have := kind_J h; omega
  · exact h
  · have := (o_parts h).1; omega
theorem ok_not {m : M} (h : okL m = true) (k : ¬ m.kind = 11) : okF m = true ∨ (okF m = false ∧ okJ m = true) ∨ (okF m = false ∧ okJ m = false ∧ okO m = true) := by
  unfold okL at h
  simp only [Bool.or_eq_true] at h
  rcases h with h | h | h | h
  · exact .inl h
  · refine .inr (.inl ⟨?_, h⟩)
    rcases hF : okF m with _ | _
    · rfl
    · have := kind_F hF; have := kind_J h; omega
  · exact absurd ((oku_iff m).1 h).kind k
  · have k14 := (o_parts h).1
    refine .inr (.inr ⟨?_, ?_, h⟩)
    · rcases hF : okF m with _ | _
      · rfl
      · have := kind_F hF; omega
    · rcases hJ : okJ m with _ | _
      · rfl
      · have := kind_J hJ; omega
/-- The TLV of a message that is no Update. -/
def othE (m : M) : F1.El := if okF m = true then (datF m, typF m) else if okJ m = true then (datJ m, typJ m) else (m.data, m.typ)
theorem oth_one {m : M} (h : okL m = true) (k : ¬ m.kind = 11) (c : Kx) : one c (othE m).2 (othE m).1 = (c, [canM m], 0) ∧ ok1 (othE m) ∧ ¬ (othE m).2 = 0 := by
  unfold othE
  rcases ok_not h k with hF | ⟨nF, hJ⟩ | ⟨nF, nJ, hO⟩
  · rw [if_pos hF]
    have hl := G1.fld_len hF
    refine ⟨?_, (G1.putF_ok hF).2, by show ¬ typF m = 0; omega⟩
    rw [one_f hl.2.1 hl.2.2, G1.put_back hF]
    rfl
  · rw [if_neg (by rw [nF]; decide), if_pos hJ]
    have hl := (J1.fld_len hJ).2
    refine ⟨?_, (J1.putJ_ok hJ).2, by show ¬ typJ m = 0; omega⟩
    rw [one_j hl, J1.put_back hJ]
    rfl
  · rw [if_neg (by rw [nF]; decide), if_neg (by rw [nJ]; decide)]
    obtain ⟨o1, o2, o3, o4, o5⟩ := o_parts hO
    refine ⟨?_, ⟨by show 0 ≤ m.typ; omega, o4, o5, fun h0 => absurd h0 (by show ¬ m.typ = 0; omega)⟩, by show ¬ m.typ = 0; omega⟩
    rw [one_o (.inr (by show 10 < m.typ; omega)), can_14 o1]
/-- How many bytes of an Update's prefix are left out. -/
def omN (c : Kx) (m : M) : Nat := if m.ae = 0 ∨ (c.pf m.ae).size = 0 then 0 else leadN ⟨((c.pf m.ae).data.toList.drop (baseN m.ae)).toArray⟩ (cutP m.ae m.pfx m.plen)
theorem om_le {c : Kx} {m : M} (h : okU m = true) : omN c m ≤ countN m.ae m.plen ∧ (0 < omN c m → ¬ (c.pf m.ae).size = 0 ∧ ¬ m.ae = 0) ∧ ((c.pf m.ae).data.toList.drop (baseN m.ae)).take (omN c m) = (cutP m.ae m.pfx m.plen).data.toList.take (omN c m) := by
  have hz := cut_size ((oku_iff m).1 h).pfx
  unfold omN
  by_cases h0 : m.ae = 0 ∨ (c.pf m.ae).size = 0
  · rw [if_pos h0]
    exact ⟨Nat.zero_le _, fun h => absurd h (Nat.lt_irrefl 0), rfl⟩
  · rw [if_neg h0]
    refine ⟨?_, fun _ => ⟨fun k => h0 (.inr k), fun k => h0 (.inl k)⟩, ?_⟩
    · rw [← hz]; exact (Ld.lead_le _ _).2
    · have := congrArg (fun b : ByteArray => b.data.toList) (Ld.lead_same ⟨((c.pf m.ae).data.toList.drop (baseN m.ae)).toArray⟩ (cutP m.ae m.pfx m.plen))
      simp only [ext_list, List.drop_zero, Nat.sub_zero] at this
      exact this
/-- The TLVs ahead of an Update, what is known behind them. -/
def wayE (c : Kx) (m : M) : List F1.El := if m.metric = 65535 then [] else (if m.id = c.id then [] else [(idD m.id, 6)]) ++ (if m.next = c.nx (fam m.ae) then [] else [(hopD m.next, 7)])
def wayC (c : Kx) (m : M) : Kx := if m.metric = 65535 then c else ({ c with id := m.id } : Kx).setN (fam m.ae) m.next
/-- A next hop is known, and the message says none. -/
def badC (c : Kx) (m : M) : Bool := decide (m.kind = 11) && (!decide (m.metric = 65535) && (decide (m.next.size = 0) && !decide ((c.nx (fam m.ae)).size = 0)))
def elsL (c : Kx) (m : M) : List F1.El := if m.kind = 11 then wayE c m ++ [(updD m (omN c m), 8)] else [othE m]
def ctxL (c : Kx) (m : M) : Kx := if m.kind = 11 then knowP (wayC c m) m else c
theorem set_same {c : Kx} {ae : Int} {a : ByteArray} (h : a = c.nx (fam ae)) : c.setN (fam ae) a = c := by
  subst h
  unfold Kx.setN Kx.nx
  split <;> rfl
theorem near_next {c : Kx} {m : M} (h : okU m = true) (hm : ¬ m.metric = 65535) (hb : badC c m = false) : m.next = c.nx (fam m.ae) ∨ ((m.next.size = 4 ∨ m.next.size = 16) ∧ famA m.next = fam m.ae) := by
  have o := (oku_iff m).1 h
  obtain ⟨w1, _, w3⟩ := way_near o.way hm
  obtain ⟨a0, a1, _, _⟩ := len_range (in_cases o.pfx).1
  by_cases hz : m.next.size = 0
  · left
    unfold badC at hb
    rw [decide_eq_true o.kind, decide_eq_false hm, decide_eq_true hz] at hb
    simp only [Bool.not_false, Bool.true_and, Bool.not_eq_false', decide_eq_true_eq] at hb
    rw [empty_of hz, empty_of hb]
  · have hf : famA m.next = fam m.ae := by rcases w3 with k | k; exact absurd k hz; exact k
    have h0 : ¬ fam m.ae = -1 := by
      unfold fam
      rcases (show m.ae = 1 ∨ m.ae = 2 ∨ m.ae = 3 by omega) with k | k | k <;> rw [k] <;> decide
    refine .inr ⟨?_, hf⟩
    unfold famA at hf
    by_cases h4 : m.next.size = 4
    · exact .inl h4
    · by_cases h16 : m.next.size = 16
      · exact .inr h16
      · rw [if_neg h4, if_neg h16] at hf
        exact absurd hf.symm h0
theorem way_pf (c : Kx) (m : M) (ae : Int) : (wayC c m).pf ae = c.pf ae := by
  have hs : ∀ (x : Kx) (f : Int) (a : ByteArray), (x.setN f a).pf ae = x.pf ae := fun x f a => by unfold Kx.setN; split <;> rfl
  unfold wayC
  split
  · rfl
  · rw [hs]; rfl
theorem id_ok {a : ByteArray} (h : a.size = 8) : ok1 (idD a, 6) ∧ (idD a).size = 10 := by
  have : (idD a).size = 10 := by show (0 :: 0 :: a.data.toList).toArray.size = 10; simp; omega
  exact ⟨⟨by show (0 : Int) ≤ 6; decide, by show (6 : Int) ≤ 255; decide, by show (idD a).size ≤ 255; omega, fun h => absurd h (by show ¬ (6 : Int) = 0; decide)⟩, this⟩
theorem hop_ok {a : ByteArray} (h : a.size = 4 ∨ a.size = 16) : ok1 (hopD a, 7) := by
  have := (L1.hop_size h).2
  exact ⟨by show (0 : Int) ≤ 7; decide, by show (7 : Int) ≤ 255; decide, by show (hopD a).size ≤ 255; omega, fun h => absurd h (by show ¬ (7 : Int) = 0; decide)⟩
theorem upd_ok1 {m : M} {n : Nat} (h : okU m = true) (hn : n ≤ countN m.ae m.plen) : ok1 (updD m n, 8) := by
  have := (upd_size h hn).2
  exact ⟨by show (0 : Int) ≤ 8; decide, by show (8 : Int) ≤ 255; decide, by show (updD m n).size ≤ 255; omega, fun h => absurd h (by show ¬ (8 : Int) = 0; decide)⟩
theorem okT_one {x : F1.El} (h : ok1 x) : okT [x] := fun y hy => by rw [List.mem_singleton] at hy; exact hy ▸ h
theorem els_ok {c : Kx} {m : M} (h : okL m = true) (hb : badC c m = false) : okT (elsL c m) := by
  unfold elsL
  by_cases k : m.kind = 11
  · rw [if_pos k]
    have hu := ok_u h k
    have ok := (oku_iff m).1 hu
    refine okT_append ?_ (okT_one (upd_ok1 hu (om_le hu).1))
    unfold wayE
    split
    · exact okT_nil
    · rename_i hm
      obtain ⟨w1, w2, w3⟩ := way_near ok.way hm
      refine okT_append ?_ ?_
      · split
        · exact okT_nil
        · exact okT_one (id_ok w2).1
      · split
        · exact okT_nil
        · rename_i hi
          rcases near_next hu hm hb with e | ⟨e1, _⟩
          · exact absurd e hi
          · exact okT_one (hop_ok e1)
  · rw [if_neg k]
    exact okT_one (oth_one h k c).2.1
/-- A message's bytes, what is known behind them, or why there are none. -/
def putL (c : Kx) (m : M) : ByteArray × Kx × Int := if okL m = true then (if badC c m = true then (ByteArray.empty, c, 9) else (⟨(encT (elsL c m)).toArray⟩, ctxL c m, 0)) else (ByteArray.empty, c, 1)
/-- Its plain bytes: those where nothing is known. -/
def plainL (m : M) : ByteArray × Bool := if okL m = true then (⟨(encT (elsL Kx.zero m)).toArray⟩, true) else (ByteArray.empty, false)
theorem bad_zero (m : M) : badC Kx.zero m = false := by
  unfold badC
  have : (Kx.zero.nx (fam m.ae)).size = 0 := by unfold Kx.nx; split <;> rfl
  rw [decide_eq_true this]
  simp
theorem om_zero (m : M) : omN Kx.zero m = 0 := by
  unfold omN
  rw [if_pos (.inr (by unfold Kx.pf; (repeat' split) <;> rfl))]
theorem len_one (x : F1.El) : (encT [x]).length = (enc1 x).length := by rw [encT_cons, encT_nil, List.append_nil]
end Go.Proofs.YtbfjebfodaoikaaGreatDoor.L2
namespace Go.Proofs
open Go.Shelf
def Tryz.lays169_ren : Go.Shelf.Ren := ⟨fun | 169 => 38 | n => n, fun | 70 => 55 | 9 => 9 | 0 => 0 | 72 => 58 | 37 => 56 | 127 => 77 | 3 => 3 | 5 => 5 | n => n, fun | n => n⟩
theorem Tryz.lays169 : Go.Proofs.Lays.n169 Tryz.prog Tryz.lays169_ren := {
  mixed := by kernel_rfl
  f169 := Tryz.func38.trans (congrArg some (by kernel_rfl))
  t0 := Tryz.underlying0
  a0 := Tryz.isAgg0
  z0 := Tryz.sizeOf0
  v0 := Tryz.zeroValue0
  t3 := Tryz.underlying3
  a3 := Tryz.isAgg3
  z3 := Tryz.sizeOf3
  v3 := Tryz.zeroValue3
  t9 := Tryz.underlying9
  a9 := Tryz.isAgg9
  z9 := Tryz.sizeOf9
  v9 := Tryz.zeroValue9
  t37 := Tryz.underlying56
  a37 := Tryz.isAgg56
  z37 := Tryz.sizeOf56
  v37 := Tryz.zeroValue56
  t70 := Tryz.underlying55
  a70 := Tryz.isAgg55
  z70 := Tryz.sizeOf55
  v70 := Tryz.zeroValue55
  t72 := Tryz.underlying58
  a72 := Tryz.isAgg58
  z72 := Tryz.sizeOf58
  v72 := Tryz.zeroValue58
  t127 := Tryz.underlying77
  a127 := Tryz.isAgg77
  z127 := Tryz.sizeOf77
  v127 := Tryz.zeroValue77 }
theorem Tryz.Builder_Extra_169 : Builder.Extra Tryz.prog Tryz.lays169_ren := {
  sizeBuilder := by kernel_rfl
  liesBuilder := by kernel_rfl
  t5 := Tryz.underlying5
  a5 := Tryz.isAgg5
  z5 := Tryz.sizeOf5
  v5 := Tryz.zeroValue5
  infoByte := by kernel_rfl
  cellsByte := by kernel_rfl
  sizeByte := by kernel_rfl
  neB5 := by decide }
open Go.RowKit in
theorem Tryz.Builder_String_any (B b : Nat) (l : List UInt8) (w : World) (h : Lib.IsBuilder 58 5 B b (Lib.byteCells l) w) (hBw : B ≤ w.heap.size) :
    Calls Tryz.prog 38 #[.pointer (some ⟨b, 0, none⟩)] w fun e w' => e = .returned (.string ⟨l.toArray⟩) ∧ Below B w w' := Any.Builder_String_any Tryz.lays169 Tryz.Builder_Extra_169 B b l w h hBw
def Tryz.lays165_ren : Go.Shelf.Ren := ⟨fun | 165 => 36 | 240 => 67 | 241 => 68 | 276 => 100 | 277 => 101 | n => n, fun | 70 => 55 | 3 => 3 | 0 => 0 | 4 => 4 | 9 => 9 | 20 => 20 | 72 => 58 | 37 => 56 | 164 => 97 | 5 => 5 | n => n, fun | n => n⟩
theorem Tryz.lays165 : Go.Proofs.Lays.n165 Tryz.prog Tryz.lays165_ren := {
  mixed := by kernel_rfl
  f165 := Tryz.func36.trans (congrArg some (by kernel_rfl))
  f240 := Tryz.func67.trans (congrArg some (by kernel_rfl))
  f241 := Tryz.func68.trans (congrArg some (by kernel_rfl))
  f276 := Tryz.func100.trans (congrArg some (by kernel_rfl))
  f277 := Tryz.func101.trans (congrArg some (by kernel_rfl))
  t0 := Tryz.underlying0
  a0 := Tryz.isAgg0
  z0 := Tryz.sizeOf0
  v0 := Tryz.zeroValue0
  t3 := Tryz.underlying3
  a3 := Tryz.isAgg3
  z3 := Tryz.sizeOf3
  v3 := Tryz.zeroValue3
  t4 := Tryz.underlying4
  a4 := Tryz.isAgg4
  z4 := Tryz.sizeOf4
  v4 := Tryz.zeroValue4
  t9 := Tryz.underlying9
  a9 := Tryz.isAgg9
  z9 := Tryz.sizeOf9
  v9 := Tryz.zeroValue9
  t20 := Tryz.underlying20
  a20 := Tryz.isAgg20
  z20 := Tryz.sizeOf20
  v20 := Tryz.zeroValue20
  t37 := Tryz.underlying56
  a37 := Tryz.isAgg56
  z37 := Tryz.sizeOf56
  v37 := Tryz.zeroValue56
  t70 := Tryz.underlying55
  a70 := Tryz.isAgg55
  z70 := Tryz.sizeOf55
  v70 := Tryz.zeroValue55
  t72 := Tryz.underlying58
  a72 := Tryz.isAgg58
  z72 := Tryz.sizeOf58
  v72 := Tryz.zeroValue58
  t164 := Tryz.underlying97
  a164 := Tryz.isAgg97
  z164 := Tryz.sizeOf97
  v164 := Tryz.zeroValue97 }
theorem Tryz.Builder_Extra_165 : Builder.Extra Tryz.prog Tryz.lays165_ren := {
  sizeBuilder := by kernel_rfl
  liesBuilder := by kernel_rfl
  t5 := Tryz.underlying5
  a5 := Tryz.isAgg5
  z5 := Tryz.sizeOf5
  v5 := Tryz.zeroValue5
  infoByte := by kernel_rfl
  cellsByte := by kernel_rfl
  sizeByte := by kernel_rfl
  neB5 := by decide }
open Go.RowKit in
theorem Tryz.Builder_Grow_fresh (B b n : Nat) (w : World) (hB : B ≤ b) (hbk : w.heap[b]? = some (.cells #[.pointer none, .slice none 0 0] 58 (0, 0))) (hBw : B ≤ w.heap.size) (hn : n ≤ 281474976710656) :
    Calls Tryz.prog 36 #[.pointer (some ⟨b, 0, none⟩), .int .i64 n] w fun e w' => e = .returned (.tuple #[]) ∧ (Lib.BuilderAt 58 5 B b (.pointer (some ⟨b, 0, none⟩)) [] w' ∧ Below B w w') := Any.Builder_Grow_fresh Tryz.lays165 Tryz.Builder_Extra_165 B b n w hB hbk hBw hn

end Go.Proofs
namespace Go.Proofs.YtbfjebfodaoikaaGreatDoor.Sb
open Go.ChangeShapes Go.WideShapes Go.ChangeAt Go.RowKit
set_option linter.unusedVariables false
set_option maxRecDepth 100000
set_option maxRecDepth 100000

/-- Blocks of other types, but block b, stand still. -/
def Oth (b : Nat) (w w' : World) : Prop := ∀ (k : Nat) (T : TypeId) (cs : Array Value), k ≠ b → T ≠ 5 → w.heap[k]? = some (.cells cs T (0, 0)) → w'.heap[k]? = some (.cells cs T (0, 0))
theorem Oth.refl (b : Nat) (w : World) : Oth b w w := fun _ _ _ _ _ h => h
theorem Oth.set {b : Nat} {w w' : World} (h : Oth b w w') (i : Nat) (v : Value) : Oth b w (w'.setCell ⟨b, i, none⟩ v) := fun g T cs h1 h2 h3 => (heap_setCell_other w' ⟨b, i, none⟩ g v h1).trans (h g T cs h1 h2 h3)
theorem Oth.grown {b B size n : Nat} {w w' w'' : World} {v : Value} {xs : List Value} (h : Oth b w w') (hown : w'.ownsRow B 5 1 v n xs) (hg : w'.grownBy w'' v.ownBlock) : Oth b w w'' := fun g T cs h1 h2 h3 => by
  have h4 := h g T cs h1 h2 h3
  rw [hg.block g (Array.getElem?_eq_some_iff.1 h4).1 (fun e => Lib.ownBlock_ne hown h4 h2 e.symm)]
  exact h4

/-- The call's own builder in block b holds the bytes l; what is new begins at block B. -/
def Bld (B b : Nat) (l : List UInt8) (w : World) : Prop := Lib.IsBuilder 58 5 B b (Lib.byteCells l) w

theorem infoB : (Tryz.prog.info? 5).map (fun i => (i.zero, i.size, i.bytes)) = some (some (.int .u8 0), 1, 1) := by kernel_rfl
theorem sizeB : (Tryz.prog.info? 58).map (·.size) = some 2 := by kernel_rfl
theorem liesB : liesAt Tryz.prog Tryz.prog.depth 58 (2 / Tryz.prog.cellsOf 58) 0 58 1 = true := by kernel_rfl

set_option maxHeartbeats 1000000 in
set_option maxRecDepth 100000 in
theorem check_used (b : Nat) (w : World) (h0 : w.cell? ⟨b, 0, none⟩ = some (.pointer (some ⟨b, 0, none⟩))) :
    Calls Tryz.prog 67 #[.pointer (some ⟨b, 0, none⟩)] w fun e w' => e = .returned (.tuple #[]) ∧ w' = w := by
  obtain ⟨j, hj, _⟩ := Option.map_eq_some_iff.1 sizeB
  go_enter Tryz.func67, Tryz.ntmps67
  go_wp2
  rw [Lib.run_neq_ptr_same w _ Tryz.underlying55 hj]
  go_wp2
  go_end0
  exact ⟨rfl, rfl⟩

set_option maxHeartbeats 1000000 in
set_option maxRecDepth 100000 in
theorem check_fresh (b : Nat) (w : World) (h0 : w.cell? ⟨b, 0, none⟩ = some (.pointer none)) (hsh : w.shape? b = some (58, 2)) (hfz : w.frozen? ⟨b, 0, none⟩ = false) :
    Calls Tryz.prog 67 #[.pointer (some ⟨b, 0, none⟩)] w fun e w' => e = .returned (.tuple #[]) ∧ w' = w.setCell ⟨b, 0, none⟩ (.pointer (some ⟨b, 0, none⟩)) := by
  obtain ⟨j, hj, hjs⟩ := Option.map_eq_some_iff.1 sizeB
  go_enter Tryz.func67, Tryz.ntmps67
  go_wp2
  rw [Lib.run_to_unsafe w ⟨b, 0, none⟩ Tryz.underlying55 Tryz.underlying97 hj (by rw [hjs]; decide) hsh (Nat.zero_lt_succ 1)]
  simp only [Result.andThen]
  rw [Oper.upon_value]
  go_wp2
  rw [run_callFunc_extern Tryz.func100 (by kernel_rfl) (by kernel_rfl) (by kernel_rfl) (e := Extern.AbiNoEscape.same) (by kernel_rfl)]
  rw [Lib.run_noEscape]
  simp only [Result.andThen]
  rw [Oper.upon_value]
  go_wp2
  rw [Lib.run_from_unsafe w ⟨b, 0, none⟩ Tryz.underlying97 Tryz.underlying55 hj hsh liesB]
  simp only [Result.andThen]
  rw [Oper.upon_value]
  go_wp2
  go_end0
  exact ⟨rfl, rfl⟩

set_option maxHeartbeats 1000000 in
theorem check_any (B b : Nat) (l : List UInt8) (w : World) (h : Bld B b l w) :
    Calls Tryz.prog 67 #[.pointer (some ⟨b, 0, none⟩)] w fun e w' => e = .returned (.tuple #[]) ∧ Lib.BuilderAt 58 5 B b (.pointer (some ⟨b, 0, none⟩)) (Lib.byteCells l) w' ∧ Below B w w' ∧ Oth b w w' := by
  rcases h with h | h
  · refine (check_fresh b w h.cell0 h.shape h.frozen0).mono ?_
    rintro e w' ⟨rfl, rfl⟩
    exact ⟨rfl, h.used _, (Below.refl B w).setCell (p := ⟨b, 0, none⟩) h.1 _, (Oth.refl b w).set 0 _⟩
  · refine (check_used b w h.cell0).mono ?_
    rintro e w' ⟨rfl, rfl⟩
    exact ⟨rfl, h, Below.refl B _, Oth.refl b _⟩

theorem lt_of_some {w : World} {b : Nat} {o : Obj} (h : w.heap[b]? = some o) : b < w.heap.size := by
  rcases Nat.lt_or_ge b w.heap.size with h' | h'
  · exact h'
  · simp [Array.getElem?_eq_none h'] at h
theorem neT : (58 : TypeId) ≠ 5 := by decide

set_option maxHeartbeats 2000000 in
set_option maxRecDepth 100000 in
theorem str_any (B b : Nat) (l : List UInt8) (s : ByteArray) (w : World) (h : Bld B b l w) (hlen : l.length + s.size ≤ 140737488355328) (hBw : B ≤ w.heap.size) :
    Calls Tryz.prog 37 #[.pointer (some ⟨b, 0, none⟩), .string s] w fun e w' => e = .returned (.tuple #[.int .i64 s.size, .nilIface]) ∧ Bld B b (l ++ s.data.toList) w' ∧ Below B w w' ∧ Oth b w w' := by
  obtain ⟨i0, hi, hz0, hz1, hz2⟩ := info_parts infoB
  have hbl := Lib.hid (Lib.byteCells_length l)
  have hcs : Lib.byteCells (l ++ s.data.toList) = Lib.byteCells l ++ Lib.strCells s := by rw [Lib.byteCells_append, Lib.strCells_eq]
  go_enter Tryz.func37, Tryz.ntmps37
  go_wp2_with (go_at_call 67; refine (check_any B b l _ h).mono ?_)
  rintro e w1 ⟨rfl, h1, hb1, ho1⟩
  have HO1 := Lib.hid ho1
  clear ho1
  obtain ⟨hB, v, hbk, hown, hne⟩ := h1
  have c0 : w1.cell? ⟨b, 0, none⟩ = some (.pointer (some ⟨b, 0, none⟩)) := by rw [Lib.cell_of_heap hbk]; rfl
  have c1 : w1.cell? ⟨b, 1, none⟩ = some v := by rw [Lib.cell_of_heap hbk]; rfl
  go_wp2_with (at_builtin; refine Lib.wpList_append_own_string _ rfl _ _ 56 9 rfl B 5 i0 Tryz.underlying56 Tryz.underlying9 hi hz0 hz1 hz2 _ _ _ rfl hown s rfl ?c3 ?c4 ?c5 ?_)
  case c3 => have := hbl.out; unfold maxLen; omega
  case c4 => have := hbl.out; omega
  case c5 => have := hb1.size; omega
  intro v' w2 hown' hgrow _
  have hlt : b < w1.heap.size := lt_of_some hbk
  have hb2 : w2.heap[b]? = some (.cells #[.pointer (some ⟨b, 0, none⟩), v] 58 (0, 0)) := by
    rw [hgrow.block b hlt (fun e => hne e.symm)]
    exact hbk
  have d0 : w2.cell? ⟨b, 0, none⟩ = some (.pointer (some ⟨b, 0, none⟩)) := by rw [Lib.cell_of_heap hb2]; rfl
  have d1 : w2.cell? ⟨b, 1, none⟩ = some v := by rw [Lib.cell_of_heap hb2]; rfl
  have f1 : w2.frozen? ⟨b, 1, none⟩ = false := Lib.frozen_of_heap hb2 1
  obtain ⟨ao, n', cap, rfl⟩ : ∃ ao n' cap, v' = .slice ao n' cap := by
    rcases hown'.2 with ⟨hv, _⟩ | ⟨g, cap, cur, hv, _⟩
    · exact ⟨_, _, _, hv⟩
    · exact ⟨_, _, _, hv⟩
  go_wp2
  go_ret2
  refine ⟨rfl, ?_, ?_⟩
  · rw [Bld, hcs]
    exact .inr (Lib.BuilderAt.put (T := 58) (e := 5) hB hb2 (bs' := Lib.byteCells l ++ Lib.strCells s) (by simpa [Lib.strCells_length] using hown') neT)
  · exact ⟨(hb1.grown hgrow (by have := hb1.size; omega) (fun k hk => (hown.lt k hk).1)).setCell (p := ⟨b, 1, none⟩) hB _, (Oth.grown (size := 0) HO1.out hown hgrow).set 1 _⟩

theorem text_any (B b : Nat) (l : List UInt8) (w : World) (h : Bld B b l w) (hBw : B ≤ w.heap.size) :
    Calls Tryz.prog 38 #[.pointer (some ⟨b, 0, none⟩)] w fun e w' => e = .returned (.string ⟨l.toArray⟩) ∧ Below B w w' :=
  Tryz.Builder_String_any B b l w h hBw

theorem own_kept {w w' : World} {B e size n : Nat} {v : Value} {xs : List Value} (h : w.ownsRow B e size v n xs) (hb : Below w.heap.size w w') : w'.ownsRow B e size v n xs := by
  refine ⟨h.1, ?_⟩
  rcases h.2 with h | ⟨g, cap, cur, a, b, c, d⟩
  · exact .inl h
  · exact .inr ⟨g, cap, cur, a, b, by rw [hb.block g (lt_of_some c)]; exact c, d⟩
theorem bld_kept {B b : Nat} {l : List UInt8} {w w' : World} (h : Bld B b l w) (hb : Below w.heap.size w w') : Bld B b l w' := by
  rcases h with ⟨h1, v, h2, h3, h4⟩ | ⟨h1, v, h2, h3, h4⟩
  · exact .inl ⟨h1, v, by rw [hb.block b (lt_of_some h2)]; exact h2, own_kept h3 hb, h4⟩
  · exact .inr ⟨h1, v, by rw [hb.block b (lt_of_some h2)]; exact h2, own_kept h3 hb, h4⟩
end Go.Proofs.YtbfjebfodaoikaaGreatDoor.Sb
