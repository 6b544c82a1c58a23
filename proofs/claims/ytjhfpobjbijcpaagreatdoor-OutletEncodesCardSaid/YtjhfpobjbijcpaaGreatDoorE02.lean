/-
  What the bytes of TLVs are, which TLVs bytes are, and where they break off; a datagram's head: definitions on values alone, and facts on them. No conditions.
  What a message is, field by field, its lists beside it, and what it is for two to be the same: definitions and facts on values alone.
-/
import Derived.Test.YtjhfpobjbijcpaaGreatDoorE01
import Derived.Test.YtjhfpobjbijcpaaGreatDoorRows
import Derived.WalkKit
import Derived.ProofKit
import Derived.OpenShut
import Derived.ShutString
import Derived.Below
import Derived.Lib.Hide
import Derived.WalkLawsBesides
import Derived.Outline
import Derived.RegionTactic
import Derived.Deep.RegionWith
import Derived.StillTailTactics
import Derived.Deep.RegionHeld3
import Derived.Deep.QuietTactic
import Derived.BigQuiet
import Derived.IntWalk
import Derived.Laws.StructEq
import Derived.Laws.Cells
namespace Go.Proofs.YtjhfpobjbijcpaaGreatDoor.F1
open Go.ChangeShapes Go.WideShapes Go.ChangeAt Go.RowKit
open Go.Proofs.YtjhfpobjbijcpaaGreatDoor.Cur (numL)
open Go.Proofs.YtjhfpobjbijcpaaGreatDoor.Nu
set_option linter.unusedVariables false
set_option maxRecDepth 100000
set_option maxRecDepth 100000

/-- The i-th byte. -/
def bt (b : ByteArray) (i : Nat) : Int := ((b.data.toList.getD i 0).toNat : Int)
theorem bt_eq (b : ByteArray) (i : Nat) (h : i < b.size) : (b[i].toNat : Int) = bt b i := by
  unfold bt
  rw [List.getD_eq_getElem?_getD, List.getElem?_eq_getElem (by simpa using h)]
  rfl
theorem bt_nn (b : ByteArray) (i : Nat) : 0 ≤ bt b i := Int.natCast_nonneg _
theorem bt_lt (b : ByteArray) (i : Nat) : bt b i < 256 := by
  unfold bt
  have := UInt8.toNat_lt (b.data.toList.getD i 0)
  omega
theorem num_two (s : ByteArray) (p : Nat) (h : p + 1 < s.size) : ((numL ((s.data.toList.drop p).take 2) : Nat) : Int) = 256 * bt s p + bt s (p + 1) := by
  have hp : p < s.data.toList.length := by simp; omega
  have hq : p + 1 < s.data.toList.length := by simpa using h
  rw [← bt_eq s p (by omega), ← bt_eq s (p + 1) h, List.drop_eq_getElem_cons hp, List.drop_eq_getElem_cons hq]
  show (((0 * 256 + (s.data.toList[p]).toNat) * 256 + (s.data.toList[p + 1]).toNat : Nat) : Int) = _
  rw [Nat.zero_mul, Nat.zero_add]
  have e1 : s.data.toList[p] = s[p] := rfl
  have e2 : s.data.toList[p + 1] = s[p + 1] := rfl
  rw [e1, e2]
  push_cast
  omega

/-- A TLV: its data and its type; and with its place. -/
abbrev El := ByteArray × Int
abbrev T := Int × El
/-- A TLV's bytes. -/
def enc1 (x : El) : List UInt8 := if x.2 = 0 then [0] else UInt8.ofNat x.2.toNat :: UInt8.ofNat x.1.size :: x.1.data.toList
/-- The bytes of TLVs. -/
def encT (l : List El) : List UInt8 := l.flatMap enc1
def ok1 (x : El) : Prop := 0 ≤ x.2 ∧ x.2 ≤ 255 ∧ x.1.size ≤ 255 ∧ (x.2 = 0 → x.1 = ⟨#[]⟩)
def okT (l : List El) : Prop := ∀ x ∈ l, ok1 x
theorem okT_nil : okT [] := fun x hx => absurd hx (by simp)
theorem okT_append {a b : List El} (h : okT a) (hb : okT b) : okT (a ++ b) := fun y hy => by
  rcases List.mem_append.1 hy with h1 | h1
  · exact h y h1
  · exact hb y h1
theorem okT_cons {l : List El} {x : El} (h : okT (x :: l)) : ok1 x ∧ okT l := ⟨h x (by simp), fun y hy => h y (by simp [hy])⟩
theorem encT_nil : encT [] = [] := rfl
theorem encT_cons (x : El) (l : List El) : encT (x :: l) = enc1 x ++ encT l := by simp [encT]
theorem encT_append (a b : List El) : encT (a ++ b) = encT a ++ encT b := by simp [encT]
theorem encT_snoc (l : List El) (x : El) : encT (l ++ [x]) = encT l ++ enc1 x := by simp [encT]
theorem enc1_len (x : El) : (enc1 x).length = if x.2 = 0 then 1 else 2 + x.1.size := by
  unfold enc1
  split
  · rfl
  · simp; omega
theorem enc1_pos (x : El) : 1 ≤ (enc1 x).length := by rw [enc1_len]; split <;> omega
/-- The TLV with which bytes begin, and what is behind it. -/
def cut1 : List UInt8 → Option (El × List UInt8)
  | [] => none
  | t :: r => if t.toNat = 0 then some ((⟨#[]⟩, 0), r) else
    match r with
    | [] => none
    | n :: r => if n.toNat ≤ r.length then some ((⟨(r.take n.toNat).toArray⟩, (t.toNat : Int)), r.drop n.toNat) else none
theorem cut1_zero (t : UInt8) (r : List UInt8) (h : t.toNat = 0) : cut1 (t :: r) = some ((⟨#[]⟩, 0), r) := by unfold cut1; simp [h]
theorem cut1_lone (t : UInt8) (h : ¬ t.toNat = 0) : cut1 [t] = none := by unfold cut1; simp [h]
theorem cut1_two (t n : UInt8) (r : List UInt8) (h : ¬ t.toNat = 0) : cut1 (t :: n :: r) = if n.toNat ≤ r.length then some ((⟨(r.take n.toNat).toArray⟩, (t.toNat : Int)), r.drop n.toNat) else none := by
  unfold cut1; simp only [h, if_false]
theorem cut1_some {r r' : List UInt8} {x : El} (h : cut1 r = some (x, r')) : ok1 x ∧ r = enc1 x ++ r' := by
  match r, h with
  | t :: r, h =>
    by_cases ht : t.toNat = 0
    · rw [cut1_zero t r ht] at h
      simp only [Option.some.injEq, Prod.mk.injEq] at h
      obtain ⟨rfl, rfl⟩ := h
      have : t = 0 := UInt8.toNat_inj.1 ht
      subst this
      exact ⟨⟨by simp, by simp, by show (0 : Nat) ≤ 255; omega, fun _ => rfl⟩, rfl⟩
    · match r, h with
      | [], h => rw [cut1_lone t ht] at h; cases h
      | n :: r, h =>
        rw [cut1_two t n r ht] at h
        by_cases hn : n.toNat ≤ r.length
        · rw [if_pos hn] at h
          simp only [Option.some.injEq, Prod.mk.injEq] at h
          obtain ⟨rfl, rfl⟩ := h
          have hs : (⟨(r.take n.toNat).toArray⟩ : ByteArray).size = n.toNat := by show (r.take n.toNat).toArray.size = _; rw [List.size_toArray, List.length_take]; omega
          have ht' := UInt8.toNat_lt t
          have hn' := UInt8.toNat_lt n
          refine ⟨⟨by simp only []; omega, by simp only []; omega, by simp only []; rw [hs]; omega, by simp only []; omega⟩, ?_⟩
          unfold enc1
          simp only [hs]
          rw [if_neg (by omega)]
          simp
        · rw [if_neg hn] at h; cases h
theorem cut1_enc {x : El} (h : ok1 x) (r : List UInt8) : cut1 (enc1 x ++ r) = some (x, r) := by
  obtain ⟨⟨d⟩, t⟩ := x
  obtain ⟨h0, h1, h2, h3⟩ := h
  change d.size ≤ 255 at h2
  simp only [] at h0 h1 h3
  unfold enc1
  by_cases ht : t = 0
  · subst ht
    rw [if_pos rfl, h3 rfl]
    rfl
  · rw [if_neg ht]
    have e1 : (UInt8.ofNat t.toNat).toNat = t.toNat := by rw [UInt8.toNat_ofNat']; omega
    have e2 : (UInt8.ofNat d.size).toNat = d.size := by rw [UInt8.toNat_ofNat']; omega
    show cut1 (UInt8.ofNat t.toNat :: UInt8.ofNat d.size :: (d.toList ++ r)) = _
    rw [cut1_two _ _ _ (by rw [e1]; omega), e2, if_pos (by simp), e1]
    have : ((t.toNat : Nat) : Int) = t := by omega
    rw [this, List.take_left' (by simp), List.drop_left' (by simp)]

theorem all_bytes : ∀ (n : Nat) (s : List UInt8), s.length ≤ n → ∃ l r, okT l ∧ s = encT l ++ r ∧ cut1 r = none
  | 0, s, h => ⟨[], s, okT_nil, rfl, by rw [List.length_eq_zero_iff.1 (Nat.le_zero.1 h)]; rfl⟩
  | n + 1, s, h => by
    cases hc : cut1 s with
    | none => exact ⟨[], s, okT_nil, rfl, hc⟩
    | some p =>
      obtain ⟨x, r'⟩ := p
      obtain ⟨ho, he⟩ := cut1_some hc
      have hl : r'.length ≤ n := by
        have := congrArg List.length he
        rw [List.length_append] at this
        have := enc1_pos x
        omega
      obtain ⟨l, r, h1, h2, h3⟩ := all_bytes n r' hl
      refine ⟨x :: l, r, fun y hy => ?_, by rw [he, encT_cons, h2, List.append_assoc], h3⟩
      rcases List.mem_cons.1 hy with rfl | hy
      · exact ho
      · exact h1 y hy
theorem enc_inj {r r' : List UInt8} (hr : cut1 r = none) (hr' : cut1 r' = none) : ∀ {l l' : List El}, okT l → okT l' → encT l ++ r = encT l' ++ r' → l = l' ∧ r = r'
  | [], [], _, _, h => ⟨rfl, by simpa [encT] using h⟩
  | [], x :: l', _, h', h => by
    rw [encT_nil, List.nil_append, encT_cons, List.append_assoc] at h
    rw [h, cut1_enc (okT_cons h').1] at hr
    cases hr
  | x :: l, [], h', _, h => by
    rw [encT_nil, List.nil_append, encT_cons, List.append_assoc] at h
    rw [← h, cut1_enc (okT_cons h').1] at hr'
    cases hr'
  | x :: l, y :: l', h1, h2, h => by
    rw [encT_cons, encT_cons, List.append_assoc, List.append_assoc] at h
    have e := congrArg cut1 h
    rw [cut1_enc (okT_cons h1).1, cut1_enc (okT_cons h2).1] at e
    simp only [Option.some.injEq, Prod.mk.injEq] at e
    obtain ⟨rfl, e⟩ := e
    obtain ⟨rfl, rfl⟩ := enc_inj hr hr' (okT_cons h1).2 (okT_cons h2).2 e
    exact ⟨rfl, rfl⟩

/-- TLVs, each with its place, the first at p. -/
def placed (p : Int) : List El → List T
  | [] => []
  | x :: l => (p, x) :: placed (p + ((enc1 x).length : Int)) l
/-- The TLVs whose bytes these are, 0 and no error; or none, the place of the first that isn't all there, and the error. -/
def IsT (base : Int) (s : ByteArray) (o : List T × Int × Int) : Prop :=
  ∃ l r, okT l ∧ s.data.toList = encT l ++ r ∧ cut1 r = none ∧ o = if r = [] then (placed base l, 0, 0) else ([], base + ((encT l).length : Int), 2)
theorem isT_some (base : Int) (s : ByteArray) : ∃ o, IsT base s o := by
  obtain ⟨l, r, h1, h2, h3⟩ := all_bytes _ s.data.toList (Nat.le_refl _)
  exact ⟨_, l, r, h1, h2, h3, rfl⟩
theorem isT_one {base : Int} {s : ByteArray} {o o' : List T × Int × Int} (h : IsT base s o) (h' : IsT base s o') : o = o' := by
  obtain ⟨l, r, h1, h2, h3, rfl⟩ := h
  obtain ⟨l', r', h1', h2', h3', rfl⟩ := h'
  rw [h2] at h2'
  obtain ⟨rfl, rfl⟩ := enc_inj h3 h3' h1 h1' h2'
  rfl
noncomputable def outT (base : Int) (s : ByteArray) : List T × Int × Int := (isT_some base s).choose
theorem out_is (base : Int) (s : ByteArray) : IsT base s (outT base s) := (isT_some base s).choose_spec
theorem out_of {base : Int} {s : ByteArray} {o : List T × Int × Int} (h : IsT base s o) : outT base s = o := isT_one (out_is base s) h
theorem out_yes {base : Int} {s : ByteArray} {l : List El} (ho : okT l) (hs : s.data.toList = encT l) : outT base s = (placed base l, 0, 0) :=
  out_of ⟨l, [], ho, by rw [hs, List.append_nil], rfl, by rw [if_pos rfl]⟩
/-- The bytes of a datagram of that body. -/
def wrapL (s : ByteArray) : List UInt8 := 42 :: 2 :: (layN (s.size : Int) 2 ++ s.data.toList)
def wrap (s : ByteArray) : ByteArray := if s.size ≤ 65531 then ⟨(wrapL s).toArray⟩ else ⟨#[]⟩
/-- The bytes of a TLV, and whether it has them. -/
def putB (t : Int) (d : ByteArray) : Bool := decide (1 ≤ t) && decide (t ≤ 255) && decide (d.size ≤ 255)
def putO (t : Int) (d : ByteArray) : ByteArray := if putB t d = true then ⟨(UInt8.ofNat t.toNat :: UInt8.ofNat d.size :: d.data.toList).toArray⟩ else ⟨#[]⟩
theorem put_ok {x : El} (h : ok1 x) (h0 : ¬ x.2 = 0) : putB x.2 x.1 = true ∧ putO x.2 x.1 = ⟨(enc1 x).toArray⟩ := by
  obtain ⟨a, b, c, _⟩ := h
  have e : putB x.2 x.1 = true := by unfold putB; simp; omega
  refine ⟨e, ?_⟩
  unfold putO enc1
  rw [if_pos e, if_neg h0]
end Go.Proofs.YtjhfpobjbijcpaaGreatDoor.F1
namespace Go.Proofs.YtjhfpobjbijcpaaGreatDoor.Ms
open Go.ChangeShapes Go.WideShapes Go.ChangeAt Go.RowKit
set_option linter.unusedVariables false
set_option maxRecDepth 100000

/-- What stands in a list: a text and a number. -/
abbrev El := ByteArray × Int

/-- The elements of a list of Dest (text, number) stand in w. -/
def DRow (w : World) (a : Option Addr) (l : List El) : Prop :=
  ∀ i (h : i < l.length), ∃ p, a = some p ∧ p.block < w.heap.size ∧ w.cell? (p.add (i * 2)) = some (.string l[i].1) ∧ w.cell? ((p.add (i * 2)).add 1) = some (.int .i64 l[i].2)
/-- The elements of a list of Sub (number, text) stand in w. -/
def SRow (w : World) (a : Option Addr) (l : List El) : Prop :=
  ∀ i (h : i < l.length), ∃ p, a = some p ∧ p.block < w.heap.size ∧ w.cell? (p.add (i * 2)) = some (.int .i64 l[i].2) ∧ w.cell? ((p.add (i * 2)).add 1) = some (.string l[i].1)

theorem add_block (p : Addr) (n : Nat) : (p.add n).block = p.block := by unfold Addr.add; split <;> rfl

theorem DRow.below {w w' : World} {a : Option Addr} {l : List El} (h : DRow w a l) (hb : Below w.heap.size w w') : DRow w' a l := by
  intro i hi
  obtain ⟨p, h1, h2, h3, h4⟩ := h i hi
  refine ⟨p, h1, Nat.lt_of_lt_of_le h2 hb.size, ?_, ?_⟩
  · rw [hb.cell (by rw [add_block]; exact h2)]; exact h3
  · rw [hb.cell (by rw [add_block, add_block]; exact h2)]; exact h4
theorem SRow.below {w w' : World} {a : Option Addr} {l : List El} (h : SRow w a l) (hb : Below w.heap.size w w') : SRow w' a l := by
  intro i hi
  obtain ⟨p, h1, h2, h3, h4⟩ := h i hi
  refine ⟨p, h1, Nat.lt_of_lt_of_le h2 hb.size, ?_, ?_⟩
  · rw [hb.cell (by rw [add_block]; exact h2)]; exact h3
  · rw [hb.cell (by rw [add_block, add_block]; exact h2)]; exact h4
theorem DRow.nil (w : World) (a : Option Addr) : DRow w a [] := fun i hi => absurd hi (by simp)
theorem SRow.nil (w : World) (a : Option Addr) : SRow w a [] := fun i hi => absurd hi (by simp)

theorem take_two {α : Type} (x y : List α) (k : Nat) (hx : k < x.length) (hy : k < y.length) (h : x.take k = y.take k) (he : x[k] = y[k]) : x.take (k + 1) = y.take (k + 1) := by
  rw [List.take_succ_eq_append_getElem hx, List.take_succ_eq_append_getElem hy, h, he]

/-- A message. -/
structure M where
  kind : Int
  cmd : Int
  ver : Int
  auth : ByteArray
  family : Int
  ae : Int
  pfx : ByteArray
  plen : Int
  tag : Int
  next : ByteArray
  metric : Int
  id : ByteArray
  seq : Int
  seq2 : Int
  interval : Int
  flags : Int
  hops : Int
  nonce : Int
  cost : Int
  addr : ByteArray
  orig : ByteArray
  la : Option Addr
  ll : List El
  lc : Nat
  typ : Int
  data : ByteArray
  sa : Option Addr
  sl : List El
  sc : Nat

namespace M
def list (m : M) : Value := .slice m.la m.ll.length m.lc
def subs (m : M) : Value := .slice m.sa m.sl.length m.sc
def cells (m : M) : Array Value := #[.int .i64 m.kind, .int .i64 m.cmd, .int .i64 m.ver, .string m.auth, .int .i64 m.family, .int .i64 m.ae, .string m.pfx, .int .i64 m.plen, .int .i64 m.tag, .string m.next, .int .i64 m.metric, .string m.id, .int .i64 m.seq, .int .i64 m.seq2, .int .i64 m.interval, .int .i64 m.flags, .int .i64 m.hops, .int .i64 m.nonce, .int .i64 m.cost, .string m.addr, .string m.orig, m.list, .int .i64 m.typ, .string m.data, m.subs]
def flat (m : M) : Array Value := #[.int .i64 m.kind, .int .i64 m.cmd, .int .i64 m.ver, .string m.auth, .int .i64 m.family, .int .i64 m.ae, .string m.pfx, .int .i64 m.plen, .int .i64 m.tag, .string m.next, .int .i64 m.metric, .string m.id, .int .i64 m.seq, .int .i64 m.seq2, .int .i64 m.interval, .int .i64 m.flags, .int .i64 m.hops, .int .i64 m.nonce, .int .i64 m.cost, .string m.addr, .string m.orig, .int .i64 m.typ, .string m.data]
/-- The message's lists stand in w, and aren't long. -/
structure In (m : M) (w : World) : Prop where
  d : DRow w m.la m.ll
  s : SRow w m.sa m.sl
  dl : m.ll.length ≤ 1048576
  sl : m.sl.length ≤ 1048576
theorem In.below {m : M} {w w' : World} (h : m.In w) (hb : Below w.heap.size w w') : m.In w' := ⟨h.d.below hb, h.s.below hb, h.dl, h.sl⟩
/-- Are they the same, but for their lists? -/
def flatE (a b : M) : Bool := a.kind == b.kind && (a.cmd == b.cmd && (a.ver == b.ver && (a.auth.toList == b.auth.toList && (a.family == b.family && (a.ae == b.ae && (a.pfx.toList == b.pfx.toList && (a.plen == b.plen && (a.tag == b.tag && (a.next.toList == b.next.toList && (a.metric == b.metric && (a.id.toList == b.id.toList && (a.seq == b.seq && (a.seq2 == b.seq2 && (a.interval == b.interval && (a.flags == b.flags && (a.hops == b.hops && (a.nonce == b.nonce && (a.cost == b.cost && (a.addr.toList == b.addr.toList && (a.orig.toList == b.orig.toList && (a.typ == b.typ && a.data.toList == b.data.toList)))))))))))))))))))))
/-- Are they the same? -/
def same (a b : M) : Bool := flatE a b && (decide (a.ll = b.ll) && decide (a.sl = b.sl))
/-- A message without anything. -/
def zero : M := ⟨0, 0, 0, ByteArray.empty, 0, 0, ByteArray.empty, 0, 0, ByteArray.empty, 0, ByteArray.empty, 0, 0, 0, 0, 0, 0, 0, ByteArray.empty, ByteArray.empty, none, [], 0, 0, ByteArray.empty, none, [], 0⟩
end M

theorem eqF_int {P : Program} {W : World} {d : Nat} {f : Field} {fs : List Field} {xs ys : Array Value} {k k' : IntKind} {a b : Int} {r : Bool} (hn : f.name ≠ "_") (ht : P.underlying f.type = some (.int k'))
    (hx : (part f.type xs f.offset).run P W = .ok (.int k a) W) (hy : (part f.type ys f.offset).run P W = .ok (.int k b) W) (h : (Op.eqFields (d + 1) xs ys fs).run P W = .ok r W) :
    (Op.eqFields (d + 1) xs ys (f :: fs)).run P W = .ok (a == b && r) W := by
  simp only [Op.eqFields, ne_eq, hn, not_false_eq_true, if_true, Sem.run_bind, hx, hy, Result.andThen_ok, run_equalIn_int W d f.type k k' a b ht, Sem.run_ite, h, Sem.run_pure]
  cases a == b <;> simp
theorem eqF_str {P : Program} {W : World} {d : Nat} {f : Field} {fs : List Field} {xs ys : Array Value} {a b : ByteArray} {r : Bool} (hn : f.name ≠ "_") (ht : P.underlying f.type = some .string)
    (hx : (part f.type xs f.offset).run P W = .ok (.string a) W) (hy : (part f.type ys f.offset).run P W = .ok (.string b) W) (h : (Op.eqFields (d + 1) xs ys fs).run P W = .ok r W) :
    (Op.eqFields (d + 1) xs ys (f :: fs)).run P W = .ok (a.toList == b.toList && r) W := by
  simp only [Op.eqFields, ne_eq, hn, not_false_eq_true, if_true, Sem.run_bind, hx, hy, Result.andThen_ok, run_equalIn_string W d f.type a b ht, Sem.run_ite, h, Sem.run_pure]
  cases a.toList == b.toList <;> simp

theorem eqFlat (a b : M) (W : World) : (Op.equalIn 10000 126 (.agg a.flat) (.agg b.flat)).run Tryz.prog W = .ok (M.flatE a b) W := by
  have hf : Tryz.prog.underlying 126 = some (.struct (Tryz.prog.fieldsOf 126)) := by kernel_rfl
  have hp : Tryz.prog.stoodInHeld 126 = false := by kernel_rfl
  have he : M.flatE a b = (a.kind == b.kind && (a.cmd == b.cmd && (a.ver == b.ver && (a.auth.toList == b.auth.toList && (a.family == b.family && (a.ae == b.ae && (a.pfx.toList == b.pfx.toList && (a.plen == b.plen && (a.tag == b.tag && (a.next.toList == b.next.toList && (a.metric == b.metric && (a.id.toList == b.id.toList && (a.seq == b.seq && (a.seq2 == b.seq2 && (a.interval == b.interval && (a.flags == b.flags && (a.hops == b.hops && (a.nonce == b.nonce && (a.cost == b.cost && (a.addr.toList == b.addr.toList && (a.orig.toList == b.orig.toList && (a.typ == b.typ && (a.data.toList == b.data.toList && true))))))))))))))))))))))) := by
    unfold M.flatE; rw [Bool.and_true (a.data.toList == b.data.toList)]
  rw [run_equalIn_struct W 9999 126 a.flat b.flat hf hp, he]
  simp only [Program.fieldsOf, Tryz.underlying126]
  refine eqF_int (by decide) Tryz.underlying3 rfl rfl ?_
  refine eqF_int (by decide) Tryz.underlying3 rfl rfl ?_
  refine eqF_int (by decide) Tryz.underlying3 rfl rfl ?_
  refine eqF_str (by decide) Tryz.underlying9 rfl rfl ?_
  refine eqF_int (by decide) Tryz.underlying3 rfl rfl ?_
  refine eqF_int (by decide) Tryz.underlying3 rfl rfl ?_
  refine eqF_str (by decide) Tryz.underlying9 rfl rfl ?_
  refine eqF_int (by decide) Tryz.underlying3 rfl rfl ?_
  refine eqF_int (by decide) Tryz.underlying3 rfl rfl ?_
  refine eqF_str (by decide) Tryz.underlying9 rfl rfl ?_
  refine eqF_int (by decide) Tryz.underlying3 rfl rfl ?_
  refine eqF_str (by decide) Tryz.underlying9 rfl rfl ?_
  refine eqF_int (by decide) Tryz.underlying3 rfl rfl ?_
  refine eqF_int (by decide) Tryz.underlying3 rfl rfl ?_
  refine eqF_int (by decide) Tryz.underlying3 rfl rfl ?_
  refine eqF_int (by decide) Tryz.underlying3 rfl rfl ?_
  refine eqF_int (by decide) Tryz.underlying3 rfl rfl ?_
  refine eqF_int (by decide) Tryz.underlying3 rfl rfl ?_
  refine eqF_int (by decide) Tryz.underlying3 rfl rfl ?_
  refine eqF_str (by decide) Tryz.underlying9 rfl rfl ?_
  refine eqF_str (by decide) Tryz.underlying9 rfl rfl ?_
  refine eqF_int (by decide) Tryz.underlying3 rfl rfl ?_
  refine eqF_str (by decide) Tryz.underlying9 rfl rfl ?_
  rfl

theorem run_eqlFlat (a b : M) (W : World) : (binOp .eql 126 (.agg a.flat) (.agg b.flat)).run Tryz.prog W = .ok (.bool (M.flatE a b)) W := by
  rw [run_eql_struct, eqFlat]; rfl
theorem run_guardFlat (a b : M) (x y : Operand) (W : World) : (eqGuard .eql 126 x y (.agg a.flat) (.agg b.flat)).run Tryz.prog W = .ok () W := run_eqGuard_agg W .eql _ x y a.flat b.flat (by kernel_rfl)

def elE (x y : El) : Bool := decide (x = y)
theorem bytes_beq (a b : ByteArray) : (a.toList == b.toList) = decide (a = b) := by
  rw [← beq_toListBytes]
  by_cases h : a = b
  · subst h; rw [beq_toListBytes]; simp
  · have : (a == b) = false := by
      rw [beq_toListBytes]
      simp only [ByteArray.toList_eq, beq_eq_false_iff_ne, ne_eq]
      intro h2
      exact h (ByteArray.ext (Array.ext' h2))
    rw [this]; simp [h]
theorem elE_eq (x y : El) : elE x y = (x.1.toList == y.1.toList && (x.2 == y.2 && true)) := by
  obtain ⟨a, n⟩ := x
  obtain ⟨b, m⟩ := y
  unfold elE
  rw [bytes_beq, Bool.and_true]
  by_cases h1 : a = b <;> by_cases h2 : n = m <;> simp [h1, h2]
theorem elE_eq' (x y : El) : elE x y = (x.2 == y.2 && (x.1.toList == y.1.toList && true)) := by
  rw [elE_eq, Bool.and_true, Bool.and_true, Bool.and_comm]

theorem run_neqDest (x y : El) (W : World) : (binOp .neq 57 (.agg #[.string x.1, .int .i64 x.2]) (.agg #[.string y.1, .int .i64 y.2])).run Tryz.prog W = .ok (.bool (!elE x y)) W := by
  have hf : Tryz.prog.underlying 57 = some (.struct (Tryz.prog.fieldsOf 57)) := by kernel_rfl
  have hp : Tryz.prog.stoodInHeld 57 = false := by kernel_rfl
  have hq : (Op.equalIn 10000 57 (.agg #[.string x.1, .int .i64 x.2]) (.agg #[.string y.1, .int .i64 y.2])).run Tryz.prog W = .ok (elE x y) W := by
    rw [run_equalIn_struct W 9999 57 _ _ hf hp, elE_eq]
    simp only [Program.fieldsOf, Tryz.underlying57]
    refine eqF_str (by decide) Tryz.underlying9 rfl rfl ?_
    refine eqF_int (by decide) Tryz.underlying3 rfl rfl ?_
    rfl
  rw [run_neq_struct, hq]; rfl
theorem run_neqSub (x y : El) (W : World) : (binOp .neq 59 (.agg #[.int .i64 x.2, .string x.1]) (.agg #[.int .i64 y.2, .string y.1])).run Tryz.prog W = .ok (.bool (!elE x y)) W := by
  have hf : Tryz.prog.underlying 59 = some (.struct (Tryz.prog.fieldsOf 59)) := by kernel_rfl
  have hp : Tryz.prog.stoodInHeld 59 = false := by kernel_rfl
  have hq : (Op.equalIn 10000 59 (.agg #[.int .i64 x.2, .string x.1]) (.agg #[.int .i64 y.2, .string y.1])).run Tryz.prog W = .ok (elE x y) W := by
    rw [run_equalIn_struct W 9999 59 _ _ hf hp, elE_eq']
    simp only [Program.fieldsOf, Tryz.underlying59]
    refine eqF_int (by decide) Tryz.underlying3 rfl rfl ?_
    refine eqF_str (by decide) Tryz.underlying9 rfl rfl ?_
    rfl
  rw [run_neq_struct, hq]; rfl
theorem run_guardDest (x y : El) (o p : Operand) (W : World) : (eqGuard .neq 57 o p (.agg #[.string x.1, .int .i64 x.2]) (.agg #[.string y.1, .int .i64 y.2])).run Tryz.prog W = .ok () W := run_eqGuard_agg W .neq _ o p _ _ (by kernel_rfl)
theorem run_guardSub (x y : El) (o p : Operand) (W : World) : (eqGuard .neq 59 o p (.agg #[.int .i64 x.2, .string x.1]) (.agg #[.int .i64 y.2, .string y.1])).run Tryz.prog W = .ok () W := run_eqGuard_agg W .neq _ o p _ _ (by kernel_rfl)

theorem indexD (p : Addr) (n c i : Nat) (h : i < n) (W : World) : (Instr.indexAt 35 (.slice (some p) n c) (.int .i64 (i : Int))).run Tryz.prog W = .ok (.pointer (some (p.add (i * 2)))) W := by
  have he : Tryz.prog.elem 35 = 57 := by simp [Program.elem, Tryz.underlying35]
  have hz : (sizeOf 57).run Tryz.prog W = .ok 2 W := by go_simp
  rw [run_indexAt_slice W 35 p n c .i64 (i : Int) (by rw [he]; exact Tryz.underlying35), if_pos (by omega), he, hz]
  rfl
theorem indexS (p : Addr) (n c i : Nat) (h : i < n) (W : World) : (Instr.indexAt 36 (.slice (some p) n c) (.int .i64 (i : Int))).run Tryz.prog W = .ok (.pointer (some (p.add (i * 2)))) W := by
  have he : Tryz.prog.elem 36 = 59 := by simp [Program.elem, Tryz.underlying36]
  have hz : (sizeOf 59).run Tryz.prog W = .ok 2 W := by go_simp
  rw [run_indexAt_slice W 36 p n c .i64 (i : Int) (by rw [he]; exact Tryz.underlying36), if_pos (by omega), he, hz]
  rfl
theorem add_one (p : Addr) : p.add 1 = ⟨p.block, p.off + 1, none⟩ := rfl
theorem bool_eq {a b : Bool} (h : a = b) : Ending.returned (.bool a) = .returned (.bool b) := by rw [h]
theorem bcall {w W w1 : World} (h : Below w.heap.size w W) (hb : Below W.heap.size W w1) : Below w.heap.size w w1 := h.trans (hb.mono h.size)
theorem balloc {w W : World} (h : Below w.heap.size w W) (o : Obj) : Below w.heap.size w (W.alloc o) := h.alloc h.size o
end Go.Proofs.YtjhfpobjbijcpaaGreatDoor.Ms
