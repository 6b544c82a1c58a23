/-
  What the rows' condition gives the walks: the cells of the listed variables when the call begins; that they hold the same as long as nothing that was there is changed.
-/
import Derived.Test.YtjppfalckfmalaaDoorRows
import Derived.Below
import Derived.OpenShut
import Derived.LaidLaws
import Derived.LaidMore
import Derived.Lib.LaidTab
import Derived.Lib.SmallJoins
import Derived.Lib.ItoaNum
import Derived.Stop.LaidErr
namespace Go.Proofs.YtjppfalckfmalaaDoor.Tab
open Go.RowKit Go.ChangeShapes Go.WideShapes Go.Joins

/-- What is read of the variables, in the first world. -/
structure Met (w : World) : Prop where
  s0 : w.cell? ⟨0, 0, none⟩ = some (.string ⟨#[46]⟩)
  s1 : w.cell? ⟨0, 1, none⟩ = some (.int .i64 4)
  s2 : w.cell? ⟨0, 2, none⟩ = some (.int .i64 1)
  s3 : w.cell? ⟨0, 3, none⟩ = some (.int .i64 10)
  s4 : w.cell? ⟨0, 4, none⟩ = some (.string ⟨#[58]⟩)
  s5 : w.cell? ⟨0, 5, none⟩ = some (.int .i64 8)
  s6 : w.cell? ⟨0, 6, none⟩ = some (.int .i64 2)
  s7 : w.cell? ⟨0, 7, none⟩ = some (.int .i64 16)
  pow : Lib.TabIs Tryd.prog w "internal/strconv.uint64pow10" .u64 Lib.pow10Tab
  tz : w.cell? ⟨6, 15, none⟩ = some (.int .u8 4)
  esyn : ∃ t p, w.cell? ⟨2, 0, none⟩ = some (.iface t p)
  erng : ∃ t p, w.cell? ⟨3, 0, none⟩ = some (.iface t p)

theorem g0 : Tryd.prog.globalNamed "roadbook/addr.styles" = some 0 := by kernel_rfl
theorem g1 : Tryd.prog.globalNamed "internal/strconv.uint64pow10" = some 1 := by kernel_rfl
theorem g2 : Tryd.prog.globalNamed "strconv.ErrSyntax" = some 2 := by kernel_rfl
theorem g3 : Tryd.prog.globalNamed "strconv.ErrRange" = some 3 := by kernel_rfl
theorem g6 : Tryd.prog.globalNamed "math/bits.deBruijn64tab" = some 6 := by kernel_rfl
theorem t0 : (Tryd.prog.globals[0]?).map (·.type) = some 31 := by kernel_rfl
theorem t1 : (Tryd.prog.globals[1]?).map (·.type) = some 74 := by kernel_rfl
theorem t6 : (Tryd.prog.globals[6]?).map (·.type) = some 90 := by kernel_rfl

def tz64 : List Int := [0, 1, 56, 2, 57, 49, 28, 3, 61, 58, 42, 50, 38, 29, 17, 4, 62, 47, 59, 36, 45, 43, 51, 22, 53, 39, 33, 30, 24, 18, 12, 5,
  63, 55, 48, 27, 60, 41, 37, 16, 46, 35, 44, 21, 52, 32, 23, 11, 54, 26, 40, 15, 34, 20, 31, 10, 25, 14, 19, 9, 13, 8, 7, 6]

theorem iface_head {n nm : String} {d : DataW Unit} {r : List (String × DataW Unit)} {W : World} {g : Nat} {ti : TypeId} {ms : Array (String × TypeId)}
    (h : laidMet Tryd.prog ((n, .iface nm d) :: r) W) (hg : Tryd.prog.globalNamed n = some g) (ht : (Tryd.prog.globals[g]?).map (·.type) = some ti) (hi : Tryd.prog.underlying ti = some (.interface ms)) :
    ∃ t p, W.cell? ⟨g, 0, none⟩ = some (.iface t p) := by
  obtain ⟨ps, ⟨g', t', cs, f, p, q, hg', ht', hv, hd, _, _⟩, _⟩ := h
  obtain rfl := Option.some.inj (hg.symm.trans hg')
  obtain rfl := Option.some.inj (ht.symm.trans ht')
  obtain ⟨f1, u, v, hcs, _, _⟩ := iface_of_trod hi hd
  refine ⟨u, v, ?_⟩
  have := World.var?_cell hg hv 0
  rw [Array.eq_one_of_toList hcs] at this
  simpa using this

theorem eight {α : Type} (l : List α) (h : l.length = 8) : ∃ a b c d e f g i, l = [a, b, c, d, e, f, g, i] := by
  match l, h with
  | [a, b, c, d, e, f, g, i], _ => exact ⟨a, b, c, d, e, f, g, i, rfl⟩
theorem bytes_of {s : ByteArray} {l : List UInt8} (h : s.data.toList = l) : s = ⟨l.toArray⟩ := by
  apply ByteArray.ext
  rw [← h]

theorem styles_head {r : List (String × DataW Unit)} {w : World} (h : laidMet Tryd.prog (("roadbook/addr.styles", Rows.laid_roadbook_addr_styles) :: r) w) :
    w.cell? ⟨0, 0, none⟩ = some (.string ⟨#[46]⟩) ∧ w.cell? ⟨0, 1, none⟩ = some (.int .i64 4) ∧ w.cell? ⟨0, 2, none⟩ = some (.int .i64 1) ∧ w.cell? ⟨0, 3, none⟩ = some (.int .i64 10) ∧
    w.cell? ⟨0, 4, none⟩ = some (.string ⟨#[58]⟩) ∧ w.cell? ⟨0, 5, none⟩ = some (.int .i64 8) ∧ w.cell? ⟨0, 6, none⟩ = some (.int .i64 2) ∧ w.cell? ⟨0, 7, none⟩ = some (.int .i64 16) := by
  obtain ⟨ps, ⟨g', t', cs, f, p, q, hg', ht', hv, hd, _, _⟩, _⟩ := h
  obtain rfl := Option.some.inj (g0.symm.trans hg')
  obtain rfl := Option.some.inj (t0.symm.trans ht')
  have cS : Tryd.prog.cellsOf 30 = 4 := by kernel_rfl
  have cA : Tryd.prog.cellsOf 31 = 8 := by kernel_rfl
  have c3 : Tryd.prog.cellsOf 3 = 1 := by kernel_rfl
  have c9 : Tryd.prog.cellsOf 9 = 1 := by kernel_rfl
  obtain ⟨xs, m, _, ex, hl, hn, hel⟩ := DataW.trod_array Tryd.underlying31 hd
  rw [cA] at hl
  obtain ⟨a0, a1, a2, a3, a4, a5, a6, a7, hcs⟩ := eight _ hl
  have e0 := hel 0 (by decide)
  have e1 := hel 1 (by decide)
  rw [cS, hcs] at e0 e1
  match xs, hn, ex, e0, e1 with
  | [x0, x1], _, ex, e0, e1 =>
    simp only [List.drop_zero, List.take_succ_cons, List.take_zero, Nat.zero_mul, Nat.one_mul, List.drop_succ_cons, List.getElem?_cons_zero, List.getElem?_cons_succ] at e0 e1
    obtain ⟨y0, y1, y2, y3, n, hx0, _, f0, f1, f2, f3⟩ := trod_struct4 Tryd.underlying30 e0
    obtain ⟨z0, z1, z2, z3, n', hx1, _, h0, h1, h2, h3⟩ := trod_struct4 Tryd.underlying30 e1
    simp only [c3, c9, List.drop_zero, List.take_succ_cons, List.take_zero, List.drop_succ_cons] at f0 f1 f2 f3 h0 h1 h2 h3
    obtain ⟨b0, q0, k0, _⟩ := DataW.trod_string Tryd.underlying9 f0
    obtain ⟨b1, q1, k1, _⟩ := DataW.trod_int Tryd.underlying3 f1
    obtain ⟨b2, q2, k2, _⟩ := DataW.trod_int Tryd.underlying3 f2
    obtain ⟨b3, q3, k3, _⟩ := DataW.trod_int Tryd.underlying3 f3
    obtain ⟨b4, q4, k4, _⟩ := DataW.trod_string Tryd.underlying9 h0
    obtain ⟨b5, q5, k5, _⟩ := DataW.trod_int Tryd.underlying3 h1
    obtain ⟨b6, q6, k6, _⟩ := DataW.trod_int Tryd.underlying3 h2
    obtain ⟨b7, q7, k7, _⟩ := DataW.trod_int Tryd.underlying3 h3
    subst k0 k1 k2 k3 k4 k5 k6 k7
    subst hx0 hx1
    simp [Rows.laid_roadbook_addr_styles] at ex
    obtain ⟨⟨⟨r0, r1, r2, r3⟩, r4, r5, r6, r7⟩, _⟩ := ex
    simp only [List.cons.injEq, and_true] at q0 q1 q2 q3 q4 q5 q6 q7
    have hc : ∀ i, w.cell? ⟨0, i, none⟩ = cs.toList[i]? := fun i => by have := World.var?_cell g0 hv i; simpa using this
    rw [hcs] at hc
    subst q0 q1 q2 q3 q4 q5 q6 q7
    have s0 := bytes_of r0.symm
    have s4 := bytes_of r4.symm
    subst s0 s4
    subst r1 r2 r3 r5 r6 r7
    exact ⟨hc 0, hc 1, hc 2, hc 3, hc 4, hc 5, hc 6, hc 7⟩

theorem of_laid {w : World} (h : laidMetH Tryd.prog Rows.addrTellsRow.laid w) : Met w := by
  have h : laidMet Tryd.prog Rows.addrTellsRow.laid w := by
    rw [MakeChecks.laidMetH_plain _ _ _ (by kernel_rfl)] at h; exact h
  have k1 := h.tail
  have k2 := k1.tail
  have k3 := k2.tail
  have k4 := k3.tail
  have k5 := k4.tail
  have k6 := k5.tail
  have hz : Lib.TabIs Tryd.prog w "math/bits.deBruijn64tab" .u8 tz64 := Lib.tabIs_of_head g6 t6 Tryd.underlying90 Tryd.underlying5 (by kernel_rfl) (by kernel_rfl) (rest := _) (by exact k1)
  have hp : Lib.TabIs Tryd.prog w "internal/strconv.uint64pow10" .u64 Lib.pow10Tab := Lib.tabIs_of_head g1 t1 Tryd.underlying74 Tryd.underlying46 (by kernel_rfl) (by kernel_rfl) (rest := _) (by exact k2)
  obtain ⟨s0, s1, s2, s3, s4, s5, s6, s7⟩ := styles_head k6
  exact ⟨s0, s1, s2, s3, s4, s5, s6, s7, hp, hz.cell g6 15 (by decide), iface_head k5 g2 (by kernel_rfl) Tryd.underlying42, iface_head k4 g3 (by kernel_rfl) Tryd.underlying42⟩

/-- .. and behind whatever leaves what was there as it was. -/
def Tabs (w : World) : Prop := ∃ w0, Met w0 ∧ Below w0.heap.size w0 w
theorem Met.tabs {w : World} (h : Met w) : Tabs w := ⟨w, h, Below.refl _ _⟩
theorem Tabs.below {w w' : World} (h : Tabs w) (hb : Below w.heap.size w w') : Tabs w' := by
  obtain ⟨w0, hm, h0⟩ := h
  exact ⟨w0, hm, h0.trans (hb.mono h0.size)⟩
theorem Tabs.drew {w : World} (h : Tabs w) : Tabs w.drew := by
  obtain ⟨w0, hm, h0⟩ := h
  exact ⟨w0, hm, h0.drew⟩
theorem cell_kept {w w' : World} (hb : Below w.heap.size w w') {a : Addr} {v : Value} (h : w.cell? a = some v) : w'.cell? a = some v := by
  rw [hb.cell (World.block_lt_of_cell? _ _ h)]; exact h
theorem var_kept {w w' : World} (hb : Below w.heap.size w w') {n : String} {k : IntKind} {zs : List Int} (h : Lib.TabIs Tryd.prog w n k zs) : Lib.TabIs Tryd.prog w' n k zs := by
  unfold Lib.TabIs World.var? at h ⊢
  cases hg : Tryd.prog.globalNamed n with
  | none => simp [hg] at h
  | some g =>
    simp only [hg, Option.bind_some] at h ⊢
    have hlt : g < w.heap.size := by
      rcases Nat.lt_or_ge g w.heap.size with h' | h'
      · exact h'
      · simp [Array.getElem?_eq_none h'] at h
    rw [hb.block g hlt]; exact h
theorem Tabs.met {w : World} (h : Tabs w) : Met w := by
  obtain ⟨w0, hm, hb⟩ := h
  obtain ⟨a, b, c, d, e, f, g, i, p, t, ⟨x1, x2, x⟩, y1, y2, y⟩ := hm
  exact ⟨cell_kept hb a, cell_kept hb b, cell_kept hb c, cell_kept hb d, cell_kept hb e, cell_kept hb f, cell_kept hb g, cell_kept hb i, var_kept hb p, cell_kept hb t, ⟨x1, x2, cell_kept hb x⟩, y1, y2, cell_kept hb y⟩
end Go.Proofs.YtjppfalckfmalaaDoor.Tab
