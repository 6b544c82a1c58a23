/-
  What the rows' condition gives the walks: how long an address is, by its encoding, as the listed variable has it when the call begins; that it has the same as long as nothing that was there is changed.
-/
import Derived.Test.YtlfgfmhpcokjpaaDoorRows
import Derived.Below
import Derived.OpenShut
import Derived.LaidLaws
import Derived.LaidMore
import Derived.Lib.LaidTab
import Derived.Lib.SmallJoins
namespace Go.Proofs.YtlfgfmhpcokjpaaDoor.Tb
open Go.RowKit Go.ChangeShapes Go.WideShapes Go.Joins
set_option maxRecDepth 100000

/-- What the variable has. -/
structure Tab (w : World) : Prop where
  s0 : w.cell? ⟨0, 0, none⟩ = some (.int .i64 0)
  s1 : w.cell? ⟨0, 1, none⟩ = some (.int .i64 4)
  s2 : w.cell? ⟨0, 2, none⟩ = some (.int .i64 16)
  s3 : w.cell? ⟨0, 3, none⟩ = some (.int .i64 8)
theorem g0 : Tryd.prog.globalNamed "roadbook/field.addrSizes" = some 0 := by kernel_rfl
theorem t0 : (Tryd.prog.globals[0]?).map (·.type) = some 105 := by kernel_rfl
theorem of_laid {w : World} (h : laidMetH Tryd.prog Rows.fieldTellsRow.laid w) : Tab w := by
  have h : laidMet Tryd.prog Rows.fieldTellsRow.laid w := by
    rw [MakeChecks.laidMetH_plain _ _ _ (by kernel_rfl)] at h; exact h
  have hz : Lib.TabIs Tryd.prog w "roadbook/field.addrSizes" .i64 [0, 4, 16, 8] := Lib.tabIs_of_head g0 t0 Tryd.underlying105 Tryd.underlying3 (by kernel_rfl) (by kernel_rfl) (rest := _) (by exact h)
  exact ⟨hz.cell g0 0 (by decide), hz.cell g0 1 (by decide), hz.cell g0 2 (by decide), hz.cell g0 3 (by decide)⟩
theorem Tab.pos {w : World} (h : Tab w) : 0 < w.heap.size := World.block_lt_of_cell? _ _ h.s0
/-- .. and behind whatever leaves the first block as it was. -/
theorem Tab.under {B : Nat} {w w' : World} (h : Tab w) (hb : Below B w w') (hB : 0 < B) : Tab w' :=
  ⟨(hb.cell hB).trans h.s0, (hb.cell hB).trans h.s1, (hb.cell hB).trans h.s2, (hb.cell hB).trans h.s3⟩
theorem Tab.below {w w' : World} (h : Tab w) (hb : Below w.heap.size w w') : Tab w' := h.under hb h.pos
theorem Tab.drew {w : World} (h : Tab w) : Tab w.drew := ⟨h.s0, h.s1, h.s2, h.s3⟩
end Go.Proofs.YtlfgfmhpcokjpaaDoor.Tb
