/- Several texts in one. -/
import Derived.Test.YtfjbdgkdkbcnhaaDoorShapesAll
import Derived.Test.YtfjbdgkdkbcnhaaDoorXlenAll
/- The two listed tables together: what a row's condition says of them, and a world that holds both. -/
namespace Go.Proofs.YtfjbdgkdkbcnhaaDoor
open Go.ChangeShapes Go.WideShapes Go.ChangeAt Go.RowKit Go.Joins
set_option linter.unusedVariables false
theorem laid_tail {W : World} {x : String × DataW Unit} {rest : List (String × DataW Unit)} (h : laidMet Tryd.prog (x :: rest) W) : laidMet Tryd.prog rest W := by
  obtain ⟨ps, ⟨g0, t0, cs0, f0, p0, q0, hg0, ht0, hv0, hd0, hr, rfl⟩, hn, hall⟩ := h
  exact ⟨q0, hr, (List.nodup_append.1 hn).2.1, fun b off hb => hall b off (List.mem_append_right _ hb)⟩
theorem laid_of {W : World} (h : laidMetH Tryd.prog [("gaugehouse/delta.shapes", Rows.laid_gaugehouse_delta_shapes), ("math/bits.deBruijn64tab", Rows.laid_math_bits_deBruijn64tab)] W) : D.Shp W ∧ X.Tab W := by
  rw [MakeChecks.laidMetH_plain _ _ _ (by kernel_rfl)] at h
  exact ⟨D.shp_of_head h, X.tab_of_head (laid_tail h)⟩
def laySh : Obj → Obj
  | .cells _ t frozen => .cells D.shapeCells.toArray t frozen
  | o => o
def layTab : Obj → Obj
  | .cells _ t frozen => .cells (X.tabZs.map (Value.int .u8)).toArray t frozen
  | o => o
/-- A world for the witness: the settled one, the tables holding what their initialisers lay. -/
noncomputable def laidWorld (os : Os) : World :=
  { World.holding Tryd.prog os ⟨#[], #[], []⟩ with heap := ((World.holding Tryd.prog os ⟨#[], #[], []⟩).heap.modify 0 laySh).modify 1 layTab }
end Go.Proofs.YtfjbdgkdkbcnhaaDoor
