/- The listed table delta.shapes: what its fifteen cells hold, and a world that holds it. -/
import Derived.Test.YtlejpbghakaooaaDoorFrame
import Derived.Test.YtlejpbghakaooaaDoorCards
import Derived.Test.YtlejpbghakaooaaDoorTie
import Derived.Deep.DeepHandedRow
import Derived.Lib.LaidTab
namespace Go.Proofs.YtlejpbghakaooaaDoor
open Go.ChangeShapes Go.WideShapes Go.ChangeAt Go.RowKit Go.Joins
set_option linter.unusedVariables false

theorem gShapes : Tryd.prog.globalNamed "gaugehouse/delta.shapes" = some 0 := by kernel_rfl
theorem gShapesType : (Tryd.prog.globals[0]?).map (·.type) = some 72 := by kernel_rfl
theorem cells62 : Tryd.prog.cellsOf 62 = 3 := by kernel_rfl
theorem cells72 : Tryd.prog.cellsOf 72 = 15 := by kernel_rfl
theorem cells46 : Tryd.prog.cellsOf 46 = 1 := by kernel_rfl
theorem cells3 : Tryd.prog.cellsOf 3 = 1 := by kernel_rfl

/-- What the table's cells hold. -/
def shapeCells : List Value := [.int .u64 0, .int .i64 1, .int .i64 0, .int .u64 2, .int .i64 2, .int .i64 7, .int .u64 6, .int .i64 3, .int .i64 9, .int .u64 14, .int .i64 4, .int .i64 12, .int .u64 15, .int .i64 4, .int .i64 64]
def Shp (w : World) : Prop := 0 < w.heap.size ∧ ∀ i : Nat, i < 15 → w.cell? ⟨0, i, none⟩ = shapeCells[i]?
theorem Shp.below {w w' : World} {B : Nat} (h : Shp w) (hb : Below B w w') (hB : 0 < B) : Shp w' :=
  ⟨Nat.lt_of_lt_of_le h.1 hb.size, fun i hi => (hb.cell (p := ⟨0, i, none⟩) hB).trans (h.2 i hi)⟩
theorem Shp.next {w w' : World} (h : Shp w) (hb : Below w.heap.size w w') : Shp w' := h.below hb h.1

theorem one_shape {W : World} {sp : Nat → Bool} {held : Bool} {fuel : Nat} {cs : List Value} {x : DataW Unit × List MemPlace} {enc : TypeId × Value → Unit} (h : DataW.trod enc Tryd.prog W 0 sp held fuel 62 cs = some x) :
    ∃ a b c : Int, cs = [.int .u64 a, .int .i64 b, .int .i64 c] ∧ x.1 = .agg [.lit (.int .u64 a), .lit (.int .i64 b), .lit (.int .i64 c)] := by
  obtain ⟨xs, n, _, rfl, hl, hlen, hf⟩ := DataW.trod_struct Tryd.underlying62 h
  rw [cells62] at hl
  match cs, hl with
  | [c0, c1, c2], _ =>
    have h0 : DataW.trod enc Tryd.prog W 0 sp held n 46 ([c0, c1, c2].take (Tryd.prog.cellsOf 46)) = xs[0]? := hf 0 _ rfl
    have h1 : DataW.trod enc Tryd.prog W 0 sp held n 3 ([c1, c2].take (Tryd.prog.cellsOf 3)) = xs[1]? := hf 1 _ rfl
    have h2 : DataW.trod enc Tryd.prog W 0 sp held n 3 ([c2].take (Tryd.prog.cellsOf 3)) = xs[2]? := hf 2 _ rfl
    rw [cells46] at h0
    rw [cells3] at h1 h2
    match xs, hlen with
    | [x0, x1, x2], _ =>
      obtain ⟨a, e0, f0, _⟩ := DataW.trod_int Tryd.underlying46 h0
      obtain ⟨b, e1, f1, _⟩ := DataW.trod_int Tryd.underlying3 h1
      obtain ⟨c, e2, f2, _⟩ := DataW.trod_int Tryd.underlying3 h2
      simp at e0 e1 e2
      refine ⟨a, b, c, by rw [e0, e1, e2], ?_⟩
      simp [f0, f1, f2]

theorem laid_of {W : World} (h : laidMetH Tryd.prog [("gaugehouse/delta.shapes", Rows.laid_gaugehouse_delta_shapes)] W) : Shp W := by
  rw [MakeChecks.laidMetH_plain _ _ _ (by kernel_rfl)] at h
  obtain ⟨ps, ⟨g0, t0, cs0, f0, p0, q0, hg0, ht0, hv0, hd0, _, _⟩, _, _⟩ := h
  obtain rfl := Option.some.inj (gShapes.symm.trans hg0)
  obtain rfl := Option.some.inj (gShapesType.symm.trans ht0)
  obtain ⟨xs, m1, rfl, hx1, hlen, hn, hel⟩ := DataW.trod_array Tryd.underlying72 hd0
  rw [cells72] at hlen
  rw [cells62] at hel
  have hcs : cs0.toList = shapeCells := by
    match xs, hn with
    | [x0, x1, x2, x3, x4], _ =>
      have hx := congrArg Prod.fst hx1
      simp only [Rows.laid_gaugehouse_delta_shapes, List.map_cons, List.map_nil, DataW.agg.injEq, List.cons.injEq, and_true] at hx
      obtain ⟨y0, y1, y2, y3, y4⟩ := hx
      obtain ⟨a0, b0, c0, e0, k0⟩ := one_shape (hel 0 (by decide))
      obtain ⟨a1, b1, c1, e1, k1⟩ := one_shape (hel 1 (by decide))
      obtain ⟨a2, b2, c2, e2, k2⟩ := one_shape (hel 2 (by decide))
      obtain ⟨a3, b3, c3, e3, k3⟩ := one_shape (hel 3 (by decide))
      obtain ⟨a4, b4, c4, e4, k4⟩ := one_shape (hel 4 (by decide))
      rw [← y0] at k0; rw [← y1] at k1; rw [← y2] at k2; rw [← y3] at k3; rw [← y4] at k4
      simp at k0 k1 k2 k3 k4
      obtain ⟨rfl, rfl, rfl⟩ := k0
      obtain ⟨rfl, rfl, rfl⟩ := k1
      obtain ⟨rfl, rfl, rfl⟩ := k2
      obtain ⟨rfl, rfl, rfl⟩ := k3
      obtain ⟨rfl, rfl, rfl⟩ := k4
      match hl : cs0.toList, hlen with
      | [z0, z1, z2, z3, z4, z5, z6, z7, z8, z9, z10, z11, z12, z13, z14], _ =>
        rw [hl] at e0 e1 e2 e3 e4
        simp at e0 e1 e2 e3 e4
        simp [shapeCells, e0, e1, e2, e3, e4]
  refine ⟨?_, fun i hi => ?_⟩
  · have h0 := World.var?_cell hg0 hv0 0
    have e : cs0[0]? = some (.int .u64 0) := by rw [← Array.getElem?_toList, hcs]; rfl
    rw [e] at h0
    exact World.block_lt_of_cell? W _ h0
  · have h0 := World.var?_cell hg0 hv0 i
    rw [← Array.getElem?_toList, hcs] at h0
    exact h0

/-- A world for the witness: the settled one, the table holding what its initialiser lays. -/
noncomputable def laidWorld (os : Os) : World :=
  { World.holding Tryd.prog os ⟨#[], #[], []⟩ with heap := (World.holding Tryd.prog os ⟨#[], #[], []⟩).heap.modify 0 fun
      | .cells _ t frozen => .cells shapeCells.toArray t frozen
      | o => o }
end Go.Proofs.YtlejpbghakaooaaDoor
