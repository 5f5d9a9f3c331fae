/- Several texts in one. -/
import Derived.Test.YtcaidfffmllfeaaKitHAll
import Derived.Laws.OwnMore
import Derived.Deep.OwnRows
/- The box of a tally, and rows of the call's own beside it. -/
namespace Go.Proofs.Ytcaidfffmllfeaa
open Go.RowKit
set_option linter.unusedVariables false
/-- A block of another type is none of a row's. -/
theorem own_ne {w : World} {base : Nat} {e t : TypeId} {size n g : Nat} {v : Value} {xs : List Value} {cur : Array Value} (ho : w.ownsRow base e size v n xs) (hg : w.heap[g]? = some (.cells cur t (0, 0))) (hne : t ≠ e) : v.ownBlock ≠ some g := by
  rcases ho.2 with ⟨rfl, _⟩ | ⟨g', cap, cur', rfl, _, hg', _⟩
  · simp [Value.ownBlock]
  · intro h
    simp [Value.ownBlock] at h
    subst h
    rw [hg] at hg'
    simp at hg'
    exact hne hg'.2
abbrev cellsH (v : Value) (s : P.Hv) : Array Value := #[.int .i64 s.k, v, .int .i64 s.n, .int .i64 s.off]
/-- The box of a tally. -/
def BoxH (w : World) (g : Nat) (v : Value) (s : P.Hv) : Prop := w.heap[g]? = some (.cells (cellsH v s) 24 (0, 0))
theorem BoxH.lt {w : World} {g : Nat} {v : Value} {s : P.Hv} (h : BoxH w g v s) : g < w.heap.size := (Array.getElem?_eq_some_iff.1 h).1
theorem BoxH.cells {w : World} {g : Nat} {v : Value} {s : P.Hv} (h : BoxH w g v s) :
    w.cell? ⟨g, 0, none⟩ = some (.int .i64 s.k) ∧ w.cell? ⟨g, 1, none⟩ = some v ∧ w.cell? ⟨g, 2, none⟩ = some (.int .i64 s.n) ∧ w.cell? ⟨g, 3, none⟩ = some (.int .i64 s.off) := by
  unfold BoxH at h; simp [World.cell?, h]
theorem BoxH.unfrozen {w : World} {g : Nat} {v : Value} {s : P.Hv} (h : BoxH w g v s) (j : Nat) : w.frozen? ⟨g, j, none⟩ = false := by unfold BoxH at h; simp [World.frozen?, h]
theorem BoxH.below {w w' : World} {g : Nat} {v : Value} {s : P.Hv} (h : BoxH w g v s) (hb : Below w.heap.size w w') : BoxH w' g v s := (hb.block g h.lt).trans h
theorem BoxH.new (w : World) (v : Value) (s : P.Hv) : BoxH (w.alloc (.cells (cellsH v s) 24)) w.heap.size v s := heap_alloc_new w _
theorem BoxH.grown {w w' : World} {g : Nat} {v : Value} {s : P.Hv} {row : Option Nat} (h : BoxH w g v s) (hg : w.grownBy w' row) (hne : row ≠ some g) : BoxH w' g v s := (hg.block g h.lt (fun e => hne (by rw [e]))).trans h
theorem setCell_grown (w : World) (g j : Nat) (u : Value) : w.grownBy (w.setCell ⟨g, j, none⟩ u) (some g) := ⟨rfl, rfl, rfl, by simp, fun k _ hne => heap_setCell_other w ⟨g, j, none⟩ k u (fun e => hne (by rw [e]))⟩
theorem BoxH.list {w : World} {g : Nat} {v : Value} {s : P.Hv} (h : BoxH w g v s) (v' : Value) (l : List P.Ct) : BoxH (w.setCell ⟨g, 1, none⟩ v') g v' ⟨s.k, l, s.n, s.off⟩ := by
  unfold BoxH at h ⊢; rw [heap_setCell_same w g 1 _ _ _ h]; simp [cellsH]
theorem BoxH.num {w : World} {g : Nat} {v : Value} {s : P.Hv} (h : BoxH w g v s) (n : Int) : BoxH (w.setCell ⟨g, 2, none⟩ (.int .i64 n)) g v ⟨s.k, s.l, n, s.off⟩ := by
  unfold BoxH at h ⊢; rw [heap_setCell_same w g 2 _ _ _ h]; simp [cellsH]
theorem BoxH.offs {w : World} {g : Nat} {v : Value} {s : P.Hv} (h : BoxH w g v s) (n : Int) : BoxH (w.setCell ⟨g, 3, none⟩ (.int .i64 n)) g v ⟨s.k, s.l, s.n, n⟩ := by
  unfold BoxH at h ⊢; rw [heap_setCell_same w g 3 _ _ _ h]; simp [cellsH]
/-- A whole tally stored into its box. -/
def setH (w : World) (g : Nat) (v : Value) (s : P.Hv) : World :=
  (((w.setCell ⟨g, 0, none⟩ (.int .i64 s.k)).setCell ⟨g, 1, none⟩ v).setCell ⟨g, 2, none⟩ (.int .i64 s.n)).setCell ⟨g, 3, none⟩ (.int .i64 s.off)
theorem BoxH.all {w : World} {g : Nat} {v : Value} {s : P.Hv} (h : BoxH w g v s) (v' : Value) (s' : P.Hv) : BoxH (setH w g v' s') g v' s' := by
  unfold BoxH at h ⊢
  unfold setH
  have h0 := heap_setCell_same w g 0 _ _ (.int .i64 s'.k) h
  have h1 := heap_setCell_same _ g 1 _ _ v' h0
  have h2 := heap_setCell_same _ g 2 _ _ (.int .i64 s'.n) h1
  have h3 := heap_setCell_same _ g 3 _ _ (.int .i64 s'.off) h2
  rw [h3]; simp [cellsH]
theorem setH_grown (w : World) (g : Nat) (v : Value) (s : P.Hv) : w.grownBy (setH w g v s) (some g) := by
  unfold setH
  exact (((setCell_grown w g 0 _).trans (setCell_grown _ g 1 _)).trans (setCell_grown _ g 2 _)).trans (setCell_grown _ g 3 _)
theorem Below.setH' {B : Nat} {a w : World} {g : Nat} (h : Below B a w) (hg : B ≤ g) (v : Value) (s : P.Hv) : Below B a (setH w g v s) := by
  unfold setH
  exact (((h.setCell hg _).setCell hg _).setCell hg _).setCell hg _
/-- A row of counts beside a box that is written. -/
theorem OwnC.box {w w' : World} {base g : Nat} {v vb : Value} {l : List P.Ct} {s : P.Hv} (h : OwnC w base v l) (hb : BoxH w g vb s) (hg : w.grownBy w' (some g)) : OwnC w' base v l := World.ownsRow.kept h hg (.inr (own_ne h hb (by decide)))
theorem BoxH.ne {w : World} {base g : Nat} {v vb : Value} {l : List P.Ct} {s : P.Hv} (hb : BoxH w g vb s) (h : OwnC w base v l) : v.ownBlock ≠ some g := own_ne h hb (by decide)
/-- Another box beside one that is written. -/
theorem BoxH.other {w w' : World} {g g2 : Nat} {v : Value} {s : P.Hv} (h : BoxH w g v s) (hg : w.grownBy w' (some g2)) (hne : g2 ≠ g) : BoxH w' g v s := h.grown hg (fun e => hne (Option.some.inj e))
abbrev zeroH : Value := .agg #[.int .i64 0, .slice none 0 0, .int .i64 0, .int .i64 0]
def z0 : P.Hv := ⟨0, [], 0, 0⟩
theorem zero_new (w : World) : BoxH (w.alloc (.cells #[.int .i64 0, .slice none 0 0, .int .i64 0, .int .i64 0] 24)) w.heap.size (.slice none 0 0) z0 := heap_alloc_new w _
theorem OwnC.base {w : World} {b b' : Nat} {v : Value} {l : List P.Ct} (h : OwnC w b v l) (hb : b' ≤ b) : OwnC w b' v l := OwnX.base h hb
namespace P
/-- Two tallies put together. -/
def uni (a b : Hv) : Hv :=
  if (tog a.l b.l).length ≤ a.k then ⟨a.k, tog a.l b.l, a.n + b.n, a.off + b.off⟩
  else ⟨a.k, les (tog a.l b.l) (thr (tog a.l b.l) (a.k.toNat + 1)), a.n + b.n, a.off + b.off + thr (tog a.l b.l) (a.k.toNat + 1)⟩
end P
end Go.Proofs.Ytcaidfffmllfeaa
