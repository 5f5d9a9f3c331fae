/- Several texts in one. -/
import Derived.Test.YtenfpkokogfdaaaKitSkAll
import Derived.Laws.OwnMore
import Derived.Deep.OwnRows
/- The box of a sketch, and rows of the call's own beside it. -/
namespace Go.Proofs.Ytenfpkokogfdaaa
open Go.RowKit
set_option linter.unusedVariables false
/-- A sketch as a value. -/
abbrev aggK (v : Value) (S : P.Sk) : Value := .agg #[.int .i64 S.d, .int .i64 S.w, v, .int .i64 S.n]
/-- A block of another type is none of a row's. -/
theorem own_ne {w : World} {base : Nat} {e t : TypeId} {size n g : Nat} {v : Value} {xs : List Value} {cur : Array Value} (ho : w.ownsRow base e size v n xs) (hg : w.heap[g]? = some (.cells cur t (0, 0))) (hne : t ≠ e) : v.ownBlock ≠ some g := by
  rcases ho.2 with ⟨rfl, _⟩ | ⟨g', cap, cur', rfl, _, hg', _⟩
  · simp [Value.ownBlock]
  · intro h
    simp [Value.ownBlock] at h
    subst h
    rw [hg] at hg'
    simp at hg'
    exact hne hg'.2
abbrev cellsK (v : Value) (S : P.Sk) : Array Value := #[.int .i64 S.d, .int .i64 S.w, v, .int .i64 S.n]
/-- The box of a sketch. -/
def BoxK (w : World) (g : Nat) (v : Value) (S : P.Sk) : Prop := w.heap[g]? = some (.cells (cellsK v S) 24 (0, 0))
theorem BoxK.lt {w : World} {g : Nat} {v : Value} {S : P.Sk} (h : BoxK w g v S) : g < w.heap.size := (Array.getElem?_eq_some_iff.1 h).1
theorem BoxK.cells {w : World} {g : Nat} {v : Value} {S : P.Sk} (h : BoxK w g v S) :
    w.cell? ⟨g, 0, none⟩ = some (.int .i64 S.d) ∧ w.cell? ⟨g, 1, none⟩ = some (.int .i64 S.w) ∧ w.cell? ⟨g, 2, none⟩ = some v ∧ w.cell? ⟨g, 3, none⟩ = some (.int .i64 S.n) := by
  unfold BoxK at h; simp [World.cell?, h]
theorem BoxK.unfrozen {w : World} {g : Nat} {v : Value} {S : P.Sk} (h : BoxK w g v S) (j : Nat) : w.frozen? ⟨g, j, none⟩ = false := by unfold BoxK at h; simp [World.frozen?, h]
theorem BoxK.below {w w' : World} {g : Nat} {v : Value} {S : P.Sk} (h : BoxK w g v S) (hb : Below w.heap.size w w') : BoxK w' g v S := (hb.block g h.lt).trans h
theorem BoxK.new (w : World) (v : Value) (S : P.Sk) : BoxK (w.alloc (.cells (cellsK v S) 24)) w.heap.size v S := heap_alloc_new w _
theorem BoxK.grown {w w' : World} {g : Nat} {v : Value} {S : P.Sk} {row : Option Nat} (h : BoxK w g v S) (hg : w.grownBy w' row) (hne : row ≠ some g) : BoxK w' g v S := (hg.block g h.lt (fun e => hne (by rw [e]))).trans h
theorem setCell_grown (w : World) (g j : Nat) (u : Value) : w.grownBy (w.setCell ⟨g, j, none⟩ u) (some g) := ⟨rfl, rfl, rfl, by simp, fun k _ hne => heap_setCell_other w ⟨g, j, none⟩ k u (fun e => hne (by rw [e]))⟩
theorem BoxK.list {w : World} {g : Nat} {v : Value} {S : P.Sk} (h : BoxK w g v S) (v' : Value) (l : List Int) : BoxK (w.setCell ⟨g, 2, none⟩ v') g v' ⟨S.d, S.w, l, S.n⟩ := by
  unfold BoxK at h ⊢; rw [heap_setCell_same w g 2 _ _ _ h]; simp [cellsK]
theorem BoxK.num {w : World} {g : Nat} {v : Value} {S : P.Sk} (h : BoxK w g v S) (n : Int) : BoxK (w.setCell ⟨g, 3, none⟩ (.int .i64 n)) g v ⟨S.d, S.w, S.c, n⟩ := by
  unfold BoxK at h ⊢; rw [heap_setCell_same w g 3 _ _ _ h]; simp [cellsK]
/-- Of a sketch in a box what its row holds is the row's own business. -/
theorem BoxK.of {w : World} {g : Nat} {v : Value} {S : P.Sk} (h : BoxK w g v S) (l : List Int) : BoxK w g v ⟨S.d, S.w, l, S.n⟩ := h
/-- A whole sketch stored into its box. -/
def setK (w : World) (g : Nat) (v : Value) (S : P.Sk) : World :=
  (((w.setCell ⟨g, 0, none⟩ (.int .i64 S.d)).setCell ⟨g, 1, none⟩ (.int .i64 S.w)).setCell ⟨g, 2, none⟩ v).setCell ⟨g, 3, none⟩ (.int .i64 S.n)
theorem BoxK.all {w : World} {g : Nat} {v : Value} {S : P.Sk} (h : BoxK w g v S) (v' : Value) (S' : P.Sk) : BoxK (setK w g v' S') g v' S' := by
  unfold BoxK at h ⊢
  unfold setK
  have h0 := heap_setCell_same w g 0 _ _ (.int .i64 S'.d) h
  have h1 := heap_setCell_same _ g 1 _ _ (.int .i64 S'.w) h0
  have h2 := heap_setCell_same _ g 2 _ _ v' h1
  have h3 := heap_setCell_same _ g 3 _ _ (.int .i64 S'.n) h2
  rw [h3]; simp [cellsK]
theorem setK_grown (w : World) (g : Nat) (v : Value) (S : P.Sk) : w.grownBy (setK w g v S) (some g) := by
  unfold setK
  exact (((setCell_grown w g 0 _).trans (setCell_grown _ g 1 _)).trans (setCell_grown _ g 2 _)).trans (setCell_grown _ g 3 _)
theorem Below.setK' {B : Nat} {a w : World} {g : Nat} (h : Below B a w) (hg : B ≤ g) (v : Value) (S : P.Sk) : Below B a (setK w g v S) := by
  unfold setK
  exact (((h.setCell hg _).setCell hg _).setCell hg _).setCell hg _
/-- A row of numbers beside a box that is written. -/
theorem OwnI.box {w w' : World} {base g : Nat} {v vb : Value} {l : List Int} {S : P.Sk} (h : OwnI w base v l) (hb : BoxK w g vb S) (hg : w.grownBy w' (some g)) : OwnI w' base v l := World.ownsRow.kept h hg (.inr (own_ne h hb (by decide)))
theorem BoxK.ne {w : World} {base g : Nat} {v vb : Value} {l : List Int} {S : P.Sk} (hb : BoxK w g vb S) (h : OwnI w base v l) : v.ownBlock ≠ some g := own_ne h hb (by decide)
/-- Another box beside one that is written. -/
theorem BoxK.other {w w' : World} {g g2 : Nat} {v : Value} {S : P.Sk} (h : BoxK w g v S) (hg : w.grownBy w' (some g2)) (hne : g2 ≠ g) : BoxK w' g v S := h.grown hg (fun e => hne (Option.some.inj e))
def z0 : P.Sk := ⟨0, 0, [], 0⟩
theorem zero_new (w : World) : BoxK (w.alloc (.cells #[.int .i64 0, .int .i64 0, .slice none 0 0, .int .i64 0] 24)) w.heap.size (.slice none 0 0) z0 := heap_alloc_new w _
/-- A number of a row of the call's own, written. -/
theorem OwnI.set {w : World} {base g n cap i : Nat} {l : List Int} (h : OwnI w base (.slice (some ⟨g, 0, none⟩) n cap) l) (x : Int) :
    OwnI (w.setCell ⟨g, i, none⟩ (.int .i64 x)) base (.slice (some ⟨g, 0, none⟩) n cap) (l.set i x) := by
  obtain ⟨h1, h2⟩ := h
  rcases h2 with ⟨hv, _⟩ | ⟨g', cap', cur, hv, hb, hg, hn, hm, hs, ht⟩
  · cases hv
  · simp only [Value.slice.injEq, Option.some.injEq, Addr.mk.injEq, and_true] at hv
    obtain ⟨hgg, rfl, rfl⟩ := hv
    subst hgg
    refine ⟨by simp, .inr ⟨g, cap, cur.setIfInBounds i (.int .i64 x), by simp, hb, heap_setCell_same w g _ _ _ _ hg, by simpa using hn, hm, by simpa using hs, ?_⟩⟩
    rw [Array.toList_setIfInBounds, List.length_set, List.take_set, ht, List.map_set]
/-- A row of the call's own that is not empty: where it lies, and that it may be written. -/
theorem OwnI.place {w : World} {base : Nat} {v : Value} {l : List Int} (h : OwnI w base v l) (hl : 0 < l.length) :
    ∃ g cap, v = .slice (some ⟨g, 0, none⟩) l.length cap ∧ base ≤ g ∧ g < w.heap.size ∧ l.length ≤ cap ∧ cap ≤ maxLen ∧ (∀ j, w.frozen? ⟨g, j, none⟩ = false) ∧ ∀ j, j < l.length → w.cell? ⟨g, j, none⟩ = some (.int .i64 (l.getD j 0)) := by
  obtain ⟨a, cap, hv, ⟨hc1, hc2, _⟩, hcase⟩ := h.row
  obtain ⟨h1, h2⟩ := h
  rcases h2 with ⟨_, h0⟩ | ⟨g, cap', cur, hv', hb, hg, _⟩
  · omega
  · rw [hv'] at hv
    simp only [Value.slice.injEq] at hv
    obtain ⟨ha, _, rfl⟩ := hv
    refine ⟨g, cap', hv', hb, (Array.getElem?_eq_some_iff.1 hg).1, hc1, hc2, fun j => by simp [World.frozen?, hg], fun j hj => ?_⟩
    rcases hcase with h | ⟨b, off, he, _, hc⟩
    · rw [h] at hj; simp at hj
    · rw [← ha] at he
      simp only [Option.some.injEq, Addr.mk.injEq, and_true] at he
      obtain ⟨rfl, rfl⟩ := he
      simpa using hc j hj
/-- A box beside a row that is written. -/
theorem BoxK.cell {w : World} {g b j : Nat} {v : Value} {S : P.Sk} (h : BoxK w g v S) (hne : b ≠ g) (u : Value) : BoxK (w.setCell ⟨b, j, none⟩ u) g v S := h.other (setCell_grown w b j u) hne
end Go.Proofs.Ytenfpkokogfdaaa
