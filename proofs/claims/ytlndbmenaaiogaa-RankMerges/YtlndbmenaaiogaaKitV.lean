/- A rank of the call's own: its tail, its levels, each in memory of its own; the box that holds it. -/
import Derived.Test.YtlndbmenaaiogaaRankP2
import Derived.Test.YtlndbmenaaiogaaKitA
import Derived.Laws.OwnMore
namespace Go.Proofs.Ytlndbmenaaiogaa
open Go.RowKit
set_option linter.unusedVariables false
theorem Try.info22 : (Try.prog.info? 22).map (fun i => (i.zero, i.size, i.bytes)) = some (some (.slice none 0 0), 1, 24) := by kernel_rfl
/-- A row of slices of the call's own. -/
abbrev OwnL (w : World) (base : Nat) (v : Value) (vs : List Value) : Prop := w.ownsRow base 22 1 v vs.length vs
/-- A block of another type is none of a row's. -/
theorem own_ne {w : World} {base : Nat} {e t : TypeId} {size n g : Nat} {v : Value} {xs : List Value} {cur : Array Value} (ho : w.ownsRow base e size v n xs) (hg : w.heap[g]? = some (.cells cur t (0, 0))) (hne : t ≠ e) : v.ownBlock ≠ some g := by
  rcases ho.2 with ⟨rfl, _⟩ | ⟨g', cap, cur', rfl, _, hg', _⟩
  · simp [Value.ownBlock]
  · intro h
    simp [Value.ownBlock] at h
    subst h
    rw [hg] at hg'
    simp at hg'
    exact hne hg'.2
/-- Rows of two types lie in two blocks. -/
theorem own_two {w : World} {b1 b2 : Nat} {e1 e2 : TypeId} {s1 s2 n1 n2 : Nat} {v1 v2 : Value} {x1 x2 : List Value} (h1 : w.ownsRow b1 e1 s1 v1 n1 x1) (h2 : w.ownsRow b2 e2 s2 v2 n2 x2) (hne : e1 ≠ e2) : v2.ownBlock = none ∨ v2.ownBlock ≠ v1.ownBlock := by
  rcases h1.2 with ⟨rfl, _⟩ | ⟨g, cap, cur, rfl, _, hg, _⟩
  · rcases h2.2 with ⟨rfl, _⟩ | ⟨g', cap', cur', rfl, _, hg', _⟩
    · exact .inl rfl
    · right; simp [Value.ownBlock]
  · right; exact own_ne h2 hg hne
/-- Two rows that do not lie in one block. -/
def Apt (u v : Value) : Prop := ∀ b, u.ownBlock = some b → v.ownBlock ≠ some b
theorem Apt.symm {u v : Value} (h : Apt u v) : Apt v u := fun b hb hu => h b hu hb
theorem Apt.or {u v : Value} (h : Apt u v) : u.ownBlock = none ∨ u.ownBlock ≠ v.ownBlock := by
  cases hu : u.ownBlock with
  | none => exact .inl rfl
  | some b => right; exact fun e => h b hu e.symm
/-- A rank of the call's own. -/
structure OwnV (w : World) (base : Nat) (tv lv : Value) (s : P.Rk) : Prop where
  tail : OwnI w base tv s.tail
  rows : ∃ vs : List Value, vs.length = s.lv.length ∧ OwnL w base lv vs ∧ (∀ (j : Nat) (v : Value) (l : List Int), vs[j]? = some v → s.lv[j]? = some l → OwnI w base v l) ∧ (∀ v ∈ vs, Apt v tv)
theorem OwnL.below {w w' : World} {base B : Nat} {v : Value} {vs : List Value} (h : OwnL w base v vs) (hb : Below B w w') (hB : w.heap.size ≤ B) : OwnL w' base v vs := by
  obtain ⟨h1, h2⟩ := h
  refine ⟨h1, ?_⟩
  rcases h2 with h2 | ⟨g, cap, cur, rfl, hg, hh, r⟩
  · exact .inl h2
  · exact .inr ⟨g, cap, cur, rfl, hg, by rw [hb.block g (Nat.lt_of_lt_of_le (Array.getElem?_eq_some_iff.1 hh).1 hB)]; exact hh, r⟩
theorem OwnV.below {w w' : World} {base B : Nat} {tv lv : Value} {s : P.Rk} (h : OwnV w base tv lv s) (hb : Below B w w') (hB : w.heap.size ≤ B) : OwnV w' base tv lv s := by
  obtain ⟨h1, vs, h2, h3, h4, h5⟩ := h
  exact ⟨h1.below hb hB, vs, h2, OwnL.below h3 hb hB, fun j v l hv hl => (h4 j v l hv hl).below hb hB, h5⟩
/-- .. behind whatever was done to another block. -/
theorem OwnV.kept {w w' : World} {base g : Nat} {tv lv : Value} {s : P.Rk} {cur : Array Value} {t : TypeId} (h : OwnV w base tv lv s) (hg : w.grownBy w' (some g)) (hh : w.heap[g]? = some (.cells cur t (0, 0))) (h1 : t ≠ 2) (h2 : t ≠ 22) : OwnV w' base tv lv s := by
  obtain ⟨a1, vs, a2, a3, a4, a5⟩ := h
  exact ⟨OwnK.keep a1 hg (.inr (own_ne a1 hh h1)), vs, a2, World.ownsRow.kept a3 hg (.inr (own_ne a3 hh h2)), fun j v l hv hl => OwnK.keep (a4 j v l hv hl) hg (.inr (own_ne (a4 j v l hv hl) hh h1)), a5⟩
theorem OwnL.shp {w : World} {base : Nat} {v : Value} {vs : List Value} (h : OwnL w base v vs) : ∃ a cap, v = .slice a vs.length cap ∧ vs.length ≤ cap ∧ cap ≤ maxLen ∧ (vs = [] ∨ ∃ g, a = some ⟨g, 0, none⟩ ∧ base ≤ g ∧ g < w.heap.size) := by
  rcases h.2 with ⟨rfl, h0⟩ | ⟨g, cap, cur, rfl, hb, hg, hn, hm, _⟩
  · have : vs = [] := List.length_eq_zero_iff.1 h0
    subst this
    exact ⟨none, 0, rfl, by simp, by simp, .inl rfl⟩
  · exact ⟨_, cap, rfl, hn, hm, .inr ⟨g, rfl, hb, (Array.getElem?_eq_some_iff.1 hg).1⟩⟩
/-- Owned rows can be read. -/
theorem OwnV.read {w : World} {base : Nat} {tv lv : Value} {s : P.Rk} (h : OwnV w base tv lv s) : RkV w tv lv s := by
  obtain ⟨h1, vs, h2, h3, h4, h5⟩ := h
  refine ⟨h1.row, ?_⟩
  obtain ⟨a, cap, rfl, c1, c2, c3⟩ := OwnL.shp h3
  refine ⟨a, cap, by rw [h2], ⟨by omega, c2⟩, ?_⟩
  rcases c3 with c3 | ⟨g, rfl, hb, hg⟩
  · left
    subst c3
    exact List.length_eq_zero_iff.1 h2.symm
  · right
    refine ⟨g, 0, rfl, hg, fun j l hl => ?_⟩
    have hj : j < s.lv.length := by
      rcases Nat.lt_or_ge j s.lv.length with h | h
      · exact h
      · rw [List.getElem?_eq_none h] at hl; cases hl
    have hv : vs[j]? = some vs[j] := List.getElem?_eq_getElem (by omega)
    refine ⟨vs[j], ?_, (h4 j _ l hv hl).row⟩
    rw [Nat.zero_add, World.ownsRow.cellAt h3 j (by omega)]
    exact hv
/-- The box of a rank. -/
def BoxR (w : World) (g : Nat) (tv lv : Value) (s : P.Rk) : Prop := w.heap[g]? = some (.cells #[.int .i64 s.k, tv, lv, .int .i64 s.n, .int .i64 s.sl] 25 (0, 0))
theorem BoxR.lt {w : World} {g : Nat} {tv lv : Value} {s : P.Rk} (h : BoxR w g tv lv s) : g < w.heap.size := (Array.getElem?_eq_some_iff.1 h).1
theorem BoxR.cells {w : World} {g : Nat} {tv lv : Value} {s : P.Rk} (h : BoxR w g tv lv s) :
    w.cell? ⟨g, 0, none⟩ = some (.int .i64 s.k) ∧ w.cell? ⟨g, 1, none⟩ = some tv ∧ w.cell? ⟨g, 2, none⟩ = some lv ∧ w.cell? ⟨g, 3, none⟩ = some (.int .i64 s.n) ∧ w.cell? ⟨g, 4, none⟩ = some (.int .i64 s.sl) := by
  unfold BoxR at h; simp [World.cell?, h]
theorem BoxR.unfrozen {w : World} {g : Nat} {tv lv : Value} {s : P.Rk} (h : BoxR w g tv lv s) (j : Nat) : w.frozen? ⟨g, j, none⟩ = false := by unfold BoxR at h; simp [World.frozen?, h]
theorem BoxR.below {w w' : World} {g : Nat} {tv lv : Value} {s : P.Rk} (h : BoxR w g tv lv s) (hb : Below w.heap.size w w') : BoxR w' g tv lv s := (hb.block g h.lt).trans h
theorem BoxR.new (w : World) (tv lv : Value) (s : P.Rk) : BoxR (w.alloc (.cells #[.int .i64 s.k, tv, lv, .int .i64 s.n, .int .i64 s.sl] 25)) w.heap.size tv lv s := heap_alloc_new w _
theorem BoxR.grown {w w' : World} {g : Nat} {tv lv : Value} {s : P.Rk} {row : Option Nat} (h : BoxR w g tv lv s) (hg : w.grownBy w' row) (hne : row ≠ some g) : BoxR w' g tv lv s := (hg.block g h.lt (fun e => hne (by rw [e]))).trans h
theorem setCell_grown (w : World) (g j : Nat) (u : Value) : w.grownBy (w.setCell ⟨g, j, none⟩ u) (some g) := ⟨rfl, rfl, rfl, by simp, fun k _ hne => heap_setCell_other w ⟨g, j, none⟩ k u (fun e => hne (by rw [e]))⟩
theorem BoxR.tail {w : World} {g : Nat} {tv lv : Value} {s : P.Rk} (h : BoxR w g tv lv s) (tv' : Value) (t' : List Int) : BoxR (w.setCell ⟨g, 1, none⟩ tv') g tv' lv ⟨s.k, t', s.lv, s.n, s.sl⟩ := by
  unfold BoxR at h ⊢; rw [heap_setCell_same w g 1 _ _ _ h]; simp
theorem BoxR.levels {w : World} {g : Nat} {tv lv : Value} {s : P.Rk} (h : BoxR w g tv lv s) (lv' : Value) (L : List (List Int)) : BoxR (w.setCell ⟨g, 2, none⟩ lv') g tv lv' ⟨s.k, s.tail, L, s.n, s.sl⟩ := by
  unfold BoxR at h ⊢; rw [heap_setCell_same w g 2 _ _ _ h]; simp
theorem BoxR.num {w : World} {g : Nat} {tv lv : Value} {s : P.Rk} (h : BoxR w g tv lv s) (n : Int) : BoxR (w.setCell ⟨g, 3, none⟩ (.int .i64 n)) g tv lv ⟨s.k, s.tail, s.lv, n, s.sl⟩ := by
  unfold BoxR at h ⊢; rw [heap_setCell_same w g 3 _ _ _ h]; simp
theorem BoxR.slack {w : World} {g : Nat} {tv lv : Value} {s : P.Rk} (h : BoxR w g tv lv s) (n : Int) : BoxR (w.setCell ⟨g, 4, none⟩ (.int .i64 n)) g tv lv ⟨s.k, s.tail, s.lv, s.n, n⟩ := by
  unfold BoxR at h ⊢; rw [heap_setCell_same w g 4 _ _ _ h]; simp
/-- What is owned stays, where the box is written. -/
theorem OwnV.box {w : World} {base g : Nat} {tv lv tb lb : Value} {s r : P.Rk} (h : OwnV w base tv lv s) (hb : BoxR w g tb lb r) (j : Nat) (u : Value) : OwnV (w.setCell ⟨g, j, none⟩ u) base tv lv s := h.kept (setCell_grown w g j u) hb (by decide) (by decide)
theorem OwnI.box {w : World} {base g : Nat} {v tb lb : Value} {l : List Int} {r : P.Rk} (h : OwnI w base v l) (hb : BoxR w g tb lb r) (j : Nat) (u : Value) : OwnI (w.setCell ⟨g, j, none⟩ u) base v l := OwnK.keep h (setCell_grown w g j u) (.inr (own_ne h hb (by decide)))
theorem BoxR.neI {w : World} {base g : Nat} {v tb lb : Value} {l : List Int} {r : P.Rk} (hb : BoxR w g tb lb r) (h : OwnI w base v l) : v.ownBlock ≠ some g := own_ne h hb (by decide)
theorem BoxR.neL {w : World} {base g : Nat} {v tb lb : Value} {vs : List Value} {r : P.Rk} (hb : BoxR w g tb lb r) (h : OwnL w base v vs) : v.ownBlock ≠ some g := own_ne h hb (by decide)
/-- 'append(levels, row)': one slice put behind a row of slices, and in which block it lies then. -/
theorem wp_app1L {ops : Array Oper} {rest : List Oper} {o : Oper} {a : Act} {Q : Exit → Act → World → Prop} (hgd : o.guard = none) (s x : Operand)
    (ho : o.op = .call { callee := .builtin .append, args := #[s, x], argTypes := #[23, 23] })
    (base : Nat) (w : World) (v : Value) (vs : List Value) (y : Value) (hy : y.oneCell' = true) (hown : OwnL w base v vs) (hs : a.eval s = v)
    (hx : a.eval x = .slice (some ⟨w.heap.size, 0, none⟩) 1 1) (hlen : (vs.length + 1) * 24 ≤ 140737488355328) (hbase : base ≤ w.heap.size)
    (h : ∀ v' w', OwnL w' base v' (vs ++ [y]) → w.grownBy w' v.ownBlock → wpList Try.prog ops Q rest (a.put o.dst v') w') :
    wpList Try.prog ops Q (o :: rest) a (w.alloc (.cells #[y] 22)) := by
  obtain ⟨i0, hi, hz0, hz1, hz2⟩ := info_parts Try.info22
  refine wpList_append_own _ hgd s x 23 ho base 22 i0 (.slice none 0 0) 1 24 Try.underlying23 hi hz0 hz1 hz2 rfl (by omega) v _ _ hs (World.ownsRow.alloc hown _) ⟨w.heap.size, 0, none⟩ 1 1 [y] hx rfl ?_ ?_ ?_ ?_ ?_ ?_
  · intro j u hj
    match j, hj with
    | 0, hj => simp at hj; subst hj; simp [Addr.add]
  · intro u hu; simp at hu; subst hu; exact hy
  · unfold maxLen; omega
  · omega
  · simp; omega
  · intro v' w' ho' hg _
    refine h v' w' ?_ ((World.grownBy_alloc w _ _).trans hg)
    show w'.ownsRow base 22 1 v' (vs ++ [y]).length (vs ++ [y])
    rw [List.length_append]; exact ho'
/-- A whole rank stored into its box. -/
def setR (w : World) (g : Nat) (tv lv : Value) (s : P.Rk) : World :=
  ((((w.setCell ⟨g, 0, none⟩ (.int .i64 s.k)).setCell ⟨g, 1, none⟩ tv).setCell ⟨g, 2, none⟩ lv).setCell ⟨g, 3, none⟩ (.int .i64 s.n)).setCell ⟨g, 4, none⟩ (.int .i64 s.sl)
theorem BoxR.all {w : World} {g : Nat} {tv lv : Value} {s : P.Rk} (h : BoxR w g tv lv s) (tv' lv' : Value) (s' : P.Rk) : BoxR (setR w g tv' lv' s') g tv' lv' s' := by
  unfold BoxR at h ⊢
  unfold setR
  have h0 := heap_setCell_same w g 0 _ _ (.int .i64 s'.k) h
  have h1 := heap_setCell_same _ g 1 _ _ tv' h0
  have h2 := heap_setCell_same _ g 2 _ _ lv' h1
  have h3 := heap_setCell_same _ g 3 _ _ (.int .i64 s'.n) h2
  have h4 := heap_setCell_same _ g 4 _ _ (.int .i64 s'.sl) h3
  rw [h4]; simp
theorem setR_grown (w : World) (g : Nat) (tv lv : Value) (s : P.Rk) : w.grownBy (setR w g tv lv s) (some g) := by
  unfold setR
  exact ((((setCell_grown w g 0 _).trans (setCell_grown _ g 1 _)).trans (setCell_grown _ g 2 _)).trans (setCell_grown _ g 3 _)).trans (setCell_grown _ g 4 _)
theorem Below.setR' {B : Nat} {a w : World} {g : Nat} (h : Below B a w) (hg : B ≤ g) (tv lv : Value) (s : P.Rk) : Below B a (setR w g tv lv s) := by
  unfold setR
  exact ((((h.setCell hg _).setCell hg _).setCell hg _).setCell hg _).setCell hg _
theorem OwnV.setR' {w : World} {base g : Nat} {tv lv tb lb tb' lb' : Value} {s r s' : P.Rk} (h : OwnV w base tv lv s) (hb : BoxR w g tb lb r) : OwnV (setR w g tb' lb' s') base tv lv s := h.kept (setR_grown w g _ _ _) hb (by decide) (by decide)
theorem OwnV.base {w : World} {b b' : Nat} {tv lv : Value} {s : P.Rk} (h : OwnV w b tv lv s) (hb : b' ≤ b) : OwnV w b' tv lv s := by
  obtain ⟨h1, vs, h2, h3, h4, h5⟩ := h
  refine ⟨OwnK.base h1 hb, vs, h2, ?_, fun j v l hv hl => OwnK.base (h4 j v l hv hl) hb, h5⟩
  obtain ⟨a1, a2⟩ := h3
  refine ⟨a1, ?_⟩
  rcases a2 with a2 | ⟨g, cap, cur, rfl, hg, r⟩
  · exact .inl a2
  · exact .inr ⟨g, cap, cur, rfl, Nat.le_trans hb hg, r⟩
/-- A rank with other numbers beside the same lists. -/
theorem OwnV.same {w : World} {b : Nat} {tv lv : Value} {s s' : P.Rk} (h : OwnV w b tv lv s) (h1 : s'.tail = s.tail) (h2 : s'.lv = s.lv) : OwnV w b tv lv s' := by
  obtain ⟨a1, vs, a2, a3, a4, a5⟩ := h
  exact ⟨by rw [h1]; exact a1, vs, by rw [h2]; exact a2, a3, by rw [h2]; exact a4, a5⟩
end Go.Proofs.Ytlndbmenaaiogaa
