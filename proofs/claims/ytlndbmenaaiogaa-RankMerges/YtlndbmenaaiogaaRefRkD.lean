/- Ranks that the reference makes: each list can be read as it was at first, or is the call's own. -/
import Derived.Test.YtlndbmenaaiogaaRefRkM
import Derived.Test.YtlndbmenaaiogaaRankD
namespace Go.Proofs.Ytlndbmenaaiogaa
open Go.RowKit
set_option linter.unusedVariables false
/-- A row that could be read at first, or that the call owns. -/
def RdI (w0 w : World) (v : Value) (l : List Int) : Prop := RowK .i64 w0 v l ∨ OwnI w w0.heap.size v l
theorem RdI.row {w0 w : World} {v : Value} {l : List Int} (h : RdI w0 w v l) (hb : Below w0.heap.size w0 w) : RowK .i64 w v l := by
  rcases h with h | h
  · exact h.below hb (Nat.le_refl _)
  · exact OwnK.row h
theorem RdI.below {w0 w w' : World} {B : Nat} {v : Value} {l : List Int} (h : RdI w0 w v l) (hb : Below B w w') (hB : w.heap.size ≤ B) : RdI w0 w' v l := by
  rcases h with h | h
  · exact .inl h
  · exact .inr (OwnK.below h hb hB)
theorem RdI.keepT {w0 w w' : World} {g : Nat} {v : Value} {l : List Int} {cur : Array Value} {t : TypeId} (h : RdI w0 w v l) (hg : w.grownBy w' (some g)) (hh : w.heap[g]? = some (.cells cur t (0, 0))) (ht : t ≠ 2) : RdI w0 w' v l := by
  rcases h with h | h
  · exact .inl h
  · exact .inr (OwnK.keep h hg (.inr (own_ne h hh ht)))
theorem RdI.keepL {w0 w w' : World} {b : Nat} {v lvv : Value} {l : List Int} {us : List Value} (h : RdI w0 w v l) (ho : OwnL w b lvv us) (hg : w.grownBy w' lvv.ownBlock) : RdI w0 w' v l := by
  rcases h with h | h
  · exact .inl h
  · exact .inr (OwnK.keep h hg (own_two ho h (by decide)))
theorem RdI.nil (w0 w : World) : RdI w0 w (.slice none 0 0) [] := .inl (nilRow _ _)
/-- A row of levels of the call's own. -/
structure OwnQ (w0 w : World) (base : Nat) (v : Value) (L : List (List Int)) : Prop where
  ex : ∃ us : List Value, us.length = L.length ∧ OwnL w base v us ∧ ∀ (j : Nat) (u : Value) (l : List Int), us[j]? = some u → L[j]? = some l → RdI w0 w u l
theorem OwnQ.below {w0 w w' : World} {base B : Nat} {v : Value} {L : List (List Int)} (h : OwnQ w0 w base v L) (hb : Below B w w') (hB : w.heap.size ≤ B) : OwnQ w0 w' base v L := by
  obtain ⟨us, h1, h2, h3⟩ := h
  exact ⟨us, h1, OwnL.below h2 hb hB, fun j u l hu hl => (h3 j u l hu hl).below hb hB⟩
theorem OwnQ.keepT {w0 w w' : World} {base g : Nat} {v : Value} {L : List (List Int)} {cur : Array Value} {t : TypeId} (h : OwnQ w0 w base v L) (hg : w.grownBy w' (some g)) (hh : w.heap[g]? = some (.cells cur t (0, 0))) (h1 : t ≠ 2) (h2 : t ≠ 22) : OwnQ w0 w' base v L := by
  obtain ⟨us, a1, a2, a3⟩ := h
  exact ⟨us, a1, World.ownsRow.kept a2 hg (.inr (own_ne a2 hh h2)), fun j u l hu hl => (a3 j u l hu hl).keepT hg hh h1⟩
theorem OwnQ.box {w0 w : World} {base g : Nat} {v tb lb : Value} {L : List (List Int)} {r : P.Rk} (h : OwnQ w0 w base v L) (hb : BoxR w g tb lb r) (j : Nat) (u : Value) : OwnQ w0 (w.setCell ⟨g, j, none⟩ u) base v L := h.keepT (setCell_grown w g j u) hb (by decide) (by decide)
theorem OwnQ.base {w0 w : World} {b b' : Nat} {v : Value} {L : List (List Int)} (h : OwnQ w0 w b v L) (hb : b' ≤ b) : OwnQ w0 w b' v L := by
  obtain ⟨us, h1, h2, h3⟩ := h
  refine ⟨us, h1, ?_, h3⟩
  obtain ⟨a1, a2⟩ := h2
  refine ⟨a1, ?_⟩
  rcases a2 with a2 | ⟨g, cap, cur, rfl, hg, r⟩
  · exact .inl a2
  · exact .inr ⟨g, cap, cur, rfl, Nat.le_trans hb hg, r⟩
theorem OwnQ.shp {w0 w : World} {base : Nat} {v : Value} {L : List (List Int)} (h : OwnQ w0 w base v L) : ∃ a cap, v = .slice a L.length cap ∧ L.length ≤ cap ∧ cap ≤ maxLen ∧ (L = [] ∨ ∃ g, a = some ⟨g, 0, none⟩ ∧ base ≤ g ∧ g < w.heap.size) := by
  obtain ⟨us, h1, h2, h3⟩ := h
  obtain ⟨a, c, hv, c1, c2, c3⟩ := OwnL.shp h2
  rw [h1] at hv c1
  refine ⟨a, c, hv, c1, c2, ?_⟩
  rcases c3 with c3 | c3
  · left; subst c3; exact List.length_eq_zero_iff.1 h1.symm
  · exact .inr c3
theorem OwnQ.level {w0 w : World} {base gl n cap j : Nat} {L : List (List Int)} {l : List Int} (h : OwnQ w0 w base (.slice (some ⟨gl, 0, none⟩) n cap) L) (hj : L[j]? = some l) : ∃ u, w.cell? ⟨gl, j, none⟩ = some u ∧ RdI w0 w u l := by
  obtain ⟨us, h1, h2, h3⟩ := h
  have hn : n = us.length := by
    obtain ⟨a, c, hv, _⟩ := OwnL.shp h2
    simp only [Value.slice.injEq] at hv
    exact hv.2.1
  subst hn
  have hlt : j < us.length := by
    rcases Nat.lt_or_ge j L.length with h | h
    · omega
    · rw [List.getElem?_eq_none h] at hj; cases hj
  have hv : us[j]? = some us[j] := List.getElem?_eq_getElem hlt
  exact ⟨us[j], by rw [World.ownsRow.cellAt h2 j (by omega)]; exact hv, h3 j _ l hv hj⟩
theorem OwnQ.unfrozen {w0 w : World} {base gl n cap : Nat} {L : List (List Int)} (h : OwnQ w0 w base (.slice (some ⟨gl, 0, none⟩) n cap) L) (j : Nat) : w.frozen? ⟨gl, j, none⟩ = false := by
  obtain ⟨us, h1, h2, h3⟩ := h
  have hn : n = us.length := by
    obtain ⟨a, c, hv, _⟩ := OwnL.shp h2
    simp only [Value.slice.injEq] at hv
    exact hv.2.1
  subst hn
  exact World.ownsRow.frozenAt h2 j
theorem RdI.level {w0 w : World} {base gl n cap j : Nat} {v u : Value} {l : List Int} {L : List (List Int)} (hv : RdI w0 w v l) (h : OwnQ w0 w base (.slice (some ⟨gl, 0, none⟩) n cap) L) : RdI w0 (w.setCell ⟨gl, j, none⟩ u) v l := by
  obtain ⟨us, h1, h2, h3⟩ := h
  exact hv.keepL h2 (setCell_grown w gl j u)
theorem OwnQ.set {w0 w : World} {base gl n cap j : Nat} {u : Value} {L : List (List Int)} {m : List Int} (h : OwnQ w0 w base (.slice (some ⟨gl, 0, none⟩) n cap) L) (hu : RdI w0 w u m) :
    OwnQ w0 (w.setCell ⟨gl, j, none⟩ u) base (.slice (some ⟨gl, 0, none⟩) n cap) (L.set j m) := by
  have hu' := hu.level (j := j) (u := u) h
  obtain ⟨us, h1, h2, h3⟩ := h
  have hn : n = us.length := by
    obtain ⟨a, c, hv, _⟩ := OwnL.shp h2
    simp only [Value.slice.injEq] at hv
    exact hv.2.1
  subst hn
  obtain ⟨s1, s2⟩ := World.ownsRow.stored h2 j u
  refine ⟨us.set j u, by simp [h1], ?_, fun i v l hv hl => ?_⟩
  · show World.ownsRow _ _ _ _ _ (us.set j u).length _
    rw [List.length_set]; exact s1
  · rw [List.getElem?_set] at hv hl
    split at hv
    · rename_i e
      rw [if_pos e] at hl
      split at hv
      · split at hl
        · simp at hv hl; subst hv hl; exact hu'
        · cases hl
      · cases hv
    · rename_i e
      rw [if_neg e] at hl
      exact (h3 i v l hv hl).keepL h2 s2
theorem OwnQ.neBox {w0 w : World} {base gl n cap g : Nat} {tb lb : Value} {L : List (List Int)} {r : P.Rk} (h : OwnQ w0 w base (.slice (some ⟨gl, 0, none⟩) n cap) L) (hb : BoxR w g tb lb r) : gl ≠ g := by
  obtain ⟨us, h1, h2, h3⟩ := h
  intro e
  exact hb.neL h2 (by simp [Value.ownBlock, e])
theorem OwnQ.push {w0 w w' : World} {base : Nat} {v v' : Value} {L : List (List Int)} {us : List Value} (h1 : us.length = L.length) (h2 : OwnL w base v us) (h3 : ∀ (j : Nat) (u : Value) (l : List Int), us[j]? = some u → L[j]? = some l → RdI w0 w u l)
    (how : OwnL w' base v' (us ++ [.slice none 0 0])) (hg : w.grownBy w' v.ownBlock) : OwnQ w0 w' base v' (L ++ [[]]) := by
  refine ⟨us ++ [.slice none 0 0], by simp [h1], how, fun j u l hu hl => ?_⟩
  rcases Nat.lt_or_ge j us.length with hj | hj
  · rw [List.getElem?_append_left hj] at hu
    rw [List.getElem?_append_left (by omega)] at hl
    exact (h3 j u l hu hl).keepL h2 hg
  · rw [List.getElem?_append_right hj] at hu
    rw [List.getElem?_append_right (by omega)] at hl
    have e : j = us.length := by
      rcases Nat.lt_or_ge us.length j with h6 | h6
      · rw [List.getElem?_eq_none (by simp; omega)] at hu; cases hu
      · omega
    subst e
    rw [h1] at hl
    simp at hu hl
    subst hu hl
    exact RdI.nil _ _
/-- Levels that could be read at first, or that the call owns. -/
def RdL (w0 w : World) (v : Value) (L : List (List Int)) : Prop := RowsI w0 v L ∨ OwnQ w0 w w0.heap.size v L
theorem RdL.below {w0 w w' : World} {B : Nat} {v : Value} {L : List (List Int)} (h : RdL w0 w v L) (hb : Below B w w') (hB : w.heap.size ≤ B) : RdL w0 w' v L := by
  rcases h with h | h
  · exact .inl h
  · exact .inr (h.below hb hB)
theorem RdL.keepT {w0 w w' : World} {g : Nat} {v : Value} {L : List (List Int)} {cur : Array Value} {t : TypeId} (h : RdL w0 w v L) (hg : w.grownBy w' (some g)) (hh : w.heap[g]? = some (.cells cur t (0, 0))) (h1 : t ≠ 2) (h2 : t ≠ 22) : RdL w0 w' v L := by
  rcases h with h | h
  · exact .inl h
  · exact .inr (h.keepT hg hh h1 h2)
theorem RdL.rows {w0 w : World} {v : Value} {L : List (List Int)} (h : RdL w0 w v L) (hb : Below w0.heap.size w0 w) : RowsI w v L := by
  rcases h with h | h
  · exact h.below hb (Nat.le_refl _)
  · obtain ⟨a, cap, hv, c1, c2, c3⟩ := h.shp
    subst hv
    refine ⟨a, cap, rfl, ⟨c1, c2⟩, ?_⟩
    rcases c3 with c3 | ⟨g, rfl, hg, hs⟩
    · exact .inl c3
    · refine .inr ⟨g, 0, rfl, hs, fun j l hl => ?_⟩
      obtain ⟨u, h1, h2⟩ := h.level hl
      rw [Nat.zero_add]
      exact ⟨u, h1, h2.row hb⟩
theorem RdL.vals {w0 w : World} {v : Value} {L : List (List Int)} (h : RdL w0 w v L) (hb : Below w0.heap.size w0 w) : ∃ a cap, ∃ us : List Value, v = .slice a L.length cap ∧ cap ≤ maxLen ∧ us.length = L.length ∧ (∀ (j : Nat) (u : Value) (l : List Int), us[j]? = some u → L[j]? = some l → RdI w0 w u l) ∧
    (L = [] ∨ ∃ b off, a = some ⟨b, off, none⟩ ∧ ∀ (j : Nat) (u : Value), us[j]? = some u → w.cell? ⟨b, off + j, none⟩ = some u) := by
  rcases h with h | h
  · obtain ⟨a, cap, us, h1, h2, h3, h4, h5⟩ := h.vals
    refine ⟨a, cap, us, h1, h2, h3, fun j u l hu hl => .inl (h4 j u l hu hl), ?_⟩
    rcases h5 with h5 | ⟨b, off, e, hc⟩
    · exact .inl h5
    · exact .inr ⟨b, off, e, fun j u hu => keep_cell (hc j u hu) hb⟩
  · obtain ⟨a, cap, hv, c1, c2, c3⟩ := h.shp
    obtain ⟨us, h1, h2, h3⟩ := h
    subst hv
    refine ⟨a, cap, us, rfl, c2, h1, h3, ?_⟩
    rcases c3 with c3 | ⟨g, rfl, hg, hs⟩
    · exact .inl c3
    · refine .inr ⟨g, 0, rfl, fun j u hu => ?_⟩
      have hj : j < us.length := by
        rcases Nat.lt_or_ge j us.length with h | h
        · exact h
        · rw [List.getElem?_eq_none h] at hu; cases hu
      rw [Nat.zero_add]
      have h2' : w.ownsRow w0.heap.size 22 1 (.slice (some ⟨g, 0, none⟩) us.length cap) us.length us := by rw [← h1] at h2; exact h2
      rw [World.ownsRow.cellAt h2' j (by omega)]; exact hu
/-- A rank whose lists could be read at first, or are the call's own. -/
structure RdR (w0 w : World) (tv lv : Value) (s : P.Rk) : Prop where
  tail : RdI w0 w tv s.tail
  lv : RdL w0 w lv s.lv
theorem RdR.below {w0 w w' : World} {B : Nat} {tv lv : Value} {s : P.Rk} (h : RdR w0 w tv lv s) (hb : Below B w w') (hB : w.heap.size ≤ B) : RdR w0 w' tv lv s := ⟨h.tail.below hb hB, h.lv.below hb hB⟩
theorem RdR.keepT {w0 w w' : World} {g : Nat} {tv lv : Value} {s : P.Rk} {cur : Array Value} {t : TypeId} (h : RdR w0 w tv lv s) (hg : w.grownBy w' (some g)) (hh : w.heap[g]? = some (.cells cur t (0, 0))) (h1 : t ≠ 2) (h2 : t ≠ 22) : RdR w0 w' tv lv s := ⟨h.tail.keepT hg hh h1, h.lv.keepT hg hh h1 h2⟩
theorem RdR.setR' {w0 w : World} {g : Nat} {tv lv tb lb tb' lb' : Value} {s r s' : P.Rk} (h : RdR w0 w tv lv s) (hb : BoxR w g tb lb r) : RdR w0 (setR w g tb' lb' s') tv lv s := h.keepT (setR_grown w g _ _ _) hb (by decide) (by decide)
theorem RdR.box {w0 w : World} {g : Nat} {tv lv tb lb : Value} {s r : P.Rk} (h : RdR w0 w tv lv s) (hb : BoxR w g tb lb r) (j : Nat) (u : Value) : RdR w0 (w.setCell ⟨g, j, none⟩ u) tv lv s := h.keepT (setCell_grown w g j u) hb (by decide) (by decide)
theorem RdR.read {w0 w : World} {tv lv : Value} {s : P.Rk} (h : RdR w0 w tv lv s) (hb : Below w0.heap.size w0 w) : RkV w tv lv s := ⟨h.tail.row hb, h.lv.rows hb⟩
theorem RdR.same {w0 w : World} {tv lv : Value} {s s' : P.Rk} (h : RdR w0 w tv lv s) (h1 : s'.tail = s.tail) (h2 : s'.lv = s.lv) : RdR w0 w tv lv s' := ⟨by rw [h1]; exact h.tail, by rw [h2]; exact h.lv⟩
theorem RkV.rd {w : World} {tv lv : Value} {s : P.Rk} (h : RkV w tv lv s) : RdR w w tv lv s := ⟨.inl h.tail, .inl h.lv⟩
theorem RdI.shape {w0 w : World} {v : Value} {l : List Int} (h : RdI w0 w v l) : ∃ a c, v = .slice a l.length c := by
  rcases h with h | h
  · obtain ⟨a, c, e, _⟩ := h; exact ⟨a, c, e⟩
  · exact OwnK.shape h
theorem RdL.shape {w0 w : World} {v : Value} {L : List (List Int)} (h : RdL w0 w v L) : ∃ a c, v = .slice a L.length c := by
  rcases h with h | h
  · obtain ⟨a, c, e, _⟩ := h; exact ⟨a, c, e⟩
  · obtain ⟨a, c, e, _⟩ := h.shp; exact ⟨a, c, e⟩
/-- 'append(levels, more...)', a row of levels put behind one of the call's own. -/
theorem wp_appQ {ops : Array Oper} {rest : List Oper} {o : Oper} {a : Act} {Q : Exit → Act → World → Prop} (hgd : o.guard = none) (s x : Operand)
    (ho : o.op = .call { callee := .builtin .append, args := #[s, x], argTypes := #[23, 23] })
    (base : Nat) (w0 w : World) (vx : Value) (L : List (List Int)) (hrow : RdL w0 w vx L) (hb0 : Below w0.heap.size w0 w) (hs : a.eval s = .slice none 0 0) (hx : a.eval x = vx)
    (hlen : L.length * 24 ≤ 140737488355328) (hbase : base ≤ w.heap.size)
    (h : ∀ v' w', OwnQ w0 w' base v' L → w.grownBy w' none → wpList Try.prog ops Q rest (a.put o.dst v') w') :
    wpList Try.prog ops Q (o :: rest) a w := by
  refine wpList_plain hgd fun K hK => ?_
  obtain ⟨i0, hi, hz0, hz1, hz2⟩ := info_parts Try.info22
  obtain ⟨ao, cap, us, rfl, hcm, hul, hrd, hcase⟩ := hrow.vals hb0
  have hown : OwnL w base (.slice none 0 0) [] := World.ownsRow_nil _ _ _ _
  have h1c : ∀ u ∈ us, u.oneCell' = true := by
    intro u hu
    obtain ⟨j, hj, rfl⟩ := List.mem_iff_getElem.1 hu
    obtain ⟨a', c', e⟩ := (hrd j us[j] _ (List.getElem?_eq_getElem hj) (List.getElem?_eq_getElem (show j < L.length by omega))).shape
    rw [e]; rfl
  have go : ∀ ad : Addr, ao = some ad → (∀ j u, us[j]? = some u → w.cell? (ad.add j) = some u) → Oper.wp Try.prog o a w K Q := by
    intro ad hao hc
    subst hao
    refine wp_append_own _ s x 23 ho base 22 i0 (.slice none 0 0) 1 24 Try.underlying23 hi hz0 hz1 hz2 rfl (by decide) _ _ _ hs hown ad L.length cap us hx (by simp [hul]) hc h1c ?_ ?_ hbase ?_
    · unfold maxLen; simp; omega
    · simp; omega
    · intro v' w' ho' hg _
      refine hK _ _ (h v' w' ⟨us, hul, ?_, fun j u l hu hl => (hrd j u l hu hl).keepL hown hg⟩ hg)
      show w'.ownsRow base 22 1 v' us.length us
      rw [hul]; simpa using ho'
  rcases hcase with h0 | ⟨b, off, rfl, hcell⟩
  · subst h0
    obtain rfl : us = [] := List.length_eq_zero_iff.1 hul
    cases ao with
    | none =>
      have hrun := run_append_none' (P := Try.prog) (w := w) base 23 o.type 22 i0 1 cap Try.underlying23 hi _ _ _ hown
      have hx' : a.eval x = .slice none 0 cap := hx
      unfold Oper.wp
      simp [execOp, ho, resolve, invoke, builtin, hs, hx', hrun, Result.andThen]
      exact hK _ _ (h _ w ⟨[], rfl, hown, hrd⟩ ⟨rfl, rfl, rfl, Nat.le_refl _, fun _ _ _ => rfl⟩)
    | some ad => exact go ad rfl (fun j u hj => by simp at hj)
  · refine go _ rfl (fun j u hj => ?_)
    rw [add_none]; exact hcell j u hj
end Go.Proofs.Ytlndbmenaaiogaa
