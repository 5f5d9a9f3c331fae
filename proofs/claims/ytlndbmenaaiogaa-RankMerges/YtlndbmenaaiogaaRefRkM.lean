/- Levels that the reference makes: a row of slices of the call's own, whose lists can be read. -/
import Derived.Test.YtlndbmenaaiogaaRefRkP
import Derived.Test.YtlndbmenaaiogaaKitV
namespace Go.Proofs.Ytlndbmenaaiogaa
open Go.RowKit
set_option linter.unusedVariables false
theorem run_append_none' {P : Program} {w : World} (base : Nat) (t ty e : TypeId) (i : TypeInfo) (size c : Nat) (ht : P.underlying t = some (.slice e)) (hi : P.info? e = some i)
    (v : Value) (n : Nat) (xs : List Value) (hown : w.ownsRow base e size v n xs) :
    (Builtin.append_ #[t, t] ty #[v, .slice none 0 c]).run P w = .ok v w := by
  rcases hown.2 with ⟨rfl, rfl⟩ | ⟨g, cap, cur, rfl, _, _, hnc, _⟩
  · simp [Builtin.append_, run_underlying ht, sizeOf, typeInfo, hi, Builtin.lenOf, Builtin.firstCells]
  · simp [Builtin.append_, run_underlying ht, sizeOf, typeInfo, hi, Builtin.lenOf, Builtin.firstCells, hnc, storeCells]
/-- The values of a row of rows. -/
theorem RowsI.vals {w : World} {v : Value} {L : List (List Int)} (h : RowsI w v L) : ∃ a cap, ∃ us : List Value, v = .slice a L.length cap ∧ cap ≤ maxLen ∧ us.length = L.length ∧ (∀ (j : Nat) (u : Value) (l : List Int), us[j]? = some u → L[j]? = some l → RowK .i64 w u l) ∧
    (L = [] ∨ ∃ b off, a = some ⟨b, off, none⟩ ∧ ∀ (j : Nat) (u : Value), us[j]? = some u → w.cell? ⟨b, off + j, none⟩ = some u) := by
  obtain ⟨a, cap, rfl, ⟨h1, h2⟩, h3⟩ := h
  rcases h3 with rfl | ⟨b, off, rfl, hlt, hc⟩
  · exact ⟨a, cap, [], rfl, h2, rfl, fun j u l hu => by simp at hu, .inl rfl⟩
  · have key : ∀ j, j < L.length → ∃ u : Value, w.cell? ⟨b, off + j, none⟩ = some u ∧ ∀ l, L[j]? = some l → RowK .i64 w u l := by
      intro j hj
      obtain ⟨vj, g0, g1⟩ := hc j _ (List.getElem?_eq_getElem hj)
      refine ⟨vj, g0, fun l hl => ?_⟩
      rw [List.getElem?_eq_getElem hj] at hl
      simp at hl; subst hl; exact g1
    obtain ⟨f, hf⟩ := Go.Deep.choose_lt key
    have hget : ∀ (j : Nat) (u : Value), ((List.range L.length).map f)[j]? = some u → j < L.length ∧ u = f j := by
      intro j u hu
      have hj : j < L.length := by
        rcases Nat.lt_or_ge j L.length with h | h
        · exact h
        · rw [List.getElem?_eq_none (by simpa using h)] at hu; cases hu
      simp [hj] at hu
      exact ⟨hj, hu.symm⟩
    refine ⟨_, cap, (List.range L.length).map f, rfl, h2, by simp, fun j u l hu hl => ?_, .inr ⟨b, off, rfl, fun j u hu => ?_⟩⟩
    · obtain ⟨hj, rfl⟩ := hget j u hu
      exact (hf j hj).2 l hl
    · obtain ⟨hj, rfl⟩ := hget j u hu
      exact (hf j hj).1
/-- 'append(levels, more...)' to a row of slices of the call's own. -/
theorem wp_appL {ops : Array Oper} {rest : List Oper} {o : Oper} {a : Act} {Q : Exit → Act → World → Prop} (hgd : o.guard = none) (s x : Operand)
    (ho : o.op = .call { callee := .builtin .append, args := #[s, x], argTypes := #[23, 23] })
    (base : Nat) (w : World) (v vx : Value) (vs : List Value) (L : List (List Int)) (hown : OwnL w base v vs) (hrow : RowsI w vx L) (hs : a.eval s = v) (hx : a.eval x = vx)
    (hlen : (vs.length + L.length) * 24 ≤ 140737488355328) (hbase : base ≤ w.heap.size)
    (h : ∀ v' w' (us : List Value), us.length = L.length → (∀ (j : Nat) (u : Value) (l : List Int), us[j]? = some u → L[j]? = some l → RowK .i64 w u l) → OwnL w' base v' (vs ++ us) → w.grownBy w' v.ownBlock → wpList Try.prog ops Q rest (a.put o.dst v') w') :
    wpList Try.prog ops Q (o :: rest) a w := by
  refine wpList_plain hgd fun K hK => ?_
  obtain ⟨i0, hi, hz0, hz1, hz2⟩ := info_parts Try.info22
  obtain ⟨ao, cap, us, rfl, hcm, hul, hrd, hcase⟩ := hrow.vals
  have h1c : ∀ u ∈ us, u.oneCell' = true := by
    intro u hu
    obtain ⟨j, hj, rfl⟩ := List.mem_iff_getElem.1 hu
    obtain ⟨a', c', e, _⟩ := hrd j us[j] _ (List.getElem?_eq_getElem hj) (List.getElem?_eq_getElem (show j < L.length by omega))
    rw [e]; rfl
  have go : ∀ ad : Addr, ao = some ad → (∀ j u, us[j]? = some u → w.cell? (ad.add j) = some u) → Oper.wp Try.prog o a w K Q := by
    intro ad hao hc
    subst hao
    refine wp_append_own _ s x 23 ho base 22 i0 (.slice none 0 0) 1 24 Try.underlying23 hi hz0 hz1 hz2 rfl (by decide) v _ _ hs hown ad L.length cap us hx (by simp [hul]) hc h1c ?_ ?_ hbase ?_
    · unfold maxLen; omega
    · omega
    · intro v' w' ho' hg _
      refine hK _ _ (h v' w' us hul hrd ?_ hg)
      show w'.ownsRow base 22 1 v' (vs ++ us).length (vs ++ us)
      rw [List.length_append, hul]; exact ho'
  rcases hcase with h0 | ⟨b, off, rfl, hcell⟩
  · subst h0
    obtain rfl : us = [] := List.length_eq_zero_iff.1 hul
    cases ao with
    | none =>
      have hrun := run_append_none' (P := Try.prog) (w := w) base 23 o.type 22 i0 1 cap Try.underlying23 hi v _ _ hown
      have hx' : a.eval x = .slice none 0 cap := hx
      unfold Oper.wp
      simp [execOp, ho, resolve, invoke, builtin, hs, hx', hrun, Result.andThen]
      exact hK _ _ (h v w [] rfl hrd (by rw [List.append_nil]; exact hown) ⟨rfl, rfl, rfl, Nat.le_refl _, fun _ _ _ => rfl⟩)
    | some ad => exact go ad rfl (fun j u hj => by simp at hj)
  · refine go _ rfl (fun j u hj => ?_)
    rw [add_none]; exact hcell j u hj
/-- A row of slices of the call's own, whose lists could be read at the call. -/
structure OwnR (w0 w : World) (base : Nat) (v : Value) (L : List (List Int)) : Prop where
  ex : ∃ us : List Value, us.length = L.length ∧ OwnL w base v us ∧ ∀ (j : Nat) (u : Value) (l : List Int), us[j]? = some u → L[j]? = some l → RowK .i64 w0 u l
theorem OwnR.below {w0 w w' : World} {base B : Nat} {v : Value} {L : List (List Int)} (h : OwnR w0 w base v L) (hb : Below B w w') (hB : w.heap.size ≤ B) : OwnR w0 w' base v L := by
  obtain ⟨us, h1, h2, h3⟩ := h
  exact ⟨us, h1, OwnL.below h2 hb hB, h3⟩
theorem OwnR.kept {w0 w w' : World} {base : Nat} {v : Value} {L : List (List Int)} {row : Option Nat} (h : OwnR w0 w base v L) (hg : w.grownBy w' row) (hne : v.ownBlock = none ∨ v.ownBlock ≠ row) : OwnR w0 w' base v L := by
  obtain ⟨us, h1, h2, h3⟩ := h
  exact ⟨us, h1, World.ownsRow.kept h2 hg hne, h3⟩
theorem OwnR.box {w0 w : World} {base g : Nat} {v tb lb : Value} {L : List (List Int)} {r : P.Rk} (h : OwnR w0 w base v L) (hb : BoxR w g tb lb r) (j : Nat) (u : Value) : OwnR w0 (w.setCell ⟨g, j, none⟩ u) base v L := by
  obtain ⟨us, h1, h2, h3⟩ := h
  exact ⟨us, h1, World.ownsRow.kept h2 (setCell_grown w g j u) (.inr (own_ne h2 hb (by decide))), h3⟩
theorem OwnR.shp {w0 w : World} {base : Nat} {v : Value} {L : List (List Int)} (h : OwnR w0 w base v L) : ∃ a cap, v = .slice a L.length cap ∧ L.length ≤ cap ∧ cap ≤ maxLen ∧ (L = [] ∨ ∃ g, a = some ⟨g, 0, none⟩ ∧ base ≤ g ∧ g < w.heap.size) := by
  obtain ⟨us, h1, h2, h3⟩ := h
  obtain ⟨a, c, hv, c1, c2, c3⟩ := OwnL.shp h2
  rw [h1] at hv c1
  refine ⟨a, c, hv, c1, c2, ?_⟩
  rcases c3 with c3 | c3
  · left; subst c3; exact List.length_eq_zero_iff.1 h1.symm
  · exact .inr c3
theorem OwnR.level {w0 w : World} {base gl n cap j : Nat} {L : List (List Int)} {l : List Int} (h : OwnR w0 w base (.slice (some ⟨gl, 0, none⟩) n cap) L) (hj : L[j]? = some l) : ∃ u, w.cell? ⟨gl, j, none⟩ = some u ∧ RowK .i64 w0 u l := by
  obtain ⟨us, h1, h2, h3⟩ := h
  have hn : n = us.length := by
    obtain ⟨a, c, hv, _⟩ := OwnL.shp h2
    simp only [Value.slice.injEq] at hv
    exact hv.2.1
  subst hn
  have hlt : j < us.length := by
    rcases Nat.lt_or_ge j L.length with h | h
    · omega
    · rw [List.getElem?_eq_none h] at hj; cases hj
  have hv : us[j]? = some us[j] := List.getElem?_eq_getElem hlt
  exact ⟨us[j], by rw [World.ownsRow.cellAt h2 j (by omega)]; exact hv, h3 j _ l hv hj⟩
theorem OwnR.unfrozen {w0 w : World} {base gl n cap : Nat} {L : List (List Int)} (h : OwnR w0 w base (.slice (some ⟨gl, 0, none⟩) n cap) L) (j : Nat) : w.frozen? ⟨gl, j, none⟩ = false := by
  obtain ⟨us, h1, h2, h3⟩ := h
  have hn : n = us.length := by
    obtain ⟨a, c, hv, _⟩ := OwnL.shp h2
    simp only [Value.slice.injEq] at hv
    exact hv.2.1
  subst hn
  exact World.ownsRow.frozenAt h2 j
theorem OwnR.set {w0 w : World} {base gl n cap j : Nat} {u : Value} {L : List (List Int)} {m : List Int} (h : OwnR w0 w base (.slice (some ⟨gl, 0, none⟩) n cap) L) (hu : RowK .i64 w0 u m) :
    OwnR w0 (w.setCell ⟨gl, j, none⟩ u) base (.slice (some ⟨gl, 0, none⟩) n cap) (L.set j m) := by
  obtain ⟨us, h1, h2, h3⟩ := h
  have hn : n = us.length := by
    obtain ⟨a, c, hv, _⟩ := OwnL.shp h2
    simp only [Value.slice.injEq] at hv
    exact hv.2.1
  subst hn
  obtain ⟨s1, s2⟩ := World.ownsRow.stored h2 j u
  refine ⟨us.set j u, by simp [h1], ?_, fun i v l hv hl => ?_⟩
  · show World.ownsRow _ _ _ _ _ (us.set j u).length _
    rw [List.length_set]; exact s1
  · rw [List.getElem?_set] at hv hl
    split at hv
    · rename_i e
      rw [if_pos e] at hl
      split at hv
      · split at hl
        · simp at hv hl; subst hv hl; exact hu
        · cases hl
      · cases hv
    · rename_i e
      rw [if_neg e] at hl
      exact h3 i v l hv hl
theorem OwnR.neBox {w0 w : World} {base gl n cap g : Nat} {tb lb : Value} {L : List (List Int)} {r : P.Rk} (h : OwnR w0 w base (.slice (some ⟨gl, 0, none⟩) n cap) L) (hb : BoxR w g tb lb r) : gl ≠ g := by
  obtain ⟨us, h1, h2, h3⟩ := h
  intro e
  exact hb.neL h2 (by simp [Value.ownBlock, e])
theorem nilRow (k : IntKind) (w : World) : RowK k w (.slice none 0 0) [] := ⟨none, 0, rfl, ⟨by simp, by simp, fun _ => rfl⟩, .inl rfl⟩
theorem OwnR.push {w0 w w' : World} {base : Nat} {v v' : Value} {L : List (List Int)} {us : List Value} (h1 : us.length = L.length) (h3 : ∀ (j : Nat) (u : Value) (l : List Int), us[j]? = some u → L[j]? = some l → RowK .i64 w0 u l)
    (how : OwnL w' base v' (us ++ [.slice none 0 0])) : OwnR w0 w' base v' (L ++ [[]]) := by
  refine ⟨us ++ [.slice none 0 0], by simp [h1], how, fun j u l hu hl => ?_⟩
  rcases Nat.lt_or_ge j us.length with hj | hj
  · rw [List.getElem?_append_left hj] at hu
    rw [List.getElem?_append_left (by omega)] at hl
    exact h3 j u l hu hl
  · rw [List.getElem?_append_right hj] at hu
    rw [List.getElem?_append_right (by omega)] at hl
    have e : j = us.length := by
      rcases Nat.lt_or_ge us.length j with h6 | h6
      · rw [List.getElem?_eq_none (by simp; omega)] at hu; cases hu
      · omega
    subst e
    rw [h1] at hl
    simp at hu hl
    subst hu hl
    exact nilRow _ _
/-- Its lists can be read now. -/
theorem OwnR.read {w0 w : World} {base : Nat} {v : Value} {L : List (List Int)} (h : OwnR w0 w base v L) (hb : Below w0.heap.size w0 w) : RowsI w v L := by
  obtain ⟨a, cap, hv, c1, c2, c3⟩ := h.shp
  subst hv
  refine ⟨a, cap, rfl, ⟨c1, c2⟩, ?_⟩
  rcases c3 with c3 | ⟨g, rfl, hg, hs⟩
  · exact .inl c3
  · refine .inr ⟨g, 0, rfl, hs, fun j l hl => ?_⟩
    obtain ⟨u, h1, h2⟩ := h.level hl
    rw [Nat.zero_add]
    exact ⟨u, h1, h2.below hb (Nat.le_refl _)⟩
end Go.Proofs.Ytlndbmenaaiogaa
