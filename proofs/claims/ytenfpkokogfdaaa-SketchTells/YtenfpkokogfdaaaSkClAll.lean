/- Several texts in one. -/
import Derived.Test.YtenfpkokogfdaaaKitSkAll
/- What slices.Clone of rows of numbers answers. -/
namespace Go.Proofs.Ytenfpkokogfdaaa
open Go.RowKit
set_option linter.unusedVariables false
theorem OwnI.one (w : World) (base : Nat) (hb : base ≤ w.heap.size) : OwnI (w.alloc (.cells #[] 2)) base (.slice (some ⟨w.heap.size, 0, none⟩) 0 0) [] :=
  World.ownsRow_made w #[] 0 hb (by decide) rfl
/-- 'append(b, x...)' of a row that can be read to a row of the call's own. -/
theorem wp_appRowK {ops : Array Oper} {rest : List Oper} {o : Oper} {a : Act} {Q : Exit → Act → World → Prop} (hgd : o.guard = none) (s x : Operand)
    (ho : o.op = .call { callee := .builtin .append, args := #[s, x], argTypes := #[22, 22] })
    (B base : Nat) (w0 w : World) (v vx : Value) (acc l : List Int) (hown : OwnI w base v acc) (hrow : RowK .i64 w vx l) (hb : Below B w0 w) (hB : B ≤ base) (hs : a.eval s = v)
    (hx : a.eval x = vx) (hlen : (acc.length + l.length) * 8 ≤ 140737488355328) (hbase : base ≤ w.heap.size)
    (h : ∀ v' w', OwnI w' base v' (acc ++ l) → Below B w0 w' → w.heap.size ≤ w'.heap.size → w.grownBy w' v.ownBlock → wpList Try.prog ops Q rest (a.put o.dst v') w') :
    wpList Try.prog ops Q (o :: rest) a w := by
  obtain ⟨i0, hi, hz0, hz1, hz2⟩ := info_parts Try.info2
  obtain ⟨ao, cap, rfl, ⟨hlc, hcm, hnn⟩, hcase⟩ := hrow
  have go : ∀ ad : Addr, ao = some ad → (∀ j, j < l.length → w.cell? (ad.add j) = some (.int .i64 (l.getD j 0))) → wpList Try.prog ops Q (o :: rest) a w := by
    intro ad hao hc
    subst hao
    refine wpList_append_own _ hgd s x 22 ho base 2 i0 (.int .i64 0) 1 8 Try.underlying22 hi hz0 hz1 hz2 rfl (by decide) v _ _ hs hown ad l.length cap (l.map (Value.int .i64)) hx (by simp) ?_ ?_ ?_ ?_ hbase ?_
    · intro j u hj
      have hjl : j < l.length := by
        rcases Nat.lt_or_ge j l.length with h | h
        · exact h
        · rw [List.getElem?_eq_none (by simpa using h)] at hj; cases hj
      rw [hc j hjl]
      simp [List.getElem?_eq_getElem hjl] at hj
      subst hj
      simp [List.getD_eq_getElem?_getD, List.getElem?_eq_getElem hjl]
    · intro u hu; obtain ⟨z, _, rfl⟩ := List.mem_map.1 hu; rfl
    · unfold maxLen; omega
    · omega
    · intro v' w' ho' hg _
      refine h v' w' ?_ (hb.grown hg (by omega) ?_) hg.size hg
      · have e1 : (acc ++ l).length = acc.length + l.length := by simp
        have e2 : (acc ++ l).map (Value.int .i64) = acc.map (Value.int .i64) ++ l.map (Value.int .i64) := by simp
        show w'.ownsRow base 2 1 v' (acc ++ l).length ((acc ++ l).map (Value.int .i64))
        rw [e1, e2]; exact ho'
      · intro k hk; have := (hown.lt k hk).1; omega
  rcases hcase with h0 | ⟨b, off, rfl, hbs, hcell⟩
  · subst h0
    cases ao with
    | none =>
      have hcap := hnn rfl
      subst hcap
      refine wpList_append_own_none hgd s x 22 ho base 2 i0 1 Try.underlying22 hi v _ _ hs hown hx ?_
      exact h v w (by rw [List.append_nil]; exact hown) hb (Nat.le_refl _) ⟨rfl, rfl, rfl, Nat.le_refl _, fun _ _ _ => rfl⟩
    | some ad => exact go ad rfl (fun j hj => by simp at hj)
  · refine go _ rfl (fun j hj => ?_)
    rw [add_none]; exact hcell j hj
theorem cloneI_any (v : Value) (l : List Int) (w : World) (h : RowK .i64 w v l) (hlen : l.length * 8 ≤ 140737488355328) :
    Calls Try.prog 15 #[v] w fun e w' => ∃ v', e = .returned v' ∧ OwnI w' w.heap.size v' l ∧ Below w.heap.size w w' := by
  have h' := h
  obtain ⟨a, cap, rfl, hc1, hcase⟩ := h
  cases a with
  | none =>
    have hcap := hc1.2.2 rfl
    have hl : l = [] := List.length_eq_zero_iff.1 (by omega)
    subst hl hcap
    have hq := fun w : World => Lib.run_eql_slice_nil (P := Try.prog) w 22 2 none 0 0 0 0 Try.underlying22
    go_enter Try.func15, Try.ntmps15
    go_wp2
    go_ret
    exact ⟨_, rfl, World.ownsRow_nil _ _ _ _, Below.refl _ _⟩
  | some ad =>
    clear hcase
    have hq := fun w : World => Lib.run_eql_slice_nil (P := Try.prog) w 22 2 (some ad) l.length cap 0 0 Try.underlying22
    have hr1 : RowK .i64 (w.alloc (.cells #[] 2)) (.slice (some ad) l.length cap) l := h'.below ((Below.refl _ _).alloc (Nat.le_refl _) _) (Nat.le_refl _)
    have ho1 := OwnI.one w w.heap.size (Nat.le_refl _)
    have hb1 : Below w.heap.size w (w.alloc (.cells #[] 2)) := (Below.refl _ _).alloc (Nat.le_refl _) _
    clear h'
    go_enter Try.func15, Try.ntmps15
    go_wp2_with (at_builtin; go_must (refine wp_appRowK rfl _ _ rfl w.heap.size w.heap.size w _ _ _ [] l ho1 hr1 hb1 (Nat.le_refl _) rfl rfl (by simp; omega) (by simp) ?_); intro v' w1 hown' hb' hsz hg)
    go_ret
    exact ⟨v', rfl, hown', hb'⟩
end Go.Proofs.Ytenfpkokogfdaaa
