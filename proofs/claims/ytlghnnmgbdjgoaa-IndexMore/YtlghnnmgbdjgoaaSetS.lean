/- Rows of numbers: cloned, put behind one another, two that grow in turn. -/
import Derived.Test.YtlghnnmgbdjgoaaSetL
import Derived.Maps.AppendAt
import Derived.Laws.AppendOwnNone
namespace Go.Proofs.Ytlghnnmgbdjgoaa
open Go.RowKit Go.Sort
set_option linter.unusedVariables false
/-- Two rows in two blocks. -/
def Apart (v1 v2 : Value) : Prop := ∀ k, v1.ownBlock = some k → v2.ownBlock ≠ some k
theorem OwnK.grown {t : TypeId} {k : IntKind} {w w' : World} {b : Nat} {v : Value} {l : List Int} {row : Option Nat} (h : OwnK t k w b v l) (hg : w.grownBy w' row) (hr : ∀ k, v.ownBlock = some k → row ≠ some k) : OwnK t k w' b v l := by
  obtain ⟨h1, h2⟩ := h
  refine ⟨h1, ?_⟩
  rcases h2 with h2 | ⟨g, cap, cur, rfl, hg', hh, r⟩
  · exact .inl h2
  · refine .inr ⟨g, cap, cur, rfl, hg', ?_, r⟩
    rw [hg.block g (Array.getElem?_eq_some_iff.1 hh).1 (fun e => hr g rfl e.symm)]
    exact hh
/-- 'append(b, x)' of one integer to a row of the call's own, and in which block it lies then. -/
theorem wp_app1At {ops : Array Oper} {rest : List Oper} {o : Oper} {a : Act} {Q : Exit → Act → World → Prop} (hgd : o.guard = none) (s x : Operand) (st t : TypeId) (k : IntKind) (by8 : Nat)
    (ho : o.op = .call { callee := .builtin .append, args := #[s, x], argTypes := #[st, st] })
    (hu : Try.prog.underlying st = some (.slice t)) (hin : (Try.prog.info? t).map (fun i => (i.zero, i.size, i.bytes)) = some (some (.int k 0), 1, by8)) (hby : 1 ≤ by8 ∧ by8 ≤ 8)
    (B base : Nat) (w0 w : World) (v : Value) (acc : List Int) (y : Int) (hown : OwnK t k w base v acc) (hb : Below B w0 w) (hB : B ≤ base) (hs : a.eval s = v)
    (hx : a.eval x = .slice (some ⟨w.heap.size, 0, none⟩) 1 1) (hlen : (acc.length + 1) * by8 ≤ 140737488355328) (hbase : base ≤ w.heap.size)
    (h : ∀ v' w', OwnK t k w' base v' (acc ++ [y]) → Below B w0 w' → w.heap.size < w'.heap.size → w.grownBy w' v.ownBlock → (v'.ownBlock = v.ownBlock ∨ v'.ownBlock = some (w.heap.size + 1)) → wpList Try.prog ops Q rest (a.put o.dst v') w') :
    wpList Try.prog ops Q (o :: rest) a (w.alloc (.cells #[.int k y] t)) := by
  obtain ⟨i0, hi, hz0, hz1, hz2⟩ := info_parts hin
  refine wpList_append_own_at _ hgd s x st ho base t i0 (.int k 0) 1 by8 hu hi hz0 hz1 hz2 rfl (by omega) v _ _ hs (hown.alloc _) ⟨w.heap.size, 0, none⟩ 1 1 [.int k y] hx rfl ?_ ?_ ?_ ?_ ?_ ?_
  · intro j u hj
    match j, hj with
    | 0, hj => simp at hj; subst hj; simp [Addr.add]
  · intro u hu; simp at hu; subst hu; rfl
  · unfold maxLen
    have : acc.length + 1 ≤ (acc.length + 1) * by8 := Nat.le_mul_of_pos_right _ hby.1
    omega
  · omega
  · simp; omega
  · intro v' w' ho' hg _ hat
    refine h v' w' ?_ ((hb.alloc (by omega) _).grown hg (by simp; omega) ?_) ?_ ((World.grownBy_alloc w _ _).trans hg) (by simpa using hat)
    · have e1 : (acc ++ [y]).length = acc.length + 1 := by simp
      have e2 : (acc ++ [y]).map (Value.int k) = acc.map (Value.int k) ++ [.int k y] := by simp
      show w'.ownsRow base t 1 v' (acc ++ [y]).length ((acc ++ [y]).map (Value.int k))
      rw [e1, e2]; exact ho'
    · intro j hj; have := (hown.lt j hj).1; omega
    · have := hg.size; simp at this; omega
theorem wp_appRowI {ops : Array Oper} {rest : List Oper} {o : Oper} {a : Act} {Q : Exit → Act → World → Prop} (hgd : o.guard = none) (s x : Operand)
    (ho : o.op = .call { callee := .builtin .append, args := #[s, x], argTypes := #[37, 37] })
    (B base : Nat) (w0 w : World) (v vx : Value) (acc l : List Int) (hown : OwnI w base v acc) (hrow : RowK .i64 w vx l) (hb : Below B w0 w) (hB : B ≤ base) (hs : a.eval s = v)
    (hx : a.eval x = vx) (hlen : (acc.length + l.length) * 8 ≤ 140737488355328) (hbase : base ≤ w.heap.size)
    (h : ∀ v' w', OwnI w' base v' (acc ++ l) → Below B w0 w' → w.heap.size ≤ w'.heap.size → w.grownBy w' v.ownBlock → wpList Try.prog ops Q rest (a.put o.dst v') w') :
    wpList Try.prog ops Q (o :: rest) a w := by
  obtain ⟨i0, hi, hz0, hz1, hz2⟩ := info_parts infoI
  obtain ⟨ao, cap, rfl, ⟨hlc, hcm, hnn⟩, hcase⟩ := hrow
  have go : ∀ ad : Addr, ao = some ad → (∀ j, j < l.length → w.cell? (ad.add j) = some (.int .i64 (l.getD j 0))) → wpList Try.prog ops Q (o :: rest) a w := by
    intro ad hao hc
    subst hao
    refine wpList_append_own _ hgd s x 37 ho base 3 i0 (.int .i64 0) 1 8 Try.underlying37 hi hz0 hz1 hz2 rfl (by decide) v _ _ hs hown ad l.length cap (l.map (Value.int .i64)) hx (by simp) ?_ ?_ ?_ ?_ hbase ?_
    · intro j u hj
      have hjl : j < l.length := by
        rcases Nat.lt_or_ge j l.length with h | h
        · exact h
        · rw [List.getElem?_eq_none (by simpa using h)] at hj; cases hj
      rw [hc j hjl]
      simp [List.getElem?_eq_getElem hjl] at hj
      subst hj
      simp [List.getD_eq_getElem?_getD, List.getElem?_eq_getElem hjl]
    · intro u hu; obtain ⟨z, _, rfl⟩ := List.mem_map.1 hu; rfl
    · unfold maxLen; omega
    · omega
    · intro v' w' ho' hg _
      refine h v' w' ?_ (hb.grown hg (by omega) ?_) hg.size hg
      · have e1 : (acc ++ l).length = acc.length + l.length := by simp
        have e2 : (acc ++ l).map (Value.int .i64) = acc.map (Value.int .i64) ++ l.map (Value.int .i64) := by simp
        show w'.ownsRow base 3 1 v' (acc ++ l).length ((acc ++ l).map (Value.int .i64))
        rw [e1, e2]; exact ho'
      · intro k hk; have := (hown.lt k hk).1; omega
  rcases hcase with h0 | ⟨b, off, rfl, hbs, hcell⟩
  · subst h0
    cases ao with
    | none =>
      have hcap := hnn rfl
      subst hcap
      refine wpList_append_own_none hgd s x 37 ho base 3 i0 1 Try.underlying37 hi v _ _ hs hown hx ?_
      exact h v w (by rw [List.append_nil]; exact hown) hb (Nat.le_refl _) ⟨rfl, rfl, rfl, Nat.le_refl _, fun _ _ _ => rfl⟩
    | some ad => exact go ad rfl (fun j hj => by simp at hj)
  · refine go _ rfl (fun j hj => ?_)
    have ea : (Addr.add ⟨b, off, none⟩ j) = ⟨b, off + j, none⟩ := by
      unfold Addr.add; split
      · rename_i h; subst h; rfl
      · rfl
    rw [ea]; exact hcell j hj
theorem cloneI_any (v : Value) (l : List Int) (w : World) (h : RowK .i64 w v l) (hl : l.length * 8 ≤ 140737488355328) :
    Calls Try.prog 19 #[v] w fun e w' => ∃ v', e = .returned v' ∧ OwnI w' w.heap.size v' l ∧ Below w.heap.size w w' := by
  obtain ⟨a, c, rfl, ⟨hlc, hm, hnn⟩, hcase⟩ := h
  cases a with
  | none =>
    have hc := hnn rfl
    have : l = [] := List.length_eq_zero_iff.1 (by omega)
    subst this
    refine (Try.slices_Clone_int_nil _ c w).mono ?_
    rintro e w' ⟨rfl, rfl⟩
    exact ⟨_, rfl, OwnK.nil _ _ _ _, Below.refl _ _⟩
  | some ad =>
    rcases hcase with rfl | ⟨b, off, hab, hbs, hcell⟩
    · refine (Try.slices_Clone_int_zero ad c w).mono ?_
      rintro e w' ⟨v', rfl, h1, _, h2⟩
      exact ⟨_, rfl, h1, h2⟩
    · simp only [Option.some.injEq] at hab
      subst hab
      refine (Try.slices_Clone_int b off l.length c l w (Nat.le_refl _) hl hcell).mono ?_
      rintro e w' ⟨v', rfl, h1, _, h2⟩
      rw [List.take_length] at h1
      exact ⟨_, rfl, h1, h2⟩
namespace Q
/-- Each number where it stands first. -/
def uq (l : List Int) : List Int := l.foldl (fun acc x => if acc.contains x then acc else acc ++ [x]) []
theorem uq_snoc (l : List Int) (x : Int) : uq (l ++ [x]) = if (uq l).contains x then uq l else uq l ++ [x] := by unfold uq; rw [List.foldl_append]; rfl
theorem rev_ind {P : List Int → Prop} (h0 : P []) (h1 : ∀ l x, P l → P (l ++ [x])) (l : List Int) : P l := by
  rw [← List.reverse_reverse l]
  induction l.reverse with
  | nil => exact h0
  | cons x l ih => rw [List.reverse_cons]; exact h1 _ _ ih
theorem uq_both (l : List Int) : (uq l).Pairwise (· ≠ ·) ∧ (∀ x, x ∈ uq l ↔ x ∈ l) ∧ (uq l).length ≤ l.length := by
  refine rev_ind (P := fun l => (uq l).Pairwise (· ≠ ·) ∧ (∀ x, x ∈ uq l ↔ x ∈ l) ∧ (uq l).length ≤ l.length) ⟨List.Pairwise.nil, fun x => Iff.rfl, Nat.le_refl _⟩ ?_ l
  rintro l x ⟨h1, h2, h3⟩
  rw [uq_snoc]
  by_cases hc : (uq l).contains x = true
  · rw [if_pos hc]
    have hx : x ∈ l := (h2 x).1 (by simpa using hc)
    refine ⟨h1, fun y => ?_, by simp; omega⟩
    rw [h2 y, List.mem_append]
    exact ⟨.inl, fun h => h.elim id (fun h => by simp at h; subst h; exact hx)⟩
  · rw [if_neg hc]
    have hx : x ∉ uq l := by simpa using hc
    refine ⟨List.pairwise_append.2 ⟨h1, by simp, fun a ha b hb => ?_⟩, fun y => ?_, by simp; omega⟩
    · simp at hb; subst hb; exact fun h => hx (h ▸ ha)
    · rw [List.mem_append, List.mem_append, h2 y]
theorem srt_asc (l : List Int) (h : l.Pairwise (· ≠ ·)) : Asc (l.mergeSort fun x y => decide (x ≤ y)) := by
  have h1 := srt_pair l
  have h2 : (l.mergeSort fun x y => decide (x ≤ y)).Pairwise (· ≠ ·) := (List.mergeSort_perm l _).symm.pairwise h (fun h => fun e => h e.symm)
  exact (h1.and h2).imp (fun h => by omega)
theorem srt_or (a b : List Int) : ((uq (a ++ b)).mergeSort fun x y => decide (x ≤ y)) = orL a b :=
  asc_ext (srt_asc _ (uq_both _).1) (orL_asc a b) (fun x => by rw [List.mem_mergeSort, (uq_both _).2.1, mem_orL, List.mem_append])
def inB (a b : List Int) (x : Int) : Bool := a.contains x && b.contains x
theorem srt_and (a b : List Int) : (((uq (a ++ b)).filter (inB a b)).mergeSort fun x y => decide (x ≤ y)) = andL a b :=
  asc_ext (srt_asc _ ((uq_both _).1.filter _)) (andL_asc a b) (fun x => by
    rw [List.mem_mergeSort, List.mem_filter, (uq_both _).2.1, mem_andL, List.mem_append]
    simp only [inB, Bool.and_eq_true, List.contains_eq_mem, decide_eq_true_eq]
    exact ⟨fun h => h.2, fun h => ⟨.inl h.1, h⟩⟩)
theorem take_snoc (l : List Int) (k : Nat) (h : k < l.length) : l.take (k + 1) = l.take k ++ [l.getD k 0] := by rw [List.take_add_one, List.getElem?_eq_getElem h]; simp [List.getD_eq_getElem?_getD, List.getElem?_eq_getElem h]
end Q
end Go.Proofs.Ytlghnnmgbdjgoaa
