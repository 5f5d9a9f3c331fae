/- Laws of my own for rows of samples: a place that is written, and how samples are put behind a row without room. -/
import Derived.Test.YtfjbdgkdkbcnhaaOneS
import Derived.Test.YtfjbdgkdkbcnhaaMergeP
import Derived.ArgAppend
namespace Go.Proofs.Ytfjbdgkdkbcnhaa
open Go.RowKit
set_option linter.unusedVariables false
theorem smp_set (l : List (Int × Int)) : ∀ (i : Nat), i < l.length → ∀ (x : Int), (smp l).set (i * 2 + 1) (.int .i64 x) = smp (l.set i ((l.getD i (0, 0)).1, x)) := by
  induction l with
  | nil => intro i hi; simp at hi
  | cons s l ih =>
    intro i hi x
    cases i with
    | zero => simp [smp]
    | succ i =>
      have := ih i (by simpa using hi) x
      rw [show (i + 1) * 2 + 1 = i * 2 + 1 + 1 + 1 by omega]
      simpa [smp] using this
/-- A measure of a row of the call's own is written. -/
theorem OwnS.set {w : World} {base g n cap i : Nat} {l : List (Int × Int)} (h : OwnS w base (.slice (some ⟨g, 0, none⟩) n cap) l) (hi : i < l.length) (x : Int) :
    OwnS (w.setCell ⟨g, i * 2 + 1, none⟩ (.int .i64 x)) base (.slice (some ⟨g, 0, none⟩) n cap) (l.set i ((l.getD i (0, 0)).1, x)) := by
  obtain ⟨h1, h2⟩ := h
  rcases h2 with ⟨hv, _⟩ | ⟨g', cap', cur, hv, hb, hg, hn, hm, hs, ht⟩
  · cases hv
  · simp only [Value.slice.injEq, Option.some.injEq, Addr.mk.injEq, and_true] at hv
    obtain ⟨hgg, rfl, rfl⟩ := hv
    subst hgg
    refine ⟨by rw [smp_length], .inr ⟨g, cap, cur.setIfInBounds (i * 2 + 1) (.int .i64 x), by simp, hb, heap_setCell_same w g _ _ _ _ hg, by simpa using hn, hm, by simpa using hs, ?_⟩⟩
    rw [Array.toList_setIfInBounds, List.length_set, List.take_set, ht, smp_set l i hi x]
theorem OwnS.unfrozen {w : World} {base g n cap : Nat} {l : List (Int × Int)} (h : OwnS w base (.slice (some ⟨g, 0, none⟩) n cap) l) (j : Nat) : w.frozen? ⟨g, j, none⟩ = false := by
  obtain ⟨h1, h2⟩ := h
  rcases h2 with ⟨hv, _⟩ | ⟨g', cap', cur, hv, hb, hg, _⟩
  · cases hv
  · simp only [Value.slice.injEq, Option.some.injEq, Addr.mk.injEq, and_true] at hv
    obtain ⟨rfl, _, _⟩ := hv
    simp [World.frozen?, hg]
/-- 'append(b, x...)' where b has no room: what the operation does. -/
theorem op_dstS {o : Oper} {a : Act} {K : Act → World → Prop} {Q : Exit → Act → World → Prop} (s x : Operand)
    (ho : o.op = .call { callee := .builtin .append, args := #[s, x], argTypes := #[22, 22] })
    (w : World) (ad : Option Addr) (n : Nat) (vx : Value) (old l : List (Int × Int)) (hold : RowS w (.slice ad n n) old) (hrow : RowS w vx l) (hl : l ≠ []) (hs : a.eval s = .slice ad n n)
    (hx : a.eval x = vx) (hlen : (old.length + l.length) * 16 ≤ 140737488355328)
    (h : ∀ v' w', OwnS w' w.heap.size v' (old ++ l) → Below w.heap.size w w' → K (a.put o.dst v') w') :
    Oper.wp Try.prog o a w K Q := by
  obtain ⟨ad', cap, hv, ⟨h1, h2, h3⟩, hcase⟩ := id hold
  simp only [Value.slice.injEq] at hv
  obtain ⟨rfl, rfl, rfl⟩ := hv
  cases ad with
  | none =>
    have h0 : old.length = 0 := h3 rfl
    have e : old = [] := List.length_eq_zero_iff.1 h0
    subst e
    exact op_appS s x ho w.heap.size w.heap.size w w (.slice none 0 0) vx [] l (OwnS.nil _ _) hrow (Below.refl _ _) (Nat.le_refl _) hs hx hlen (Nat.le_refl _) fun v' w' a1 a2 _ _ => h v' w' a1 a2
  | some b =>
    obtain ⟨i0, hi, hz0, hz1, hz2⟩ := info_parts Try.info37
    have cells : ∀ (v : Value) (m : List (Int × Int)) (ad : Addr) (c : Nat), RowS w v m → v = .slice (some ad) m.length c → ∀ j u, (smp m)[j]? = some u → w.cell? (ad.add j) = some u := by
      intro v m ad c hr hv j u hj
      obtain ⟨a', c', hv', _, hc⟩ := hr
      rw [hv] at hv'
      simp only [Value.slice.injEq] at hv'
      obtain ⟨rfl, _, rfl⟩ := hv'
      rcases hc with h0 | ⟨b', off, he, _, hcell⟩
      · rw [h0] at hj; simp [smp] at hj
      · simp only [Option.some.injEq] at he
        subst he
        have ea : (Addr.add ⟨b', off, none⟩ j) = ⟨b', off + j, none⟩ := by
          unfold Addr.add; split
          · rename_i h; subst h; rfl
          · rfl
        have hjl : j < m.length * 2 := by
          rcases Nat.lt_or_ge j (smp m).length with h | h
          · rwa [smp_length] at h
          · rw [List.getElem?_eq_none h] at hj; cases hj
        rw [ea]
        obtain ⟨g0, g1⟩ := hcell (j / 2) (by omega)
        rcases Nat.mod_two_eq_zero_or_one j with e | e
        · have e2 : j = j / 2 * 2 := by omega
          rw [e2, smp_at0 m _ (by omega)] at hj
          rw [e2, g0]; exact hj
        · have e2 : j = j / 2 * 2 + 1 := by omega
          rw [e2, smp_at1 m _ (by omega)] at hj
          rw [e2, ← Nat.add_assoc, g1]; exact hj
    obtain ⟨ax, cx, hvx, ⟨hx1, hx2, hx3⟩, hxc⟩ := id hrow
    have hlp : 0 < l.length := List.length_pos_iff.2 hl
    cases ax with
    | none => have := hx3 rfl; omega
    | some ax =>
      obtain ⟨v', w', hr, ow, hg⟩ := run_append_arg_grows (P := Try.prog) w 22 o.type 37 i0 (.agg #[.int .i64 0, .int .i64 0]) 2 16 Try.underlying22 hi hz0 hz1 hz2 rfl (by decide)
        b old.length old.length (smp old) (smp_length old) (cells _ old b old.length hold rfl) ax l.length cx (smp l) (smp_length l) (cells _ l ax cx hrow hvx) (by omega) (by unfold maxLen; omega) hlen
      unfold Oper.wp execOp
      simp only [ho, resolve, invoke, builtin, Sem.run_bind, Sem.run_pure, Result.andThen_ok, List.map_toArray, List.map_cons, List.map_nil, hs, hx, hvx, hr]
      refine h v' w' ?_ ⟨hg.os, hg.tape, hg.output, hg.size, fun k hk => hg.block k hk (by simp)⟩
      have e1 : (old ++ l).length = old.length + l.length := by simp
      show w'.ownsRow w.heap.size 37 2 v' (old ++ l).length (smp (old ++ l))
      rw [e1, smp_append]; exact ow
theorem step_dstS {ops : Array Oper} {o : Oper} {a : Act} {K : Act → World → Prop} {Q : Exit → Act → World → Prop} {E : Prop} (hgd : o.guard = none) (s x : Operand)
    (ho : o.op = .call { callee := .builtin .append, args := #[s, x], argTypes := #[22, 22] })
    (w : World) (ad : Option Addr) (n : Nat) (vx : Value) (old l : List (Int × Int)) (hold : RowS w (.slice ad n n) old) (hrow : RowS w vx l) (hl : l ≠ []) (hs : a.eval s = .slice ad n n)
    (hx : a.eval x = vx) (hlen : (old.length + l.length) * 16 ≤ 140737488355328)
    (h : ∀ v' w', OwnS w' w.heap.size v' (old ++ l) → Below w.heap.size w w' → K (a.put o.dst v') w') :
    if Region.wanted o (yielded ops a.tmps) = true then Oper.wp Try.prog o a w K Q else E := by
  have hw : Region.wanted o (yielded ops a.tmps) = true := by simp [Region.wanted, hgd]
  rw [if_pos hw]
  exact op_dstS s x ho w ad n vx old l hold hrow hl hs hx hlen h
/-- The beginning of a row, with room for no more. -/
theorem RowS.pre {w : World} {bl off len cap : Nat} {l : List (Int × Int)} (h : RowS w (.slice (some ⟨bl, off, none⟩) len cap) l) (n : Nat) (hn : n ≤ l.length) : RowS w (.slice (some ⟨bl, off, none⟩) n n) (l.take n) := by
  obtain ⟨a, c, hv, ⟨h1, h2, h3⟩, hcase⟩ := h
  simp only [Value.slice.injEq] at hv
  obtain ⟨rfl, rfl, rfl⟩ := hv
  have hl : (l.take n).length = n := by simp; omega
  refine ⟨_, n, by rw [hl], ⟨by omega, by omega, fun h => by cases h⟩, ?_⟩
  rcases hcase with h | ⟨b', off', he, hlt, hc⟩
  · left; rw [h]; simp
  · simp at he
    obtain ⟨rfl, rfl⟩ := he
    refine .inr ⟨bl, off, rfl, hlt, fun j hj => ?_⟩
    rw [hl] at hj
    have e : (l.take n).getD j (0, 0) = l.getD j (0, 0) := by simp [List.getD_eq_getElem?_getD, hj]
    rw [e]; exact hc j (by omega)
theorem RowS.empty' (w : World) (a : Option Addr) (c : Nat) (hc : c ≤ 2 ^ 63 - 1) (hn : a = none → c = 0) : RowS w (.slice a 0 c) [] := ⟨a, c, rfl, ⟨by simp, hc, hn⟩, .inl rfl⟩
/-- One sample in a new row of the call's own. -/
theorem own_oneS (w : World) (base : Nat) (y : Int × Int) (hb : base ≤ w.heap.size) : OwnS (w.alloc (.cells #[.int .i64 y.1, .int .i64 y.2] 37)) base (.slice (some ⟨w.heap.size, 0, none⟩) 1 1) [y] :=
  ⟨rfl, .inr ⟨w.heap.size, 1, #[.int .i64 y.1, .int .i64 y.2], rfl, hb, heap_alloc_new w _, by simp, by decide, rfl, rfl⟩⟩
end Go.Proofs.Ytfjbdgkdkbcnhaa
