/- Several texts in one. -/
import Derived.Test.YtpinhcbkfjoopaaKitAll
/- Words and laws of my own for rows of integers of whatever kind that the call itself owns: how they stay, how one is put behind them. -/
namespace Go.Proofs.Ytpinhcbkfjoopaa
open Go.RowKit
set_option linter.unusedVariables false

/-- Integers that the call itself made: t the element's type, k its kind. -/
abbrev OwnK (t : TypeId) (k : IntKind) (w : World) (base : Nat) (v : Value) (l : List Int) : Prop := w.ownsRow base t 1 v l.length (l.map (Value.int k))
theorem OwnK.row {t : TypeId} {k : IntKind} {w : World} {base : Nat} {v : Value} {l : List Int} (h : OwnK t k w base v l) : RowK k w v l := by
  obtain ⟨h1, h2⟩ := h
  rcases h2 with ⟨rfl, h0⟩ | ⟨g, cap, cur, rfl, hb, hg, hn, hm, hs, ht⟩
  · have : l = [] := List.length_eq_zero_iff.1 h0
    subst this
    exact ⟨none, 0, rfl, ⟨by simp, by simp, fun _ => rfl⟩, .inl rfl⟩
  · refine ⟨_, cap, rfl, ⟨hn, hm, fun h => by cases h⟩, ?_⟩
    rcases l with _ | ⟨x, l⟩
    · exact .inl rfl
    · refine .inr ⟨g, 0, rfl, (Array.getElem?_eq_some_iff.1 hg).1, fun j hj => ?_⟩
      have hj' : j < cur.size := by omega
      have e : cur[j]? = some (.int k ((x :: l).getD j 0)) := by
        have h3 : (cur.toList.take ((x :: l).length * 1))[j]? = ((x :: l).map (Value.int k))[j]? := by rw [ht]
        rw [List.getElem?_take, if_pos (by omega), List.getElem?_map] at h3
        rw [← Array.getElem?_toList, h3]
        simp [List.getElem?_eq_getElem hj, List.getD_eq_getElem?_getD]
      simp [World.cell?, hg, e]
theorem OwnK.shape {t : TypeId} {k : IntKind} {w : World} {base : Nat} {v : Value} {l : List Int} (h : OwnK t k w base v l) : ∃ a cap, v = .slice a l.length cap := by
  obtain ⟨a, cap, hv, _⟩ := h.row; exact ⟨a, cap, hv⟩
/-- The length of a value that owns bytes. -/
theorem OwnB.shp {w : World} {base : Nat} {v : Value} {l : List Int} (h : OwnB w base v l) : ∃ a cap, v = .slice a l.length cap := OwnK.shape (t := 5) (k := .u8) h
theorem OwnK.base {t : TypeId} {k : IntKind} {w : World} {b b' : Nat} {v : Value} {l : List Int} (h : OwnK t k w b v l) (hb : b' ≤ b) : OwnK t k w b' v l := by
  obtain ⟨h1, h2⟩ := h
  refine ⟨h1, ?_⟩
  rcases h2 with h2 | ⟨g, cap, cur, rfl, hg, r⟩
  · exact .inl h2
  · exact .inr ⟨g, cap, cur, rfl, Nat.le_trans hb hg, r⟩
theorem OwnK.below {t : TypeId} {k : IntKind} {w w' : World} {base B : Nat} {v : Value} {l : List Int} (h : OwnK t k w base v l) (hb : Below B w w') (hB : w.heap.size ≤ B) : OwnK t k w' base v l := by
  obtain ⟨h1, h2⟩ := h
  refine ⟨h1, ?_⟩
  rcases h2 with h2 | ⟨g, cap, cur, rfl, hg, hh, r⟩
  · exact .inl h2
  · exact .inr ⟨g, cap, cur, rfl, hg, by rw [hb.block g (Nat.lt_of_lt_of_le (Array.getElem?_eq_some_iff.1 hh).1 hB)]; exact hh, r⟩
theorem OwnK.nil (t : TypeId) (k : IntKind) (w : World) (base : Nat) : OwnK t k w base (.slice none 0 0) [] := World.ownsRow_nil _ _ _ _

/-- 'append(b, x)' of one integer to a row of the call's own. -/
theorem wp_app1K {ops : Array Oper} {rest : List Oper} {o : Oper} {a : Act} {Q : Exit → Act → World → Prop} (hgd : o.guard = none) (s x : Operand) (st t : TypeId) (k : IntKind) (by8 : Nat)
    (ho : o.op = .call { callee := .builtin .append, args := #[s, x], argTypes := #[st, st] })
    (hu : Try.prog.underlying st = some (.slice t)) (hin : (Try.prog.info? t).map (fun i => (i.zero, i.size, i.bytes)) = some (some (.int k 0), 1, by8)) (hby : 1 ≤ by8 ∧ by8 ≤ 8)
    (B base : Nat) (w0 w : World) (v : Value) (acc : List Int) (y : Int) (hown : OwnK t k w base v acc) (hb : Below B w0 w) (hB : B ≤ base) (hs : a.eval s = v)
    (hx : a.eval x = .slice (some ⟨w.heap.size, 0, none⟩) 1 1) (hlen : (acc.length + 1) * by8 ≤ 140737488355328) (hbase : base ≤ w.heap.size)
    (h : ∀ v' w', OwnK t k w' base v' (acc ++ [y]) → Below B w0 w' → w.heap.size < w'.heap.size → w.grownBy w' v.ownBlock → wpList Try.prog ops Q rest (a.put o.dst v') w') :
    wpList Try.prog ops Q (o :: rest) a (w.alloc (.cells #[.int k y] t)) := by
  obtain ⟨i0, hi, hz0, hz1, hz2⟩ := info_parts hin
  refine wpList_append_own _ hgd s x st ho base t i0 (.int k 0) 1 by8 hu hi hz0 hz1 hz2 rfl (by omega) v _ _ hs (hown.alloc _) ⟨w.heap.size, 0, none⟩ 1 1 [.int k y] hx rfl ?_ ?_ ?_ ?_ ?_ ?_
  · intro j u hj
    match j, hj with
    | 0, hj => simp at hj; subst hj; simp [Addr.add]
  · intro u hu; simp at hu; subst hu; rfl
  · unfold maxLen
    have : acc.length + 1 ≤ (acc.length + 1) * by8 := Nat.le_mul_of_pos_right _ hby.1
    omega
  · omega
  · simp; omega
  · intro v' w' ho' hg _
    refine h v' w' ?_ ((hb.alloc (by omega) _).grown hg (by simp; omega) ?_) ?_ ((World.grownBy_alloc w _ _).trans hg)
    · have e1 : (acc ++ [y]).length = acc.length + 1 := by simp
      have e2 : (acc ++ [y]).map (Value.int k) = acc.map (Value.int k) ++ [.int k y] := by simp
      show w'.ownsRow base t 1 v' (acc ++ [y]).length ((acc ++ [y]).map (Value.int k))
      rw [e1, e2]; exact ho'
    · intro j hj; have := (hown.lt j hj).1; omega
    · have := hg.size; simp at this; omega
end Go.Proofs.Ytpinhcbkfjoopaa
