/- Several texts in one. -/
import Derived.Test.YtpinhcbkfjoopaaKitKAll
import Derived.Deep.SlicePairs
import Derived.Lib.SmallJoins
import Derived.ChangeMaps5
import Derived.ArgAppend
import Derived.Deep.QuietTactic
import Derived.BigQuiet
import Derived.Deep.RegionHeld3
import Derived.Deep.DeepCutAuto
import Derived.Deep.OwnRows
import Derived.Deep.RegionLaw
/- Words and laws of my own for rows of structs of whatever cells: rows that are read, rows that the call owns, how one is put behind them, how one is written in place. -/
namespace Go.Proofs.Ytpinhcbkfjoopaa
open Go.ChangeShapes Go.WideShapes Go.ChangeAt Go.RowKit Go.Joins
set_option linter.unusedVariables false
theorem below_dnX {B : Nat} {a w : World} (h : Below B a w) (n : Nat) : Below B a (w.drewN n) := ⟨h.os, h.tape, h.output, h.size, h.block⟩
/-- A row of structs that can be read: e lays one out in k cells. -/
def RowX {α : Type} (e : α → List Value) (k : Nat) (w : World) (v : Value) (l : List α) : Prop :=
  ∃ a cap, v = .slice a l.length cap ∧ (l.length ≤ cap ∧ cap ≤ maxLen ∧ (a = none → cap = 0)) ∧ (l = [] ∨ ∃ b off, a = some ⟨b, off, none⟩ ∧ b < w.heap.size ∧ ∀ j x, l[j]? = some x → ∀ i u, (e x)[i]? = some u → w.cell? ⟨b, off + j * k + i, none⟩ = some u)
theorem RowX.below {α : Type} {e : α → List Value} {k : Nat} {w w' : World} {B : Nat} {v : Value} {l : List α} (h : RowX e k w v l) (hb : Below B w w') (hB : w.heap.size ≤ B) : RowX e k w' v l := by
  obtain ⟨a, cap, rfl, hl, h⟩ := h
  refine ⟨a, cap, rfl, hl, ?_⟩
  rcases h with h | ⟨b, off, rfl, hlt, hc⟩
  · exact .inl h
  · exact .inr ⟨b, off, rfl, Nat.lt_of_lt_of_le hlt hb.size, fun j x hx i u hu => (hb.cell (p := ⟨b, off + j * k + i, none⟩) (Nat.lt_of_lt_of_le hlt hB)).trans (hc j x hx i u hu)⟩
theorem RowX.nil {α : Type} (e : α → List Value) (k : Nat) (w : World) : RowX e k w (.slice none 0 0) [] := ⟨none, 0, rfl, ⟨by simp, by simp, fun _ => rfl⟩, .inl rfl⟩
/-- One struct in a new block. -/
theorem RowX.one {α : Type} (e : α → List Value) (k : Nat) (w : World) (x : α) (t : TypeId) : RowX e k (w.alloc (.cells (e x).toArray t)) (.slice (some ⟨w.heap.size, 0, none⟩) 1 1) [x] := by
  refine ⟨_, 1, rfl, ⟨by simp, by decide, fun h => by cases h⟩, .inr ⟨w.heap.size, 0, rfl, by simp, fun j y hy i u hu => ?_⟩⟩
  match j, hy with
  | 0, hy =>
    simp at hy; subst hy
    simp [hu]
/-- The cells of a row. -/
theorem flat_at {α : Type} {e : α → List Value} {k : Nat} (he : ∀ x, (e x).length = k) (l : List α) (j i : Nat) (x : α) (u : Value) (hx : l[j]? = some x) (hu : (e x)[i]? = some u) : (l.flatMap e)[j * k + i]? = some u := by
  induction l generalizing j with
  | nil => simp at hx
  | cons y l ih =>
    have hi : i < (e x).length := by
      rcases Nat.lt_or_ge i (e x).length with h | h
      · exact h
      · rw [List.getElem?_eq_none h] at hu; cases hu
    cases j with
    | zero =>
      simp at hx; subst hx
      rw [List.flatMap_cons, Nat.zero_mul, Nat.zero_add, List.getElem?_append_left hi]; exact hu
    | succ j =>
      rw [List.flatMap_cons, show (j + 1) * k + i = k + (j * k + i) by rw [Nat.succ_mul]; omega, List.getElem?_append_right (by rw [he]; omega), he]
      rw [show k + (j * k + i) - k = j * k + i by omega]
      exact ih j (by simpa using hx)
theorem flat_len {α : Type} {e : α → List Value} {k : Nat} (he : ∀ x, (e x).length = k) (l : List α) : (l.flatMap e).length = l.length * k := by
  induction l with
  | nil => simp
  | cons y l ih => rw [List.flatMap_cons, List.length_append, he, ih, List.length_cons, Nat.succ_mul]; omega
theorem flat_of {α : Type} {e : α → List Value} {k : Nat} (he : ∀ x, (e x).length = k) (hk : 0 < k) (l : List α) (n : Nat) (u : Value) (h : (l.flatMap e)[n]? = some u) : ∃ x, l[n / k]? = some x ∧ (e x)[n % k]? = some u := by
  have hn : n < l.length * k := by
    rcases Nat.lt_or_ge n (l.flatMap e).length with h' | h'
    · rwa [flat_len he] at h'
    · rw [List.getElem?_eq_none h'] at h; cases h
  have hj : n / k < l.length := by rw [Nat.div_lt_iff_lt_mul hk]; exact hn
  have hi : n % k < k := Nat.mod_lt _ hk
  refine ⟨l[n / k], List.getElem?_eq_getElem hj, ?_⟩
  have h2 := flat_at he l (n / k) (n % k) _ ((e l[n / k])[n % k]'(by rw [he]; exact hi)) (List.getElem?_eq_getElem hj) (List.getElem?_eq_getElem _)
  rw [Nat.mul_comm, Nat.div_add_mod] at h2
  rw [h2] at h
  rw [List.getElem?_eq_getElem (by rw [he]; exact hi)]
  exact h

/-- Rows that the call itself made. -/
def OwnX {α : Type} (e : α → List Value) (k : Nat) (t : TypeId) (w : World) (base : Nat) (v : Value) (l : List α) : Prop := w.ownsRow base t k v l.length (l.flatMap e)
theorem OwnX.row {α : Type} {e : α → List Value} {k : Nat} {t : TypeId} (he : ∀ x, (e x).length = k) {w : World} {base : Nat} {v : Value} {l : List α} (h : OwnX e k t w base v l) : RowX e k w v l := by
  obtain ⟨h1, h2⟩ := h
  rcases h2 with ⟨rfl, h0⟩ | ⟨g, cap, cur, rfl, hb, hg, hn, hm, hs, ht⟩
  · have : l = [] := List.length_eq_zero_iff.1 h0
    subst this
    exact RowX.nil e k w
  · refine ⟨_, cap, rfl, ⟨hn, hm, fun h => by cases h⟩, .inr ⟨g, 0, rfl, (Array.getElem?_eq_some_iff.1 hg).1, fun j x hx i u hu => ?_⟩⟩
    have hf := flat_at he l j i x u hx hu
    have hlt : j * k + i < l.length * k := by
      rcases Nat.lt_or_ge (j * k + i) (l.flatMap e).length with h | h
      · rwa [flat_len he] at h
      · rw [List.getElem?_eq_none h] at hf; cases hf
    have h3 : (cur.toList.take (l.length * k))[j * k + i]? = (l.flatMap e)[j * k + i]? := by rw [ht]
    rw [List.getElem?_take, if_pos hlt, hf] at h3
    have h4 : cur[j * k + i]? = some u := by rw [← Array.getElem?_toList, h3]
    simp [World.cell?, hg, h4]
theorem OwnX.below {α : Type} {e : α → List Value} {k : Nat} {t : TypeId} {w w' : World} {base B : Nat} {v : Value} {l : List α} (h : OwnX e k t w base v l) (hb : Below B w w') (hB : w.heap.size ≤ B) : OwnX e k t w' base v l := by
  obtain ⟨h1, h2⟩ := h
  refine ⟨h1, ?_⟩
  rcases h2 with h2 | ⟨g, cap, cur, rfl, hg, hh, r⟩
  · exact .inl h2
  · exact .inr ⟨g, cap, cur, rfl, hg, by rw [hb.block g (Nat.lt_of_lt_of_le (Array.getElem?_eq_some_iff.1 hh).1 hB)]; exact hh, r⟩
theorem OwnX.base {α : Type} {e : α → List Value} {k : Nat} {t : TypeId} {w : World} {b b' : Nat} {v : Value} {l : List α} (h : OwnX e k t w b v l) (hb : b' ≤ b) : OwnX e k t w b' v l := by
  obtain ⟨h1, h2⟩ := h
  refine ⟨h1, ?_⟩
  rcases h2 with h2 | ⟨g, cap, cur, rfl, hg, r⟩
  · exact .inl h2
  · exact .inr ⟨g, cap, cur, rfl, Nat.le_trans hb hg, r⟩
theorem OwnX.nil {α : Type} (e : α → List Value) (k : Nat) (t : TypeId) (w : World) (base : Nat) : OwnX e k t w base (.slice none 0 0) [] := World.ownsRow_nil _ _ _ _
/-- 'append(b, x...)' of a row that can be read to a row of the call's own: what the operation does. -/
theorem op_appX {α : Type} {e : α → List Value} {k bt : Nat} {tS tE : TypeId} {z : Value} (he : ∀ x, (e x).length = k) (hone : ∀ x, ∀ u ∈ e x, u.oneCell' = true) (hk : 0 < k) (hbt : 0 < bt) (hzk : z.cells.size = k)
    (hu : Try.prog.underlying tS = some (.slice tE)) (hinf : (Try.prog.info? tE).map (fun i => (i.zero, i.size, i.bytes)) = some (some z, k, bt))
    {o : Oper} {a : Act} {K : Act → World → Prop} {Q : Exit → Act → World → Prop} (s x : Operand)
    (ho : o.op = .call { callee := .builtin .append, args := #[s, x], argTypes := #[tS, tS] })
    (B base : Nat) (w0 w : World) (v vx : Value) (acc l : List α) (hown : OwnX e k tE w base v acc) (hrow : RowX e k w vx l) (hb : Below B w0 w) (hB : B ≤ base) (hs : a.eval s = v)
    (hx : a.eval x = vx) (hlen : (acc.length + l.length) * bt ≤ 140737488355328) (hbase : base ≤ w.heap.size)
    (h : ∀ v' w', OwnX e k tE w' base v' (acc ++ l) → Below B w0 w' → w.heap.size ≤ w'.heap.size → w.grownBy w' v.ownBlock → K (a.put o.dst v') w') :
    Oper.wp Try.prog o a w K Q := by
  obtain ⟨i0, hi, hz0, hz1, hz2⟩ := info_parts hinf
  obtain ⟨ao, cap, rfl, ⟨hlc, hcm, hnn⟩, hcase⟩ := hrow
  have hle : acc.length + l.length ≤ (acc.length + l.length) * bt := Nat.le_mul_of_pos_right _ hbt
  have go : ∀ ad : Addr, ao = some ad → (∀ j u, (l.flatMap e)[j]? = some u → w.cell? (ad.add j) = some u) → Oper.wp Try.prog o a w K Q := by
    intro ad hao hc
    subst hao
    refine wp_append_own _ s x tS ho base tE i0 z k bt hu hi hz0 hz1 hz2 hzk hk v _ _ hs hown ad l.length cap (l.flatMap e) hx (flat_len he l) hc (fun u hu => by obtain ⟨y, _, hy⟩ := List.mem_flatMap.1 hu; exact hone y u hy) ?_ ?_ hbase ?_
    · unfold maxLen; omega
    · exact hlen
    · intro v' w' ho' hg _
      refine h v' w' ?_ (hb.grown hg (by omega) ?_) hg.size hg
      · have e1 : (acc ++ l).length = acc.length + l.length := by simp
        show w'.ownsRow base tE k v' (acc ++ l).length ((acc ++ l).flatMap e)
        rw [e1, List.flatMap_append]; exact ho'
      · intro j hj; have := (World.ownsRow.lt hown j hj).1; omega
  rcases hcase with h0 | ⟨b, off, rfl, hbs, hcell⟩
  · subst h0
    cases ao with
    | none =>
      have hcap := hnn rfl
      subst hcap
      have hrun := run_append_owned_none (P := Try.prog) (w := w) base tS o.type tE i0 k hu hi v _ _ hown
      have hx' : a.eval x = .slice none 0 0 := hx
      unfold Oper.wp
      simp [execOp, ho, resolve, invoke, builtin, hs, hx', hrun, Result.andThen]
      exact h v w (by rw [List.append_nil]; exact hown) hb (Nat.le_refl _) ⟨rfl, rfl, rfl, Nat.le_refl _, fun _ _ _ => rfl⟩
    | some ad => exact go ad rfl (fun j u hj => by simp at hj)
  · refine go _ rfl (fun j u hj => ?_)
    have ea : (Addr.add ⟨b, off, none⟩ j) = ⟨b, off + j, none⟩ := by
      unfold Addr.add; split
      · rename_i h; subst h; rfl
      · rfl
    obtain ⟨y, hy, hu⟩ := flat_of he hk l j u hj
    rw [ea]
    have := hcell (j / k) y hy (j % k) u hu
    rw [Nat.add_assoc, Nat.mul_comm, Nat.div_add_mod] at this
    exact this
/-- 'append(b, x)' of one struct that lies in a new block, where the walk stands at it. -/
theorem wp_oneX {α : Type} {e : α → List Value} {k bt : Nat} {tS tE : TypeId} {z : Value} (he : ∀ x, (e x).length = k) (hone : ∀ x, ∀ u ∈ e x, u.oneCell' = true) (hk : 0 < k) (hbt : 0 < bt) (hzk : z.cells.size = k)
    (hu : Try.prog.underlying tS = some (.slice tE)) (hinf : (Try.prog.info? tE).map (fun i => (i.zero, i.size, i.bytes)) = some (some z, k, bt))
    {ops : Array Oper} {rest : List Oper} {o : Oper} {a : Act} {Q : Exit → Act → World → Prop} (hgd : o.guard = none) (s x : Operand)
    (ho : o.op = .call { callee := .builtin .append, args := #[s, x], argTypes := #[tS, tS] })
    (B base : Nat) (w0 w : World) (v : Value) (acc : List α) (y : α) (c : Array Value) (hc : c = (e y).toArray) (hown : OwnX e k tE w base v acc) (hb : Below B w0 w) (hB : B ≤ base) (hs : a.eval s = v)
    (hx : a.eval x = .slice (some ⟨w.heap.size, 0, none⟩) 1 1) (hlen : (acc.length + 1) * bt ≤ 140737488355328) (hbase : base ≤ w.heap.size) (hBw : B ≤ w.heap.size)
    (h : ∀ v' w', OwnX e k tE w' base v' (acc ++ [y]) → Below B w0 w' → w.heap.size < w'.heap.size → w.grownBy w' v.ownBlock → wpList Try.prog ops Q rest (a.put o.dst v') w') :
    wpList Try.prog ops Q (o :: rest) a (w.alloc (.cells c tE)) := by
  subst hc
  refine wpList_step fun K hK => ?_
  rw [if_pos (by simp [Region.wanted, hgd])]
  refine op_appX he hone hk hbt hzk hu hinf s x ho B base w0 _ v _ acc [y] (hown.below ((Below.refl _ w).alloc (Nat.le_refl _) (.cells (e y).toArray tE)) (Nat.le_refl _)) (RowX.one e k w y tE) (hb.alloc hBw _) hB hs hx (by simpa using hlen)
    (by simp; omega) fun v' w' a1 a2 a3 a4 => ?_
  have a5 : (w.alloc (.cells (e y).toArray tE)).heap.size ≤ w'.heap.size := a3
  simp at a5
  exact hK _ _ (h v' w' a1 a2 (by omega) ((World.grownBy_alloc w _ _).trans a4))

/-- Behind a new block whatever was there is there. -/
theorem RowX.alloc {α : Type} {e : α → List Value} {k : Nat} {w : World} {v : Value} {l : List α} (h : RowX e k w v l) (o : Obj) : RowX e k (w.alloc o) v l := h.below ((Below.refl _ w).alloc (Nat.le_refl _) o) (Nat.le_refl _)
theorem RowX.shp {α : Type} {e : α → List Value} {k : Nat} {w : World} {v : Value} {l : List α} (h : RowX e k w v l) : ∃ a cap, v = .slice a l.length cap := by
  obtain ⟨a, cap, hv, _⟩ := h; exact ⟨a, cap, hv⟩
theorem OwnX.shp {α : Type} {e : α → List Value} {k : Nat} {t : TypeId} (he : ∀ x, (e x).length = k) {w : World} {base : Nat} {v : Value} {l : List α} (h : OwnX e k t w base v l) : ∃ a cap, v = .slice a l.length cap := (h.row he).shp
theorem RowX.dn {α : Type} {e : α → List Value} {k : Nat} {w : World} {v : Value} {l : List α} (h : RowX e k w v l) (q : Nat) : RowX e k (w.drewN q) v l := h.below (below_dnX (Below.refl _ w) q) (Nat.le_refl _)
/-- What is owned stays, when a row that lies below it grows. -/
theorem OwnX.grown {α : Type} {e : α → List Value} {k : Nat} {t : TypeId} {w w' : World} {b : Nat} {v : Value} {l : List α} {row : Option Nat} (h : OwnX e k t w b v l) (hg : w.grownBy w' row) (hr : ∀ k, row = some k → k < b) : OwnX e k t w' b v l := by
  obtain ⟨h1, h2⟩ := h
  refine ⟨h1, ?_⟩
  rcases h2 with h2 | ⟨g, cap, cur, rfl, hg', hh, r⟩
  · exact .inl h2
  · refine .inr ⟨g, cap, cur, rfl, hg', ?_, r⟩
    rw [hg.block g (Array.getElem?_eq_some_iff.1 hh).1 (fun e => by have := hr g e.symm; omega)]
    exact hh
/-- A part of a row: l[b:b+n]. -/
theorem RowX.part {α : Type} {e : α → List Value} {k : Nat} {w : World} {bl off len cap : Nat} {l : List α} (h : RowX e k w (.slice (some ⟨bl, off, none⟩) len cap) l) (b n : Nat) (hb : b + n ≤ l.length) (off' cap' : Nat) (ho : off' = off + b * k) (hc' : cap' = cap - b) :
    RowX e k w (.slice (some ⟨bl, off', none⟩) n cap') ((l.drop b).take n) := by
  obtain ⟨a, c, hv, ⟨h1, h2, h3⟩, hcase⟩ := h
  simp only [Value.slice.injEq] at hv
  obtain ⟨rfl, rfl, rfl⟩ := hv
  subst ho hc'
  have hl : ((l.drop b).take n).length = n := by simp; omega
  refine ⟨_, _, by rw [hl], ⟨by omega, by omega, fun h => by cases h⟩, ?_⟩
  rcases hcase with h | ⟨b', off', he, hlt, hc⟩
  · left; rw [h]; simp
  · simp at he
    obtain ⟨rfl, rfl⟩ := he
    refine .inr ⟨bl, off + b * k, rfl, hlt, fun j x hx i u hu => ?_⟩
    have hj : j < n := by
      rcases Nat.lt_or_ge j n with h | h
      · exact h
      · rw [List.getElem?_eq_none (by rw [hl]; exact h)] at hx; cases hx
    rw [List.getElem?_take, if_pos hj, List.getElem?_drop] at hx
    have := hc (b + j) x hx i u hu
    rw [← this]; congr 2; rw [Nat.add_mul]; omega
/-- The beginning of a row, with room for c. -/
theorem RowX.pre {α : Type} {e : α → List Value} {k : Nat} {w : World} {bl off len cap : Nat} {l : List α} (h : RowX e k w (.slice (some ⟨bl, off, none⟩) len cap) l) (n : Nat) (hn : n ≤ l.length) (c : Nat) (hc : n ≤ c ∧ c ≤ maxLen) : RowX e k w (.slice (some ⟨bl, off, none⟩) n c) (l.take n) := by
  obtain ⟨a, c', hv, ⟨h1, h2, h3⟩, hcase⟩ := h
  simp only [Value.slice.injEq] at hv
  obtain ⟨rfl, rfl, rfl⟩ := hv
  have hl : (l.take n).length = n := by simp; omega
  refine ⟨_, c, by rw [hl], ⟨by omega, hc.2, fun h => by cases h⟩, ?_⟩
  rcases hcase with h | ⟨b', off', he, hlt, hcc⟩
  · left; rw [h]; simp
  · simp at he
    obtain ⟨rfl, rfl⟩ := he
    refine .inr ⟨bl, off, rfl, hlt, fun j x hx i u hu => ?_⟩
    have hj : j < n := by
      rcases Nat.lt_or_ge j n with h | h
      · exact h
      · rw [List.getElem?_eq_none (by rw [hl]; exact h)] at hx; cases hx
    rw [List.getElem?_take, if_pos hj] at hx
    exact hcc j x hx i u hu
theorem RowX.empty' {α : Type} (e : α → List Value) (k : Nat) (w : World) (a : Option Addr) (c : Nat) (hc : c ≤ 2 ^ 63 - 1) (hn : a = none → c = 0) : RowX e k w (.slice a 0 c) [] := ⟨a, c, rfl, ⟨by simp, hc, hn⟩, .inl rfl⟩
/-- One struct in a new row of the call's own. -/
theorem own_oneX {α : Type} (e : α → List Value) (k : Nat) (he : ∀ x, (e x).length = k) (w : World) (base : Nat) (y : α) (t : TypeId) (hb : base ≤ w.heap.size) : OwnX e k t (w.alloc (.cells (e y).toArray t)) base (.slice (some ⟨w.heap.size, 0, none⟩) 1 1) [y] :=
  ⟨by simp [he], .inr ⟨w.heap.size, 1, (e y).toArray, rfl, hb, heap_alloc_new w _, by simp, by decide, by simp [he], by simp [he, List.take_of_length_le]⟩⟩
theorem OwnX.unfrozen {α : Type} {e : α → List Value} {k : Nat} {t : TypeId} {w : World} {base g n cap : Nat} {l : List α} (h : OwnX e k t w base (.slice (some ⟨g, 0, none⟩) n cap) l) (j : Nat) : w.frozen? ⟨g, j, none⟩ = false := by
  obtain ⟨h1, h2⟩ := h
  rcases h2 with ⟨hv, _⟩ | ⟨g', cap', cur, hv, hb, hg, _⟩
  · cases hv
  · simp only [Value.slice.injEq, Option.some.injEq, Addr.mk.injEq, and_true] at hv
    obtain ⟨rfl, _, _⟩ := hv
    simp [World.frozen?, hg]
theorem OwnX.blk {α : Type} {e : α → List Value} {k : Nat} {t : TypeId} {w : World} {base g n cap : Nat} {l : List α} (h : OwnX e k t w base (.slice (some ⟨g, 0, none⟩) n cap) l) : base ≤ g ∧ g < w.heap.size := by
  obtain ⟨h1, h2⟩ := h
  rcases h2 with ⟨hv, _⟩ | ⟨g', cap', cur, hv, hb, hg, _⟩
  · cases hv
  · simp only [Value.slice.injEq, Option.some.injEq, Addr.mk.injEq, and_true] at hv
    obtain ⟨rfl, _, _⟩ := hv
    exact ⟨hb, (Array.getElem?_eq_some_iff.1 hg).1⟩
/-- Cells that are written one behind the other. -/
def setRowC (w : World) (g o : Nat) : List Value → World
  | [] => w
  | v :: r => setRowC (w.setCell ⟨g, o, none⟩ v) g (o + 1) r
def setL (l : List Value) (o : Nat) : List Value → List Value
  | [] => l
  | v :: r => setL (l.set o v) (o + 1) r
theorem setL_length (l : List Value) (o : Nat) (vs : List Value) : (setL l o vs).length = l.length := by
  induction vs generalizing l o with
  | nil => rfl
  | cons v r ih => simp [setL, ih]
theorem setL_take (l : List Value) (o n : Nat) (vs : List Value) : (setL l o vs).take n = setL (l.take n) o vs := by
  induction vs generalizing l o with
  | nil => rfl
  | cons v r ih => simp [setL, ih, List.take_set]
theorem setL_append (p l : List Value) (o : Nat) (vs : List Value) : setL (p ++ l) (p.length + o) vs = p ++ setL l o vs := by
  induction vs generalizing l o with
  | nil => rfl
  | cons v r ih =>
    have e : (p ++ l).set (p.length + o) v = p ++ l.set o v := by rw [List.set_append_right _ _ (by omega), Nat.add_sub_cancel_left]
    simp only [setL]
    rw [e, Nat.add_assoc, ih]
theorem setL_front (l r vs : List Value) (h : l.length = vs.length) : setL (l ++ r) 0 vs = vs ++ r := by
  induction vs generalizing l with
  | nil => simp at h; simp [setL, h]
  | cons v vs ih =>
    cases l with
    | nil => simp at h
    | cons x l =>
      have h2 := setL_append [v] (l ++ r) 0 vs
      simp at h2
      simp only [setL, List.cons_append, List.set_cons_zero, Nat.zero_add]
      rw [h2, ih l (by simpa using h)]
theorem setL_flat {α : Type} {e : α → List Value} {k : Nat} (he : ∀ x, (e x).length = k) (l : List α) (i : Nat) (hi : i < l.length) (x : α) : setL (l.flatMap e) (i * k) (e x) = (l.set i x).flatMap e := by
  induction l generalizing i with
  | nil => simp at hi
  | cons y l ih =>
    cases i with
    | zero => simp only [List.flatMap_cons, Nat.zero_mul, List.set_cons_zero]; exact setL_front _ _ _ (by rw [he, he])
    | succ i =>
      simp only [List.flatMap_cons, List.set_cons_succ]
      rw [← ih i (by simpa using hi), show (i + 1) * k = (e y).length + i * k by rw [he, Nat.succ_mul]; omega]
      exact setL_append _ _ _ _
theorem setRowC_heap {w : World} {g : Nat} {cur : Array Value} {t : TypeId} (vs : List Value) (o : Nat) (hg : w.heap[g]? = some (.cells cur t (0, 0))) : ∃ cur', (setRowC w g o vs).heap[g]? = some (.cells cur' t (0, 0)) ∧ cur'.toList = setL cur.toList o vs := by
  induction vs generalizing w cur o with
  | nil => exact ⟨cur, hg, rfl⟩
  | cons v r ih =>
    obtain ⟨c, h1, h2⟩ := ih (o + 1) (heap_setCell_same w g o _ _ v hg)
    exact ⟨c, h1, by rw [h2, Array.toList_setIfInBounds]; rfl⟩
/-- One struct of a row of the call's own is written. -/
theorem OwnX.set {α : Type} {e : α → List Value} {k : Nat} {t : TypeId} (he : ∀ x, (e x).length = k) {w : World} {base g n cap i : Nat} {l : List α} (h : OwnX e k t w base (.slice (some ⟨g, 0, none⟩) n cap) l) (hi : i < l.length) (x : α) :
    OwnX e k t (setRowC w g (i * k) (e x)) base (.slice (some ⟨g, 0, none⟩) n cap) (l.set i x) := by
  obtain ⟨h1, h2⟩ := h
  rcases h2 with ⟨hv, _⟩ | ⟨g', cap', cur, hv, hb, hg, hn, hm, hs, ht⟩
  · cases hv
  · simp only [Value.slice.injEq, Option.some.injEq, Addr.mk.injEq, and_true] at hv
    obtain ⟨hgg, rfl, rfl⟩ := hv
    subst hgg
    obtain ⟨c, hc1, hc2⟩ := setRowC_heap (e x) (i * k) hg
    refine ⟨by rw [flat_len he], .inr ⟨g, cap, c, by simp, hb, hc1, by simpa using hn, hm, ?_, ?_⟩⟩
    · rw [← Array.length_toList, hc2, setL_length, Array.length_toList]; exact hs
    · rw [hc2, List.length_set, setL_take, ht, setL_flat he l i hi x]
theorem below_setRow {B : Nat} {a w : World} {g o : Nat} (vs : List Value) (h : Below B a w) (hg : B ≤ g) : Below B a (setRowC w g o vs) := by
  induction vs generalizing w o with
  | nil => exact h
  | cons v r ih => exact ih (h.setCell hg _)
theorem size_setRow {w : World} {g o : Nat} (vs : List Value) : (setRowC w g o vs).heap.size = w.heap.size := by
  induction vs generalizing w o with
  | nil => rfl
  | cons v r ih => rw [setRowC, ih]; simp
end Go.Proofs.Ytpinhcbkfjoopaa
