/- Words and laws of my own for rows of samples: rows that are read, rows that the call owns, how a sample or a row is put behind them, and how an argument is opened. -/
import Derived.Test.YtbnolckcjimhdaaKitK
import Derived.Test.YtbnolckcjimhdaaChunkP
import Derived.Deep.SlicePairs
namespace Go.Proofs.Ytbnolckcjimhdaa
open Go.ChangeShapes Go.WideShapes Go.ChangeAt Go.RowKit Go.Joins
set_option linter.unusedVariables false

theorem Try.info37 : (Try.prog.info? 37).map (fun i => (i.zero, i.size, i.bytes)) = some (some (.agg #[.int .i64 0, .int .i64 0]), 2, 16) := by kernel_rfl
theorem cells37 : Try.prog.cellsOf 37 = 2 := by kernel_rfl
theorem bytes37 : Try.prog.bytesOf 37 = 16 := by kernel_rfl
theorem cellsT2 : Try.prog.cellsOf 2 = 1 := by kernel_rfl

theorem below_dn {B : Nat} {a w : World} (h : Below B a w) (n : Nat) : Below B a (w.drewN n) := ⟨h.os, h.tape, h.output, h.size, h.block⟩
/-- The cells of samples. -/
def smp (l : List (Int × Int)) : List Value := l.flatMap fun s => [.int .i64 s.1, .int .i64 s.2]
theorem smp_length (l : List (Int × Int)) : (smp l).length = l.length * 2 := by
  induction l with
  | nil => rfl
  | cons s l ih => simp [smp] at ih ⊢; omega
theorem smp_append (l m : List (Int × Int)) : smp (l ++ m) = smp l ++ smp m := by simp [smp]
theorem smp_at0 (l : List (Int × Int)) (j : Nat) (hj : j < l.length) : (smp l)[j * 2]? = some (.int .i64 (l.getD j (0, 0)).1) := by
  induction l generalizing j with
  | nil => simp at hj
  | cons s l ih =>
    cases j with
    | zero => simp [smp]
    | succ j => simp at hj; have := ih j hj; rw [show (j + 1) * 2 = j * 2 + 1 + 1 by omega]; simpa [smp] using this
theorem smp_at1 (l : List (Int × Int)) (j : Nat) (hj : j < l.length) : (smp l)[j * 2 + 1]? = some (.int .i64 (l.getD j (0, 0)).2) := by
  induction l generalizing j with
  | nil => simp at hj
  | cons s l ih =>
    cases j with
    | zero => simp [smp]
    | succ j => simp at hj; have := ih j hj; rw [show (j + 1) * 2 + 1 = j * 2 + 1 + 1 + 1 by omega]; simpa [smp] using this
theorem smp_one {l : List (Int × Int)} {u : Value} (h : u ∈ smp l) : u.oneCell' = true := by
  unfold smp at h
  obtain ⟨s, _, hs⟩ := List.mem_flatMap.1 h
  simp at hs
  rcases hs with rfl | rfl <;> rfl

/-- Samples that the call itself made. -/
abbrev OwnS (w : World) (base : Nat) (v : Value) (l : List (Int × Int)) : Prop := w.ownsRow base 37 2 v l.length (smp l)
/-- Samples that can be read. -/
def RowS (w : World) (v : Value) (l : List (Int × Int)) : Prop :=
  ∃ a cap, v = .slice a l.length cap ∧ (l.length ≤ cap ∧ cap ≤ maxLen ∧ (a = none → cap = 0)) ∧ (l = [] ∨ ∃ b off, a = some ⟨b, off, none⟩ ∧ b < w.heap.size ∧ ∀ j, j < l.length → w.cell? ⟨b, off + j * 2, none⟩ = some (.int .i64 (l.getD j (0, 0)).1) ∧ w.cell? ⟨b, off + j * 2 + 1, none⟩ = some (.int .i64 (l.getD j (0, 0)).2))
theorem RowS.below {w w' : World} {B : Nat} {v : Value} {l : List (Int × Int)} (h : RowS w v l) (hb : Below B w w') (hB : w.heap.size ≤ B) : RowS w' v l := by
  obtain ⟨a, cap, rfl, hl, h⟩ := h
  refine ⟨a, cap, rfl, hl, ?_⟩
  rcases h with h | ⟨b, off, rfl, hlt, hc⟩
  · exact .inl h
  · refine .inr ⟨b, off, rfl, Nat.lt_of_lt_of_le hlt hb.size, fun j hj => ⟨?_, ?_⟩⟩
    · exact (hb.cell (p := ⟨b, off + j * 2, none⟩) (Nat.lt_of_lt_of_le hlt hB)).trans (hc j hj).1
    · exact (hb.cell (p := ⟨b, off + j * 2 + 1, none⟩) (Nat.lt_of_lt_of_le hlt hB)).trans (hc j hj).2
theorem RowS.shp {w : World} {v : Value} {l : List (Int × Int)} (h : RowS w v l) : ∃ a cap, v = .slice a l.length cap := by
  obtain ⟨a, cap, hv, _⟩ := h; exact ⟨a, cap, hv⟩
theorem RowS.nil (w : World) : RowS w (.slice none 0 0) [] := ⟨none, 0, rfl, ⟨by simp, by simp, fun _ => rfl⟩, .inl rfl⟩
theorem OwnS.row {w : World} {base : Nat} {v : Value} {l : List (Int × Int)} (h : OwnS w base v l) : RowS w v l := by
  obtain ⟨h1, h2⟩ := h
  rcases h2 with ⟨rfl, h0⟩ | ⟨g, cap, cur, rfl, hb, hg, hn, hm, hs, ht⟩
  · have : l = [] := List.length_eq_zero_iff.1 h0
    subst this
    exact RowS.nil w
  · refine ⟨_, cap, rfl, ⟨hn, hm, fun h => by cases h⟩, .inr ⟨g, 0, rfl, (Array.getElem?_eq_some_iff.1 hg).1, fun j hj => ?_⟩⟩
    have key : ∀ i u, i < l.length * 2 → (smp l)[i]? = some u → cur[i]? = some u := by
      intro i u hi hu
      have h3 : (cur.toList.take (l.length * 2))[i]? = (smp l)[i]? := by rw [ht]
      rw [List.getElem?_take, if_pos hi, hu] at h3
      rw [← Array.getElem?_toList, h3]
    have e0 := key (j * 2) _ (by omega) (smp_at0 l j hj)
    have e1 := key (j * 2 + 1) _ (by omega) (smp_at1 l j hj)
    exact ⟨by simp [World.cell?, hg, e0], by simp [World.cell?, hg, e1]⟩
theorem OwnS.shp {w : World} {base : Nat} {v : Value} {l : List (Int × Int)} (h : OwnS w base v l) : ∃ a cap, v = .slice a l.length cap := h.row.shp
theorem OwnS.base {w : World} {b b' : Nat} {v : Value} {l : List (Int × Int)} (h : OwnS w b v l) (hb : b' ≤ b) : OwnS w b' v l := by
  obtain ⟨h1, h2⟩ := h
  refine ⟨h1, ?_⟩
  rcases h2 with h2 | ⟨g, cap, cur, rfl, hg, r⟩
  · exact .inl h2
  · exact .inr ⟨g, cap, cur, rfl, Nat.le_trans hb hg, r⟩
theorem OwnS.below {w w' : World} {base B : Nat} {v : Value} {l : List (Int × Int)} (h : OwnS w base v l) (hb : Below B w w') (hB : w.heap.size ≤ B) : OwnS w' base v l := by
  obtain ⟨h1, h2⟩ := h
  refine ⟨h1, ?_⟩
  rcases h2 with h2 | ⟨g, cap, cur, rfl, hg, hh, r⟩
  · exact .inl h2
  · exact .inr ⟨g, cap, cur, rfl, hg, by rw [hb.block g (Nat.lt_of_lt_of_le (Array.getElem?_eq_some_iff.1 hh).1 hB)]; exact hh, r⟩
/-- What is owned stays, when a row that lies below it grows. -/
theorem OwnS.grown {w w' : World} {b : Nat} {v : Value} {l : List (Int × Int)} {row : Option Nat} (h : OwnS w b v l) (hg : w.grownBy w' row) (hr : ∀ k, row = some k → k < b) : OwnS w' b v l := by
  obtain ⟨h1, h2⟩ := h
  refine ⟨h1, ?_⟩
  rcases h2 with h2 | ⟨g, cap, cur, rfl, hg', hh, r⟩
  · exact .inl h2
  · refine .inr ⟨g, cap, cur, rfl, hg', ?_, r⟩
    rw [hg.block g (Array.getElem?_eq_some_iff.1 hh).1 (fun e => by have := hr g e.symm; omega)]
    exact hh
theorem OwnS.nil (w : World) (base : Nat) : OwnS w base (.slice none 0 0) [] := World.ownsRow_nil _ _ _ _
/-- A part of a row: l[b:e]. -/
theorem RowS.part {w : World} {bl off len cap : Nat} {l : List (Int × Int)} (h : RowS w (.slice (some ⟨bl, off, none⟩) len cap) l) (b n : Nat) (hb : b + n ≤ l.length) (off' cap' : Nat) (ho : off' = off + b * 2) (hc' : cap' = cap - b) :
    RowS w (.slice (some ⟨bl, off', none⟩) n cap') ((l.drop b).take n) := by
  obtain ⟨a, c, hv, ⟨h1, h2, h3⟩, hcase⟩ := h
  simp only [Value.slice.injEq] at hv
  obtain ⟨rfl, rfl, rfl⟩ := hv
  subst ho hc'
  have hl : ((l.drop b).take n).length = n := by simp; omega
  refine ⟨_, _, by rw [hl], ⟨by omega, by omega, fun h => by cases h⟩, ?_⟩
  rcases hcase with h | ⟨b', off', he, hlt, hc⟩
  · left; rw [h]; simp
  · simp at he
    obtain ⟨rfl, rfl⟩ := he
    refine .inr ⟨bl, off + b * 2, rfl, hlt, fun j hj => ?_⟩
    rw [hl] at hj
    obtain ⟨g0, g1⟩ := hc (b + j) (by omega)
    have e : ((l.drop b).take n).getD j (0, 0) = l.getD (b + j) (0, 0) := by simp [List.getD_eq_getElem?_getD, hj]
    rw [e]
    exact ⟨by rw [← g0]; congr 2; omega, by rw [← g1]; congr 2; omega⟩

/-- 'append(b, x...)' of samples that can be read to a row of the call's own: what the operation does. -/
theorem op_appS {o : Oper} {a : Act} {K : Act → World → Prop} {Q : Exit → Act → World → Prop} (s x : Operand)
    (ho : o.op = .call { callee := .builtin .append, args := #[s, x], argTypes := #[22, 22] })
    (B base : Nat) (w0 w : World) (v vx : Value) (acc l : List (Int × Int)) (hown : OwnS w base v acc) (hrow : RowS w vx l) (hb : Below B w0 w) (hB : B ≤ base) (hs : a.eval s = v)
    (hx : a.eval x = vx) (hlen : (acc.length + l.length) * 16 ≤ 140737488355328) (hbase : base ≤ w.heap.size)
    (h : ∀ v' w', OwnS w' base v' (acc ++ l) → Below B w0 w' → w.heap.size ≤ w'.heap.size → w.grownBy w' v.ownBlock → K (a.put o.dst v') w') :
    Oper.wp Try.prog o a w K Q := by
  obtain ⟨i0, hi, hz0, hz1, hz2⟩ := info_parts Try.info37
  obtain ⟨ao, cap, rfl, ⟨hlc, hcm, hnn⟩, hcase⟩ := hrow
  have go : ∀ ad : Addr, ao = some ad → (∀ j u, (smp l)[j]? = some u → w.cell? (ad.add j) = some u) → Oper.wp Try.prog o a w K Q := by
    intro ad hao hc
    subst hao
    refine wp_append_own _ s x 22 ho base 37 i0 (.agg #[.int .i64 0, .int .i64 0]) 2 16 Try.underlying22 hi hz0 hz1 hz2 rfl (by decide) v _ _ hs hown ad l.length cap (smp l) hx (smp_length l) hc (fun u hu => smp_one hu) ?_ ?_ hbase ?_
    · unfold maxLen; omega
    · omega
    · intro v' w' ho' hg _
      refine h v' w' ?_ (hb.grown hg (by omega) ?_) hg.size hg
      · have e1 : (acc ++ l).length = acc.length + l.length := by simp
        show w'.ownsRow base 37 2 v' (acc ++ l).length (smp (acc ++ l))
        rw [e1, smp_append]; exact ho'
      · intro k hk; have := (hown.lt k hk).1; omega
  rcases hcase with h0 | ⟨b, off, rfl, hbs, hcell⟩
  · subst h0
    cases ao with
    | none =>
      have hcap := hnn rfl
      subst hcap
      have hrun := run_append_owned_none (P := Try.prog) (w := w) base 22 o.type 37 i0 2 Try.underlying22 hi v _ _ hown
      have hx' : a.eval x = .slice none 0 0 := hx
      unfold Oper.wp
      simp [execOp, ho, resolve, invoke, builtin, hs, hx', hrun, Result.andThen]
      exact h v w (by rw [List.append_nil]; exact hown) hb (Nat.le_refl _) ⟨rfl, rfl, rfl, Nat.le_refl _, fun _ _ _ => rfl⟩
    | some ad => exact go ad rfl (fun j u hj => by simp [smp] at hj)
  · refine go _ rfl (fun j u hj => ?_)
    have ea : (Addr.add ⟨b, off, none⟩ j) = ⟨b, off + j, none⟩ := by
      unfold Addr.add; split
      · rename_i h; subst h; rfl
      · rfl
    have hjl : j < l.length * 2 := by
      rcases Nat.lt_or_ge j (smp l).length with h | h
      · rwa [smp_length] at h
      · rw [List.getElem?_eq_none h] at hj; cases hj
    rw [ea]
    obtain ⟨g0, g1⟩ := hcell (j / 2) (by omega)
    rcases Nat.mod_two_eq_zero_or_one j with e | e
    · have e2 : j = j / 2 * 2 := by omega
      rw [e2, smp_at0 l _ (by omega)] at hj
      rw [e2, g0]; exact hj
    · have e2 : j = j / 2 * 2 + 1 := by omega
      rw [e2, smp_at1 l _ (by omega)] at hj
      rw [e2, ← Nat.add_assoc, g1]; exact hj
/-- The same where the walk stands at it; guarded or not. -/
theorem wp_appSg {ops : Array Oper} {rest : List Oper} {o : Oper} {a : Act} {Q : Exit → Act → World → Prop} (hgd : Region.wanted o (yielded ops a.tmps) = true) (s x : Operand)
    (ho : o.op = .call { callee := .builtin .append, args := #[s, x], argTypes := #[22, 22] })
    (B base : Nat) (w0 w : World) (v vx : Value) (acc l : List (Int × Int)) (hown : OwnS w base v acc) (hrow : RowS w vx l) (hb : Below B w0 w) (hB : B ≤ base) (hs : a.eval s = v)
    (hx : a.eval x = vx) (hlen : (acc.length + l.length) * 16 ≤ 140737488355328) (hbase : base ≤ w.heap.size)
    (h : ∀ v' w', OwnS w' base v' (acc ++ l) → Below B w0 w' → w.heap.size ≤ w'.heap.size → w.grownBy w' v.ownBlock → wpList Try.prog ops Q rest (a.put o.dst v') w') :
    wpList Try.prog ops Q (o :: rest) a w :=
  wpList_step fun K hK => by
    rw [if_pos hgd]
    exact op_appS s x ho B base w0 w v vx acc l hown hrow hb hB hs hx hlen hbase fun v' w' a1 a2 a3 a4 => hK _ _ (h v' w' a1 a2 a3 a4)
theorem wp_appS {ops : Array Oper} {rest : List Oper} {o : Oper} {a : Act} {Q : Exit → Act → World → Prop} (hgd : o.guard = none) (s x : Operand)
    (ho : o.op = .call { callee := .builtin .append, args := #[s, x], argTypes := #[22, 22] })
    (B base : Nat) (w0 w : World) (v vx : Value) (acc l : List (Int × Int)) (hown : OwnS w base v acc) (hrow : RowS w vx l) (hb : Below B w0 w) (hB : B ≤ base) (hs : a.eval s = v)
    (hx : a.eval x = vx) (hlen : (acc.length + l.length) * 16 ≤ 140737488355328) (hbase : base ≤ w.heap.size)
    (h : ∀ v' w', OwnS w' base v' (acc ++ l) → Below B w0 w' → w.heap.size ≤ w'.heap.size → w.grownBy w' v.ownBlock → wpList Try.prog ops Q rest (a.put o.dst v') w') :
    wpList Try.prog ops Q (o :: rest) a w :=
  wp_appSg (by simp [Region.wanted, hgd]) s x ho B base w0 w v vx acc l hown hrow hb hB hs hx hlen hbase h
/-- The same as one step of a region that draws. -/
theorem step_appS {ops : Array Oper} {o : Oper} {a : Act} {K : Act → World → Prop} {Q : Exit → Act → World → Prop} {E : Prop} (hgd : o.guard = none) (s x : Operand)
    (ho : o.op = .call { callee := .builtin .append, args := #[s, x], argTypes := #[22, 22] })
    (B base : Nat) (w0 w : World) (v vx : Value) (acc l : List (Int × Int)) (hown : OwnS w base v acc) (hrow : RowS w vx l) (hb : Below B w0 w) (hB : B ≤ base) (hs : a.eval s = v)
    (hx : a.eval x = vx) (hlen : (acc.length + l.length) * 16 ≤ 140737488355328) (hbase : base ≤ w.heap.size)
    (h : ∀ v' w', OwnS w' base v' (acc ++ l) → Below B w0 w' → w.heap.size ≤ w'.heap.size → w.grownBy w' v.ownBlock → K (a.put o.dst v') w') :
    if Region.wanted o (yielded ops a.tmps) = true then Oper.wp Try.prog o a w K Q else E := by
  have hw : Region.wanted o (yielded ops a.tmps) = true := by simp [Region.wanted, hgd]
  rw [if_pos hw]
  exact op_appS s x ho B base w0 w v vx acc l hown hrow hb hB hs hx hlen hbase h

/-- One sample in a new block. -/
theorem row_one (w : World) (s : Int × Int) (t : TypeId) : RowS (w.alloc (.cells #[.int .i64 s.1, .int .i64 s.2] t)) (.slice (some ⟨w.heap.size, 0, none⟩) 1 1) [s] := by
  refine ⟨_, 1, rfl, ⟨by simp, by decide, fun h => by cases h⟩, .inr ⟨w.heap.size, 0, rfl, by simp, fun j hj => ?_⟩⟩
  match j, hj with
  | 0, _ => simp

/-- The reach of a slice that stands itself among the arguments, by its length. -/
theorem row_reachN {H : Type} {ts : List TypeId} {ds : List (DataW H)} (hsz : (DataW.weightsEach Try.prog ts ds).all (· ≤ reachBytes) = true) {j : Nat} {d : DataW H} {t e : TypeId} {n : Nat} (ht : ts[j]? = some t) (hd : ds[j]? = some d)
    (hu : Try.prog.underlying t = some (.slice e)) (h : d = .nil ∧ n = 0 ∨ ∃ elems spare, d = .slice elems spare ∧ elems.length = n) : n * Try.prog.bytesOf e ≤ 140737488351232 := by
  rcases h with ⟨_, rfl⟩ | ⟨el, sp, rfl, hl⟩
  · simp
  · have := sized_slice hsz ht hd hu
    have h2 : n * Try.prog.bytesOf e ≤ (el.length + sp.length) * Try.prog.bytesOf e := Nat.mul_le_mul_right _ (by omega)
    have h3 : reachBytes = 140737488351232 := rfl
    omega

/-- A slice of samples that came in, opened. -/
theorem open_samples {H : Type} {enc : TypeId × Value → H} {W : World} {a : Option Addr} {len cap : Nat} {d : DataW H} {p : List MemPlace}
    (h : ∃ fuel, DataW.trod enc Try.prog W 0 (fun _ => true) true fuel 22 [.slice a len cap] = some (d, p)) :
    ∃ l : List (Int × Int), RowS W (.slice a len cap) l ∧ P.I64s l ∧ (d = .nil ∧ l.length = 0 ∨ ∃ elems spare, d = .slice elems spare ∧ elems.length = l.length) := by
  obtain ⟨fuel, hf⟩ := h
  rcases Go.Deep.open_slice_pairs Try.underlying22 Try.underlying37 cells37 rfl rfl cellsT2 cellsT2 hf with ⟨hcs, hx⟩ | ⟨x, l, c, m, n, V0, V1, D0, D1, P0, P1, hcs, _, hl, hm, hmm, hx, hcell⟩
  · simp at hcs hx
    obtain ⟨rfl, rfl, rfl⟩ := hcs
    exact ⟨[], RowS.nil W, (fun s hs => by cases hs), .inl ⟨hx.1, rfl⟩⟩
  · simp at hcs hx hmm
    obtain ⟨rfl, rfl, rfl⟩ := hcs
    have key : ∀ i, i < len → (∃ z, V0 i = .int .i64 z ∧ (Lit.int .i64 z).wf = true) ∧ ∃ z, V1 i = .int .i64 z ∧ (Lit.int .i64 z).wf = true := by
      intro i hi
      obtain ⟨_, _, h0, h1⟩ := hcell i (by omega)
      obtain ⟨z0, e0, _, w0⟩ := DataW.trod_int Try.underlying2 h0
      obtain ⟨z1, e1, _, w1⟩ := DataW.trod_int Try.underlying2 h1
      simp at e0 e1
      exact ⟨⟨z0, e0, w0⟩, z1, e1, w1⟩
    have hlen : ((List.range len).map fun i => (intOf (V0 i), intOf (V1 i))).length = len := by simp
    refine ⟨(List.range len).map fun i => (intOf (V0 i), intOf (V1 i)), ⟨some x, cap, by rw [hlen], ⟨by rw [hlen]; omega, hm, fun h => by cases h⟩, ?_⟩, ?_, .inr ⟨_, _, hx.1, by simp⟩⟩
    · rcases Nat.eq_zero_or_pos len with h0 | h0
      · exact .inl (by rw [h0]; rfl)
      · right
        obtain ⟨b, off, spot⟩ := x
        have h1 := (hcell 0 (by omega)).1
        have hs : spot = none := by simpa [Addr.add] using World.cell?_spot h1
        subst hs
        refine ⟨b, off, rfl, World.block_lt_of_cell? W _ h1, fun j hj => ?_⟩
        rw [hlen] at hj
        obtain ⟨g0, g1, _, _⟩ := hcell j (by omega)
        have ea : ∀ k, (Addr.add ⟨b, off, none⟩ k) = ⟨b, off + k, none⟩ := by
          intro k
          unfold Addr.add; split
          · rename_i h; subst h; rfl
          · rfl
        rw [ea] at g0 g1
        obtain ⟨⟨z0, e0, _⟩, z1, e1, _⟩ := key j hj
        have eg : ((List.range len).map fun i => (intOf (V0 i), intOf (V1 i))).getD j (0, 0) = (intOf (V0 j), intOf (V1 j)) := by simp [List.getD_eq_getElem?_getD, hj]
        rw [eg, g0, Nat.add_assoc, g1, e0, e1]
        exact ⟨rfl, rfl⟩
    · intro s hs
      obtain ⟨i, hi, rfl⟩ := List.mem_map.1 hs
      obtain ⟨⟨z0, e0, w0⟩, z1, e1, w1⟩ := key i (List.mem_range.1 hi)
      simp only [e0, e1, intOf]
      exact ⟨bounds_i64 w0, bounds_i64 w1⟩
end Go.Proofs.Ytbnolckcjimhdaa
