/- What slices.Insert of one number into a row of the call's own does, and slices.BinarySearch. -/
import Derived.Test.YtlndbmenaaiogaaRankV
import Derived.Test.YtlndbmenaaiogaaShelfB
import Derived.Shelf.Spec.SlicesInsertGrow
import Derived.Maps.AppendAt
namespace Go.Proofs.Ytlndbmenaaiogaa
open Go.RowKit Go.Lib
set_option linter.unusedVariables false
set_option linter.unusedSimpArgs false
/-- Values written into a list. -/
def setL (l : List Value) (o : Nat) : List Value → List Value
  | [] => l
  | v :: r => setL (l.set o v) (o + 1) r
theorem setL_len (l : List Value) (o : Nat) (vs : List Value) : (setL l o vs).length = l.length := by
  induction vs generalizing l o with
  | nil => rfl
  | cons v r ih => simp [setL, ih]
theorem setL_get (l : List Value) (o : Nat) (vs : List Value) (k : Nat) (h : o + vs.length ≤ l.length) : (setL l o vs)[k]? = if o ≤ k ∧ k < o + vs.length then vs[k - o]? else l[k]? := by
  induction vs generalizing l o with
  | nil => rw [if_neg (by simp only [List.length_nil]; omega)]; rfl
  | cons v r ih =>
    simp only [List.length_cons] at h
    rw [setL, ih _ _ (by simp; omega), List.getElem?_set]
    by_cases h1 : o = k
    · subst h1
      rw [if_neg (by omega), if_pos rfl, if_pos (by omega), if_pos (by simp)]
      simp
    · by_cases h2 : o + 1 ≤ k ∧ k < o + 1 + r.length
      · rw [if_pos h2, if_pos (by simp; omega)]
        rw [show k - o = (k - (o + 1)) + 1 by omega, List.getElem?_cons_succ]
      · rw [if_neg h2, if_neg h1, if_neg (by simp; omega)]
theorem setCells_heap {w : World} {g : Nat} {cur : Array Value} {t : TypeId} (vs : List Value) (o : Nat) (hg : w.heap[g]? = some (.cells cur t (0, 0))) : ∃ cur', (w.setCells g o vs).heap[g]? = some (.cells cur' t (0, 0)) ∧ cur'.toList = setL cur.toList o vs := by
  induction vs generalizing w cur o with
  | nil => exact ⟨cur, hg, rfl⟩
  | cons v r ih =>
    obtain ⟨c, h1, h2⟩ := ih (o + 1) (heap_setCell_same w g o _ _ v hg)
    exact ⟨c, h1, by rw [h2, Array.toList_setIfInBounds]; rfl⟩
theorem setCells_grown (w : World) (g o : Nat) (vs : List Value) : w.grownBy (w.setCells g o vs) (some g) := by
  induction vs generalizing w o with
  | nil => exact ⟨rfl, rfl, rfl, Nat.le_refl _, fun _ _ _ => rfl⟩
  | cons v r ih => exact (setCell_grown w g o v).trans (ih _ _)
/-- What stands in a row behind an insertion in place. -/
theorem ins_cells (C cs : List Value) (n i : Nat) (x : Value) (hn : n + 1 ≤ C.length) (hi : i ≤ n) (hc : C.take n = cs) : (setL (setL C (i + 1) (cs.drop i)) i [x]).take (n + 1) = cs.take i ++ [x] ++ cs.drop i := by
  have hl : cs.length = n := by rw [← hc, List.length_take]; omega
  have hdl : (cs.drop i).length = n - i := by rw [List.length_drop, hl]
  apply List.ext_getElem?
  intro k
  rw [List.getElem?_take]
  have hC : ∀ k, k < n → C[k]? = cs[k]? := fun k hk => by rw [← hc, List.getElem?_take, if_pos hk]
  by_cases hk : k < n + 1
  · rw [if_pos hk, setL_get _ _ _ _ (by rw [setL_len]; simp; omega), setL_get _ _ _ _ (by rw [hdl]; omega)]
    simp only [List.length_cons, List.length_nil, hdl]
    rw [List.append_assoc, List.getElem?_append, List.length_take, hl, Nat.min_eq_left hi]
    by_cases h1 : k < i
    · rw [if_neg (by omega), if_neg (by omega), if_pos h1, List.getElem?_take, if_pos h1]
      exact hC k (by omega)
    · rw [if_neg h1]
      by_cases h2 : k = i
      · subst h2
        rw [if_pos (by omega)]; simp
      · rw [if_neg (by omega), if_pos (by omega), show k - i = (k - (i + 1)) + 1 by omega]
        simp
  · rw [if_neg hk, List.getElem?_eq_none (by simp [hl]; omega)]
/-- .. and behind one into a new row. -/
theorem ins_cells_new (Z cs : List Value) (n i : Nat) (x : Value) (hi : i ≤ n) (hl : cs.length = n) (hZ : n + 1 ≤ i + Z.length) : (setL (setL (cs.take i ++ Z) i [x]) (i + 1) (cs.drop i)).take (n + 1) = cs.take i ++ [x] ++ cs.drop i := by
  have hdl : (cs.drop i).length = n - i := by rw [List.length_drop, hl]
  have hti : (cs.take i).length = i := by rw [List.length_take]; omega
  apply List.ext_getElem?
  intro k
  have hR : (cs.take i ++ ([x] ++ cs.drop i))[k]? = if k < i then (cs.take i)[k]? else ([x] ++ cs.drop i)[k - i]? := by rw [List.getElem?_append, hti]
  rw [List.append_assoc, hR, List.getElem?_take]
  by_cases hk : k < n + 1
  · rw [if_pos hk, setL_get _ _ _ _ (by rw [setL_len, hdl]; simp; omega), setL_get _ _ _ _ (by simp; omega)]
    simp only [List.length_cons, List.length_nil, hdl]
    by_cases h1 : k < i
    · rw [if_neg (by omega), if_neg (by omega), if_pos h1, List.getElem?_append_left (by omega)]
    · rw [if_neg h1]
      by_cases h2 : k = i
      · subst h2
        rw [if_neg (by omega), if_pos (by omega)]; simp
      · rw [if_pos (by omega), show k - i = (k - (i + 1)) + 1 by omega]
        simp
  · rw [if_neg hk, if_neg (by omega), List.getElem?_eq_none (by simp [hl]; omega)]
/-- What Insert answers. -/
def InsPost (w : World) (base : Nat) (v : Value) (l : List Int) (i : Nat) (x : Int) (e : Ending) (w' : World) : Prop :=
  ∃ v', e = .returned v' ∧ OwnI w' base v' (l.take i ++ [x] ++ l.drop i) ∧ w.grownBy w' v.ownBlock ∧ (v'.ownBlock = v.ownBlock ∨ ∃ k, v'.ownBlock = some k ∧ w.heap.size ≤ k)
theorem wp_insEnd {ops : Array Oper} {rest : List Oper} {o : Oper} {a : Act} {Q : Exit → Act → World → Prop} (hgd : o.guard = none) (s x : Operand)
    (ho : o.op = .call { callee := .builtin .append, args := #[s, x], argTypes := #[22, 22] })
    (base : Nat) (w : World) (v : Value) (l : List Int) (y : Int) (hown : OwnI w base v l) (hs : a.eval s = v)
    (hx : a.eval x = .slice (some ⟨w.heap.size, 0, none⟩) 1 1) (hlen : l.length ≤ 64) (hbase : base ≤ w.heap.size)
    (h : ∀ v' w', OwnI w' base v' (l ++ [y]) → w.grownBy w' v.ownBlock → (v'.ownBlock = v.ownBlock ∨ ∃ k, v'.ownBlock = some k ∧ w.heap.size ≤ k) → wpList Try.prog ops Q rest (a.put o.dst v') w') :
    wpList Try.prog ops Q (o :: rest) a (w.alloc (.cells #[.int .i64 y] 2)) := by
  obtain ⟨i0, hi, hz0, hz1, hz2⟩ := info_parts Try.info2
  refine wpList_append_own_at _ hgd s x 22 ho base 2 i0 (.int .i64 0) 1 8 Try.underlying22 hi hz0 hz1 hz2 rfl (by omega) v _ _ hs (World.ownsRow.alloc hown _) ⟨w.heap.size, 0, none⟩ 1 1 [.int .i64 y] hx rfl ?_ ?_ ?_ ?_ ?_ ?_
  · intro j u hj
    match j, hj with
    | 0, hj => simp at hj; subst hj; simp [Addr.add]
  · intro u hu; simp at hu; subst hu; rfl
  · unfold maxLen; omega
  · omega
  · simp; omega
  · intro v' w' ho' hg _ hat
    refine h v' w' ?_ ((World.grownBy_alloc w _ _).trans hg) ?_
    · have e1 : (l ++ [y]).length = l.length + 1 := by simp
      have e2 : (l ++ [y]).map (Value.int .i64) = l.map (Value.int .i64) ++ [.int .i64 y] := by simp
      show w'.ownsRow base 2 1 v' (l ++ [y]).length ((l ++ [y]).map (Value.int .i64))
      rw [e1, e2]; exact ho'
    · rcases hat with hat | hat
      · exact .inl hat
      · exact .inr ⟨_, hat, by simp⟩
set_option maxHeartbeats 4000000 in
set_option maxRecDepth 100000 in
theorem ins_end (base : Nat) (v : Value) (l : List Int) (x : Int) (w : World) (ho : OwnI w base v l) (hl : l.length ≤ 64) (hb : base ≤ w.heap.size) :
    Calls Try.prog 47 #[v, .int .i64 l.length, .slice (some ⟨w.heap.size, 0, none⟩) 1 1] (w.alloc (.cells #[.int .i64 x] 2)) (InsPost w base v l l.length x) := by
  obtain ⟨n, hn⟩ : ∃ n, l.length = n := ⟨_, rfl⟩
  have hsame : l.take l.length ++ [x] ++ l.drop l.length = l ++ [x] := by simp
  have HO := hide ho
  unfold InsPost
  rw [hsame]
  rcases ho.2 with ⟨rfl, h0⟩ | ⟨g, cap, cur, rfl, hbg, hg, hlc, hmax, _⟩
  · obtain rfl : l = [] := List.length_eq_zero_iff.1 h0
    clear ho hsame
    go_enter Try.func47, Try.ntmps47
    go_wp2_with (at_builtin; go_must (refine wp_insEnd rfl _ _ rfl base _ _ [] x HO.out rfl rfl (by simp) hb ?_); intro v' w' own' hg' hat')
    go_ret
    exact ⟨_, rfl, own', hg', hat'⟩
  · unfold maxLen at hmax
    rw [hn] at HO hlc ⊢
    have hl' : l.length ≤ 64 := hl
    rw [hn] at hl
    have k1 : (0 : Int) ≤ (n : Int) := by omega
    have k2 : (n : Int) ≤ (cap : Int) := by omega
    clear ho hsame hg
    by_cases hc : cap = n
    · subst hc
      go_enter Try.func47, Try.ntmps47
      go_wp2_with (at_builtin; go_must (refine wp_insEnd rfl _ _ rfl base _ _ l x HO.out rfl rfl hl' hb ?_); intro v' w' own' hg' hat')
      go_ret
      exact ⟨_, rfl, own', hg', hat'⟩
    · go_enter Try.func47, Try.ntmps47
      go_wp2_with (at_builtin; go_must (refine wp_insEnd rfl _ _ rfl base _ _ l x HO.out rfl rfl hl' hb ?_); intro v' w' own' hg' hat')
      go_ret
      exact ⟨_, rfl, own', hg', hat'⟩
/-- Facts on a row's block, beside a new block for the number. -/
theorem ins_facts {w : World} {g n cap : Nat} {cur : Array Value} {l : List Int} (x : Int) (hg : w.heap[g]? = some (.cells cur 2 (0, 0))) (hs : cur.size = cap * 1) (ht : cur.toList.take (l.length * 1) = l.map (Value.int .i64)) (hn : l.length = n) (hc : n ≤ cap) :
    (∀ (j : Nat) (v : Value), (l.map (Value.int .i64))[j]? = some v → (w.alloc (.cells #[.int .i64 x] 2)).cell? ⟨g, j, none⟩ = some v) ∧ (∀ j, j < cap → ((w.alloc (.cells #[.int .i64 x] 2)).cell? ⟨g, j, none⟩).isSome = true) ∧
    (∀ j, (w.alloc (.cells #[.int .i64 x] 2)).frozen? ⟨g, j, none⟩ = false) ∧ (w.alloc (.cells #[.int .i64 x] 2)).shape? g = some (2, cap) ∧ g ≠ w.heap.size ∧ (w.alloc (.cells #[.int .i64 x] 2)).heap[g]? = some (.cells cur 2 (0, 0)) := by
  have hlt := (Array.getElem?_eq_some_iff.1 hg).1
  have hg2 : (w.alloc (.cells #[.int .i64 x] 2)).heap[g]? = some (.cells cur 2 (0, 0)) := by
    have := ((Below.refl w.heap.size w).alloc (Nat.le_refl _) (.cells #[.int .i64 x] 2)).block g hlt
    rw [this]; exact hg
  refine ⟨fun j v hj => ?_, fun j hj => ?_, fun j => ?_, ?_, by omega, hg2⟩
  · have hjn : j < l.length := by
      rcases Nat.lt_or_ge j l.length with h | h
      · exact h
      · rw [List.getElem?_eq_none (by simpa using h)] at hj; cases hj
    have h3 : (cur.toList.take (l.length * 1))[j]? = some v := by rw [ht]; exact hj
    rw [List.getElem?_take, if_pos (by omega)] at h3
    simp only [World.cell?, hg2]
    rw [← Array.getElem?_toList, h3]
    simp
  · have : j < cur.size := by omega
    simp [World.cell?, hg2, this]
  · simp [World.frozen?, hg2]
  · simp [World.shape?, hg2, hs]
theorem drew_setCells' (b : Nat) : ∀ (vs : List Value) (o : Nat) (w : World), (w.setCells b o vs).drew = w.drew.setCells b o vs
  | [], _, _ => rfl
  | v :: r, o, w => by rw [World.setCells, World.setCells, drew_setCells' b r]; rfl
set_option maxHeartbeats 4000000 in
set_option maxRecDepth 100000 in
theorem ins_room (g base n cap i : Nat) (l : List Int) (x : Int) (w : World) (ho : OwnI w base (.slice (some ⟨g, 0, none⟩) n cap) l) (hn : l.length = n) (hl : n ≤ 64) (hi : i < n) (hroom : n + 1 ≤ cap) (hb : base ≤ w.heap.size) :
    Calls Try.prog 47 #[.slice (some ⟨g, 0, none⟩) n cap, .int .i64 i, .slice (some ⟨w.heap.size, 0, none⟩) 1 1] (w.alloc (.cells #[.int .i64 x] 2)) (InsPost w base (.slice (some ⟨g, 0, none⟩) n cap) l i x) := by
  rcases ho.2 with ⟨h, _⟩ | ⟨g', cap', cur, hv, hbg, hg, hlc, hmax, hcs', htk⟩
  · cases h
  simp only [Value.slice.injEq, Option.some.injEq, Addr.mk.injEq, and_true] at hv
  obtain ⟨rfl, hnx, rfl⟩ := hv
  clear hnx
  unfold maxLen at hmax
  obtain ⟨hcs, hsp, hfz, hsb, hvb, hg2⟩ := ins_facts x hg hcs' htk hn (by omega)
  have hsz : (Try.prog.info? 2).map (·.size) = some 1 := by
    obtain ⟨i0, hi0, h0, h1, h2⟩ := info_parts Try.info2
    rw [hi0]; simp [h1]
  obtain ⟨W, hW⟩ : ∃ W, W = w.alloc (.cells #[.int .i64 x] 2) := ⟨_, rfl⟩
  have hvx : W.cell? ⟨w.heap.size, 0, none⟩ = some (.int .i64 x) := by rw [hW]; simp
  have hnew : W.heap[w.heap.size]? = some (.cells #[.int .i64 x] 2 (0, 0)) := by rw [hW]; exact heap_alloc_new w _
  have hsa : W.shape? w.heap.size = some (2, 1) := by simp only [World.shape?, hnew]; rfl
  have hfv : ∀ j, W.frozen? ⟨w.heap.size, j, none⟩ = false := fun j => by simp only [World.frozen?, hnew]; simp
  have hsame : w.grownBy W none := by rw [hW]; exact World.grownBy_alloc w _ _
  rw [← hW] at hcs hsp hfz hsb hg2 ⊢
  clear hW
  have hov : ∀ lb cb, (callFunc 56 #[.slice (some ⟨w.heap.size, 0, none⟩) 1 1, .slice (some ⟨g, i + 1, none⟩) lb cb]).run Try.prog W = .ok (.value (.bool false)) W := fun lb cb => by
    rw [run_callFunc_extern Try.func56 (by kernel_rfl) (by kernel_rfl) (by kernel_rfl) (e := Extern.SlicesOverlaps.overlaps #[22, 22] #[4]) (by kernel_rfl),
      Lib.run_overlaps_apart W 22 4 2 Try.underlying22 1 Try.sizeOf2 ⟨w.heap.size, 0, none⟩ ⟨g, i + 1, none⟩ 1 1 lb cb (by simpa using fun e => hvb e.symm) 2 2 1 cap hsa hsb (by omega) (hfv 0) (hfv 1)]
    rfl
  have hcl : (l.map (Value.int .i64)).length = n := by simpa using hn
  have h1c : ∀ v ∈ l.map (Value.int .i64), v.oneCell' = true := by intro u hu; obtain ⟨z, _, rfl⟩ := List.mem_map.1 hu; rfl
  generalize hcsd : l.map (Value.int .i64) = cs at *
  have hdl : (cs.drop i).length = n - i := by rw [List.length_drop, hcl]
  have hcp1 : ∀ ty dl dc sl sc, dl = n - i → sl = n + 1 - i → (Builtin.copy_ #[22, 22] ty #[.slice (some ⟨g, i + 1, none⟩) dl dc, .slice (some ⟨g, i, none⟩) sl sc]).run Try.prog W.drew = .ok (goInt (cs.drop i).length) (W.drew.setCells g (i + 1) (cs.drop i)) := fun ty dl dc sl sc h1 h2 =>
    run_copy_cells W.drew _ _ ty 2 g (i + 1) dl dc ⟨g, i, none⟩ sl sc (cs.drop i) Try.underlying22 hsz (by rw [hdl, h1, h2]; simp only [Nat.min_def]; split <;> omega)
      (fun j v hj => by rw [add_none]; exact hcs (i + j) v (by rwa [List.getElem?_drop] at hj))
      (fun j hj => by exact hsp _ (by omega)) (fun j hj => hfz _) (fun v hv => h1c v (List.mem_of_mem_drop hv))
  obtain ⟨W1, hW1⟩ : ∃ W1, W1 = W.drew.setCells g (i + 1) (cs.drop i) := ⟨_, rfl⟩
  have hcp2 : ∀ ty dl dc, 1 ≤ dl → (Builtin.copy_ #[22, 22] ty #[.slice (some ⟨g, i, none⟩) dl dc, .slice (some ⟨w.heap.size, 0, none⟩) 1 1]).run Try.prog W1 = .ok (goInt 1) (W1.setCells g i [.int .i64 x]) := fun ty dl dc hdl' =>
    run_copy_cells W1 _ _ ty 2 g i dl dc ⟨w.heap.size, 0, none⟩ 1 1 [.int .i64 x] Try.underlying22 hsz (by simp only [Nat.min_def, List.length_cons, List.length_nil]; split <;> omega)
      (fun j v hj => by
        rw [add_none, hW1, World.cell?_setCells_out g _ _ _ _ (fun h _ => absurd h.symm hvb)]
        match j, hj with
        | 0, hj => simp at hj; subst hj; exact hvx)
      (fun j hj => by
        rw [hW1]
        exact isSome_setCells g (cs.drop i) (i + 1) W.drew (fun k hk => hsp (i + 1 + k) (by rw [hdl] at hk; omega)) (i + j) (hsp (i + j) (by simp at hj; omega)))
      (fun j hj => by rw [hW1, World.frozen?_setCells]; exact hfz _) (fun v hv => by simp at hv; subst hv; rfl)
  rw [← hW1] at hcp1
  obtain ⟨cur1, e1, e2⟩ := setCells_heap (w := W.drew) (g := g) (cs.drop i) (i + 1) hg2
  obtain ⟨cur2, e3, e4⟩ := setCells_heap (w := W1) (g := g) [.int .i64 x] i (by rw [hW1]; exact e1)
  have hfin : OwnI (W1.setCells g i [.int .i64 x]) base (.slice (some ⟨g, 0, none⟩) (n + 1) cap) (l.take i ++ [x] ++ l.drop i) := by
    have hlen : (l.take i ++ [x] ++ l.drop i).length = n + 1 := by simp; omega
    have hmap : (l.take i ++ [x] ++ l.drop i).map (Value.int .i64) = cs.take i ++ [.int .i64 x] ++ cs.drop i := by rw [← hcsd]; simp
    refine ⟨by rw [List.length_map, Nat.mul_one], .inr ⟨g, cap, cur2, by rw [hlen], hbg, e3, by omega, hmax, ?_, ?_⟩⟩
    · rw [← Array.length_toList, e4, e2, setL_len, setL_len, Array.length_toList]; exact hcs'
    · rw [hlen, Nat.mul_one, hmap, e4, e2]
      exact ins_cells cur.toList cs n i (.int .i64 x) (by rw [Array.length_toList]; omega) (by omega) (by rw [← htk, hn, Nat.mul_one])
  have hgrow : w.grownBy (W1.setCells g i [.int .i64 x]) (some g) := by
    have a1 : W.grownBy W.drew (some g) := ⟨rfl, rfl, rfl, Nat.le_refl _, fun _ _ _ => rfl⟩
    have a2 : W.drew.grownBy W1 (some g) := by rw [hW1]; exact setCells_grown _ _ _ _
    have a3 := ((a1.trans a2).trans (setCells_grown W1 g i [.int .i64 x]))
    exact ⟨a3.os.trans hsame.os, a3.tape.trans hsame.tape, a3.output.trans hsame.output, Nat.le_trans hsame.size a3.size, fun k hk hne => (a3.block k (Nat.lt_of_lt_of_le hk hsame.size) hne).trans (hsame.block k hk (by simp))⟩
  have HF := hide hfin
  have HG := hide hgrow
  unfold InsPost
  generalize (W1.setCells g i [.int .i64 x]) = W2 at *
  have k0 : (0 : Int) ≤ (i : Int) := by omega
  have k1 : (i : Int) < (n : Int) := by omega
  have k2 : (n : Int) + 1 ≤ (cap : Int) := by omega
  have k3 : (n : Int) ≤ 64 := by omega
  have k4 : ((i : Int) == (n : Int)) = false := by rw [beq_eq_false_iff_ne]; omega
  have htn : ((i : Int) + 1).toNat = i + 1 := by omega
  have hw1 : IntKind.i64.wrap ((i : Int) + 1) = (i : Int) + 1 := by rw [IntKind.wrap_i64]; omega
  have hb1 : (0 : Int) ≤ (i : Int) + 1 := by omega
  have hb3 : (i : Int) + 1 ≤ (n : Int) + 1 := by omega
  have hb5 : (i : Int) ≤ (n : Int) + 1 := by omega
  have hb2 : ¬ (cap = i + 1) := by omega
  have hb4 : ¬ (cap = i) := by omega
  have hnat : i ≤ n := by omega
  have k5 : (i : Int) ≤ (n : Int) := by omega
  have k6 : (n : Int) ≤ (cap : Int) := by omega
  clear hnew hfin hgrow e1 e2 e3 e4 hcs hsp hfz hsb hg2 hvx hsa hfv hsame hcsd hcl h1c hdl hW1 ho hg htk hcs'
  go_enter Try.func47, Try.ntmps47
  go_wp2_with (simp only [hov])
  go_region_law (refine step_copy_runI rfl _ _ 22 22 rfl (.slice (some ⟨g, i + 1, none⟩) (n - i) (cap - (i + 1))) (.slice (some ⟨g, i, none⟩) (n + 1 - i) (cap - i)) (by simp [Act.eval, Act.put]) (by simp [Act.eval, Act.put]) (hcp1 _ _ _ _ _ rfl rfl) ?_)
  have hc2 := hcp2 3 (n + 1 - i) (cap - i) (by omega)
  clear hcp1 hcp2
  go_wp2
  go_ret
  exact ⟨_, rfl, HF.out, HG.out, .inl rfl⟩
set_option maxHeartbeats 4000000 in
set_option maxRecDepth 100000 in
theorem ins_grow (g base n i : Nat) (l : List Int) (x : Int) (w : World) (ho : OwnI w base (.slice (some ⟨g, 0, none⟩) n n) l) (hn : l.length = n) (hl : n ≤ 64) (hi : i < n) (hb : base ≤ w.heap.size) :
    Calls Try.prog 47 #[.slice (some ⟨g, 0, none⟩) n n, .int .i64 i, .slice (some ⟨w.heap.size, 0, none⟩) 1 1] (w.alloc (.cells #[.int .i64 x] 2)) (InsPost w base (.slice (some ⟨g, 0, none⟩) n n) l i x) := by
  rcases ho.2 with ⟨h, _⟩ | ⟨g', cap', cur, hv, hbg, hg, hlc, hmax, hcs', htk⟩
  · cases h
  simp only [Value.slice.injEq, Option.some.injEq, Addr.mk.injEq, and_true] at hv
  obtain ⟨rfl, hnx, rfl⟩ := hv
  clear hnx
  obtain ⟨hcs, hsp, hfz, hsb, hvb, hg2⟩ := ins_facts x hg hcs' htk hn (Nat.le_refl _)
  obtain ⟨i0, hi0, hz0, hz1, hz2⟩ := info_parts Try.info2
  have hsz : (Try.prog.info? 2).map (·.size) = some 1 := by rw [hi0]; simp [hz1]
  obtain ⟨W, hW⟩ : ∃ W, W = w.alloc (.cells #[.int .i64 x] 2) := ⟨_, rfl⟩
  have hvx : W.cell? ⟨w.heap.size, 0, none⟩ = some (.int .i64 x) := by rw [hW]; simp
  have hsame : w.grownBy W none := by rw [hW]; exact World.grownBy_alloc w _ _
  have hWs : W.heap.size = w.heap.size + 1 := by rw [hW]; simp
  rw [← hW] at hcs hsp hfz hsb hg2 ⊢
  clear hW
  have hcl : (l.map (Value.int .i64)).length = n := by simpa using hn
  have h1c : ∀ v ∈ l.map (Value.int .i64), v.oneCell' = true := by intro u hu; obtain ⟨z, _, rfl⟩ := List.mem_map.1 hu; rfl
  generalize hcsd : l.map (Value.int .i64) = cs at *
  have hdl : (cs.drop i).length = n - i := by rw [List.length_drop, hcl]
  have hti : (cs.take i).length = i := by rw [List.length_take]; omega
  have hold : (Builtin.firstCells i0.size i (.slice (some ⟨g, 0, none⟩) i n)).run Try.prog W.drew = .ok (cs.take i).toArray W.drew := by
    rw [hz1]
    exact run_firstCells_some W.drew 1 i ⟨g, 0, none⟩ i n (cs.take i) (by rw [hti]; omega) (fun j v hj => by
      rw [add_none, Nat.zero_add]
      rw [List.getElem?_take] at hj
      split at hj
      · exact hcs j v hj
      · cases hj)
  have hkk : (n : Int) + 1 - (i : Int) = ((n + 1 - i : Nat) : Int) := by omega
  have hik : i + (n + 1 - i) = n + 1 := by omega
  have hrz : ∀ ty, (Builtin.append_ #[22, 3] ty #[.slice (some ⟨g, 0, none⟩) i n, .int .i64 ((n : Int) + 1 - (i : Int))]).run Try.prog W =
      .ok (.slice (some ⟨W.heap.size, 0, none⟩) (n + 1) (grownCap W (n + 1) n 2)) (W.drew.alloc (.cells ((cs.take i).toArray ++ Builtin.zeroCells (Value.int .i64 0).cells (n + 1 - i) ++ Builtin.zeroCells (Value.int .i64 0).cells (grownCap W (n + 1) n 2 - (n + 1))) 2)) := fun ty => by
    have h := Lib.run_append_grow_zeros W 22 3 ty 2 i0 _ .i64 .i64 Try.underlying22 Try.underlying3 hi0 hz0 (some ⟨g, 0, none⟩) i n (cs.take i) hold (n + 1 - i) (by omega) (by omega) (by omega) (by omega) (by rw [hz2]; omega) (by rw [hz2, hik]; exact growslice_fits (by omega) (by omega))
    rw [hik] at h
    rw [hkk]
    exact h
  have hGn : n + 1 ≤ grownCap W (n + 1) n 2 := grownCap_ge W _ _ _
  have hG63 : grownCap W (n + 1) n 2 ≤ maxLen := grownCap_le_maxLen W (n + 1) n 2 (by unfold maxLen; omega)
  generalize grownCap W (n + 1) n 2 = G at *
  obtain ⟨ROW, hROW⟩ : ∃ ROW : Array Value, ROW = (cs.take i).toArray ++ Builtin.zeroCells (Value.int .i64 0).cells (n + 1 - i) ++ Builtin.zeroCells (Value.int .i64 0).cells (G - (n + 1)) := ⟨_, rfl⟩
  rw [← hROW] at hrz
  have hRs : ROW.size = G := by
    rw [hROW, Array.size_append, Array.size_append, size_zeros, size_zeros]
    simp only [List.size_toArray, hti]
    omega
  have hRt : ROW.toList.take i = cs.take i := by
    rw [hROW]
    simp only [Array.toList_append]
    rw [List.append_assoc, List.take_left' hti]
  have hRl : ROW.toList = cs.take i ++ ROW.toList.drop i := by rw [← hRt, List.take_append_drop]
  obtain ⟨W1, hW1⟩ : ∃ W1, W1 = W.drew.alloc (.cells ROW 2) := ⟨_, rfl⟩
  rw [← hW1] at hrz
  have hN : W1.heap[W.heap.size]? = some (.cells ROW 2 (0, 0)) := by rw [hW1]; exact heap_alloc_new W.drew _
  have hbel : Below W.heap.size W W1 := by rw [hW1]; exact ((Below.refl W.heap.size W).drew).alloc (Nat.le_refl _) _
  have hgW : g < W.heap.size := (Array.getElem?_eq_some_iff.1 hg2).1
  have hOb : ∀ j v, cs[j]? = some v → W1.cell? ⟨g, j, none⟩ = some v := fun j v h => (hbel.cell (p := ⟨g, j, none⟩) hgW).trans (hcs j v h)
  have hOv : W1.cell? ⟨w.heap.size, 0, none⟩ = some (.int .i64 x) := (hbel.cell (p := ⟨w.heap.size, 0, none⟩) (by show w.heap.size < W.heap.size; omega)).trans hvx
  have hNs : ∀ j, j < G → (W1.cell? ⟨W.heap.size, j, none⟩).isSome = true := fun j hj => by
    have : j < ROW.size := by omega
    simp [World.cell?, hN, this]
  have hNf : ∀ j, W1.frozen? ⟨W.heap.size, j, none⟩ = false := fun j => by simp [World.frozen?, hN]
  have hcA : (Builtin.copy_ #[22, 22] 3 #[.slice (some ⟨W.heap.size, i, none⟩) (n + 1 - i) (G - i), .slice (some ⟨w.heap.size, 0, none⟩) 1 1]).run Try.prog W1 = .ok (goInt 1) (W1.setCells W.heap.size i [.int .i64 x]) :=
    run_copy_cells W1 _ _ 3 2 W.heap.size i (n + 1 - i) (G - i) ⟨w.heap.size, 0, none⟩ 1 1 [.int .i64 x] Try.underlying22 hsz (by simp only [Nat.min_def, List.length_cons, List.length_nil]; split <;> omega)
      (fun j v hj => by
        rw [add_none]
        match j, hj with
        | 0, hj => simp at hj; subst hj; exact hOv)
      (fun j hj => hNs (i + j) (by simp at hj; omega)) (fun j hj => hNf _) (fun v hv => by simp at hv; subst hv; rfl)
  obtain ⟨W2, hW2⟩ : ∃ W2, W2 = W1.setCells W.heap.size i [.int .i64 x] := ⟨_, rfl⟩
  rw [← hW2] at hcA
  have hgN : g ≠ W.heap.size := by omega
  have hcB : ∀ ty dl dc sl sc, dl = n - i → sl = n - i → (Builtin.copy_ #[22, 22] ty #[.slice (some ⟨W.heap.size, i + 1, none⟩) dl dc, .slice (some ⟨g, i, none⟩) sl sc]).run Try.prog W2.drew = .ok (goInt (cs.drop i).length) (W2.drew.setCells W.heap.size (i + 1) (cs.drop i)) := fun ty dl dc sl sc h1 h2 =>
    run_copy_cells W2.drew _ _ ty 2 W.heap.size (i + 1) dl dc ⟨g, i, none⟩ sl sc (cs.drop i) Try.underlying22 hsz (by rw [hdl, h1, h2]; simp only [Nat.min_def]; split <;> omega)
      (fun j v hj => by
        rw [add_none]
        show W2.cell? _ = _
        rw [hW2, World.cell?_setCells_out _ _ _ _ _ (fun h _ => absurd h hgN)]
        exact hOb (i + j) v (by rwa [List.getElem?_drop] at hj))
      (fun j hj => by
        show (W2.cell? _).isSome = true
        rw [hW2]
        exact isSome_setCells W.heap.size [.int .i64 x] i W1 (fun k hk => hNs (i + k) (by simp at hk; omega)) (i + 1 + j) (hNs (i + 1 + j) (by rw [hdl] at hj; omega)))
      (fun j hj => by show W2.frozen? _ = false; rw [hW2, World.frozen?_setCells]; exact hNf _) (fun v hv => h1c v (List.mem_of_mem_drop hv))
  obtain ⟨cur1, e1, e2⟩ := setCells_heap (w := W1) (g := W.heap.size) [.int .i64 x] i hN
  rw [← hW2] at e1
  obtain ⟨cur2, e3, e4⟩ := setCells_heap (w := W2.drew) (g := W.heap.size) (cs.drop i) (i + 1) e1
  obtain ⟨W3, hW3⟩ : ∃ W3, W3 = W2.drew.setCells W.heap.size (i + 1) (cs.drop i) := ⟨_, rfl⟩
  have hfin : OwnI W3 base (.slice (some ⟨W.heap.size, 0, none⟩) (n + 1) G) (l.take i ++ [x] ++ l.drop i) := by
    have hlen : (l.take i ++ [x] ++ l.drop i).length = n + 1 := by simp; omega
    have hmap : (l.take i ++ [x] ++ l.drop i).map (Value.int .i64) = cs.take i ++ [.int .i64 x] ++ cs.drop i := by rw [← hcsd]; simp
    refine ⟨by rw [List.length_map, Nat.mul_one], .inr ⟨W.heap.size, G, cur2, by rw [hlen], by omega, by rw [hW3]; exact e3, by omega, hG63, ?_, ?_⟩⟩
    · rw [← Array.length_toList, e4, e2, setL_len, setL_len, Array.length_toList, hRs, Nat.mul_one]
    · rw [hlen, Nat.mul_one, hmap, e4, e2, hRl]
      exact ins_cells_new _ cs n i (.int .i64 x) (by omega) hcl (by rw [List.length_drop, Array.length_toList, hRs]; omega)
  have hgrow : w.grownBy W3 (some g) := by
    have b1 : Below W.heap.size W W3 := by
      rw [hW3]
      have a2 : Below W.heap.size W W2 := by
        rw [hW2]
        exact hbel.grown (setCells_grown _ _ _ _) hbel.size (fun k hk => by simp at hk; omega)
      exact a2.drew.grown (setCells_grown _ _ _ _) (by show W.heap.size ≤ W2.heap.size; exact a2.size) (fun k hk => by simp at hk; omega)
    have b2 : Below w.heap.size w W := ⟨hsame.os, hsame.tape, hsame.output, hsame.size, fun k hk => hsame.block k hk (by simp)⟩
    have b3 := Below.next b2 b1
    exact ⟨b3.os, b3.tape, b3.output, b3.size, fun k hk _ => b3.block k hk⟩
  have HF := hide hfin
  have HG := hide hgrow
  rw [← hW3] at hcB
  unfold InsPost
  unfold maxLen at hG63
  have hnN : w.heap.size ≤ W.heap.size := by omega
  generalize W.heap.size = N at *
  have k0 : (0 : Int) ≤ (i : Int) := by omega
  have k1 : (i : Int) < (n : Int) := by omega
  have k3 : (n : Int) ≤ 64 := by omega
  have k4 : ((i : Int) == (n : Int)) = false := by rw [beq_eq_false_iff_ne]; omega
  have htn : ((i : Int) + 1).toNat = i + 1 := by omega
  have hw1 : IntKind.i64.wrap ((i : Int) + 1) = (i : Int) + 1 := by rw [IntKind.wrap_i64]; omega
  have hb1 : (0 : Int) ≤ (i : Int) + 1 := by omega
  have hb3 : (i : Int) + 1 ≤ (n : Int) + 1 := by omega
  have hb5 : (i : Int) ≤ (n : Int) + 1 := by omega
  have hb2 : ¬ (G = i + 1) := by omega
  have hb4 : ¬ (G = i) := by omega
  have hb6 : ¬ (n = i) := by omega
  have hb7 : (i : Int) ≤ (G : Int) := by omega
  have hb8 : (n : Int) + 1 ≤ (G : Int) := by omega
  have hnat : i ≤ n := by omega
  have k5 : (i : Int) ≤ (n : Int) := by omega
  clear hkk hik hfin hgrow e1 e2 e3 e4 hcs hsp hfz hsb hg2 hvx hsame hcsd hcl h1c hdl hW1 hW2 hW3 ho hg htk hcs' hold hROW hRs hRl hRt hWs hN hbel hgW hOb hOv hNs hNf hgN hti hz0 hz1 hz2 hi0
  go_enter Try.func47, Try.ntmps47
  go_wp2_with (at_builtin; refine Lib.wpList_append_run _ rfl _ _ _ _ rfl _ _ rfl rfl _ _ (hrz _) ?_)
  go_region_law (refine step_copy_runI rfl _ _ 22 22 rfl (.slice (some ⟨N, i + 1, none⟩) (n - i) (G - (i + 1))) (.slice (some ⟨g, i, none⟩) (n - i) (n - i)) (by simp [Act.eval, Act.put]) (by simp [Act.eval, Act.put]) (hcB _ _ _ _ _ rfl rfl) ?_)
  go_wp2
  go_ret
  exact ⟨_, rfl, HF.out, HG.out, .inr ⟨N, rfl, hnN⟩⟩
end Go.Proofs.Ytlndbmenaaiogaa
