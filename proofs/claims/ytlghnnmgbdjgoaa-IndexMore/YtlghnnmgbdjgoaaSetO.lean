/- What slices.Sort, Compact, Equal, Contains, and 'ordered' answer of rows of numbers. -/
import Derived.Test.YtlghnnmgbdjgoaaSetC
namespace Go.Proofs.Ytlghnnmgbdjgoaa
open Go.RowKit Go.Sort
set_option linter.unusedVariables false
theorem sort_own (w : World) (base : Nat) (v : Value) (l : List Int) (h : OwnI w base v l) (hl : l.length < 4611686018427387904) :
    Calls Try.prog 21 #[v] w fun e w' => e = .returned (.tuple #[]) ∧ OwnI w' base v (l.mergeSort fun x y => decide (x ≤ y)) ∧ w.grownBy w' v.ownBlock := by
  rcases h.2 with ⟨rfl, h0⟩ | ⟨g, cap, cur, rfl, hb, hg, hn, hm, hs, ht⟩
  · obtain rfl : l = [] := List.length_eq_zero_iff.1 h0
    refine (Try.slices_Sort_int_none none 0 w).mono ?_
    rintro e w' ⟨rfl, rfl⟩
    exact ⟨rfl, by simpa using h, ⟨rfl, rfl, rfl, Nat.le_refl _, fun _ _ _ => rfl⟩⟩
  · refine (Try.slices_Sort_int g 0 cap l w (holds_of_blockI hg (by simpa using ht)) (Array.getElem?_eq_some_iff.1 hg).1 hl).mono ?_
    rintro e w' ⟨rfl, n, os, rfl⟩
    refine ⟨rfl, ?_, grownBy_sortedI _⟩
    have hl2 : (l.mergeSort fun x y => decide (x ≤ y)).length = l.length := by simp
    have := ownsRow_sortedI (n := n) (os := os) hl2 hb hg hn hm hs
    show World.ownsRow _ _ _ _ _ (l.mergeSort fun x y => decide (x ≤ y)).length _
    rw [hl2]; exact this
theorem compact_len (l : List Int) : (Lib.compact l).length ≤ l.length := by
  unfold Lib.compact Lib.compactUpTo
  rw [List.length_map]
  refine Nat.le_trans (List.length_filter_le _ _) ?_
  simp
theorem compact_own (w : World) (base : Nat) (v : Value) (l : List Int) (h : OwnI w base v l) (hl : l.length < 4611686018427387904) :
    Calls Try.prog 79 #[v] w fun e w' => ∃ v', e = .returned v' ∧ OwnI w' base v' (Lib.compact l) ∧ w.grownBy w' v.ownBlock := by
  rcases h.2 with ⟨rfl, h0⟩ | ⟨g, cap, cur, rfl, hb, hg, hn, hm, hs, ht⟩
  · obtain rfl : l = [] := List.length_eq_zero_iff.1 h0
    refine (Try.slices_Compact_int_empty none 0 w).mono ?_
    rintro e w' ⟨rfl, rfl⟩
    exact ⟨_, rfl, OwnK.nil _ _ _ _, ⟨rfl, rfl, rfl, Nat.le_refl _, fun _ _ _ => rfl⟩⟩
  · refine (Try.slices_Compact_int g 0 cap l w (holds_of_blockI hg (by simpa using ht)) (by omega) hn).mono ?_
    rintro e w' ⟨rfl, q, rfl⟩
    have hc := compact_len l
    have hh := heap_sortedI (n := q) (os := #[]) (Lib.compact l ++ List.replicate (l.length - (Lib.compact l).length) 0).toArray hg
    have hgr := grownBy_sortedI (w := w) (g := g) (n := q) (os := #[]) (Lib.compact l ++ List.replicate (l.length - (Lib.compact l).length) 0).toArray
    rw [grow_empty] at hh hgr
    refine ⟨_, rfl, ⟨by simp, .inr ⟨g, cap, _, rfl, hb, hh, by omega, hm, by simp [putCells, hs], ?_⟩⟩, hgr⟩
    have h2 := take_putCellsI cur (Lib.compact l ++ List.replicate (l.length - (Lib.compact l).length) 0) (by simp; omega)
    have h3 := congrArg (List.take (Lib.compact l).length) h2
    rw [List.take_take, List.map_append, List.take_left' (by simp)] at h3
    rw [Nat.mul_one, ← h3]
    congr 1
    simp only [List.length_append, List.length_replicate]; omega
/-- A row of one's own behind whatever was done to another row, or to new blocks. -/
theorem OwnK.keep {t : TypeId} {k : IntKind} {w w' : World} {base : Nat} {v : Value} {l : List Int} {row : Option Nat} (h : OwnK t k w base v l) (hg : w.grownBy w' row) (hne : v.ownBlock = none ∨ v.ownBlock ≠ row) : OwnK t k w' base v l := World.ownsRow.kept h hg hne
theorem below_own {w w1 w2 : World} {v : Value} {l : List Int} (hb : Below w.heap.size w w1) (ho : OwnI w1 w.heap.size v l) (hg : w1.grownBy w2 v.ownBlock) : Below w.heap.size w w2 := hb.grown hg hb.size (fun j hj => (ho.lt j hj).1)
theorem ordered_any (b : Nat) (m : Nat) (cap : Nat) (ls : List (Value × List Int)) (w : World) (hm : ls.length = m) (hm1 : m ≤ 1000) (hbs : b < w.heap.size) (hr : RowsK w b ls) (hsz : (cat ls).length * 8 ≤ 281474976710656) :
    Calls Try.prog 46 #[.slice (some ⟨b, 0, none⟩) m cap] w fun e w' => ∃ v, e = .returned v ∧ OwnI w' w.heap.size v (Q.ord (cat ls)) ∧ Below w.heap.size w w' := by
  have HC := hide (concat_any b m cap ls w hm hm1 hbs hr hsz)
  have hl : (cat ls).length < 4611686018427387904 := by omega
  have hl2 : ((cat ls).mergeSort fun x y => decide (x ≤ y)).length < 4611686018427387904 := by simpa using hl
  have HS := hide (fun w' v h => sort_own w' w.heap.size v (cat ls) h hl)
  have HK := hide (fun w' v h => compact_own w' w.heap.size v _ h hl2)
  unfold Q.ord
  generalize ((cat ls).mergeSort fun x y => decide (x ≤ y)) = s at *
  generalize cat ls = l at *
  generalize Lib.compact s = r at *
  clear hr hl hl2 hsz hm hm1
  go_enter Try.func46, Try.ntmps46
  go_wp2_with fail
  refine HC.out.mono ?_
  rintro e w1 ⟨v, rfl, own1, hb1⟩
  obtain ⟨av, cv, hv⟩ := own1.shape
  subst hv
  go_wp2_with fail
  refine (HS.out _ _ own1).mono ?_
  rintro e w2 ⟨rfl, own2, hg2⟩
  have hb2 := below_own hb1 own1 hg2
  clear HS HC own1 hg2 hb1
  go_wp2_with fail
  refine (HK.out _ _ own2).mono ?_
  rintro e w3 ⟨v3, rfl, own3, hg3⟩
  have hb3 := below_own hb2 own2 hg3
  obtain ⟨a3, c3, hv⟩ := own3.shape
  subst hv
  clear HK own2 hg3 hb2
  go_wp2
  go_ret
  exact ⟨_, rfl, own3, hb3⟩
/-- Are these rows the same? -/
theorem equalI_any (v1 v2 : Value) (l m : List Int) (w : World) (h1 : RowK .i64 w v1 l) (h2 : RowK .i64 w v2 m) :
    Calls Try.prog 18 #[v1, v2] w fun e w' => e = .returned (.bool (decide (l = m))) ∧ Below w.heap.size w w' := by
  obtain ⟨a1, c1, rfl, ⟨hlc1, hm1, _⟩, hcase1⟩ := h1
  obtain ⟨a2, c2, rfl, ⟨hlc2, hm2, _⟩, hcase2⟩ := h2
  unfold maxLen at hm1 hm2
  by_cases h : l.length = m.length
  · rcases hcase1 with rfl | ⟨p1, o1, rfl, hbs1, hcell1⟩
    · refine (Try.slices_Equal_int_empty a1 a2 c1 m.length c2 w (by omega)).mono ?_
      rintro e w' ⟨rfl, rfl⟩
      have : m = [] := List.length_eq_zero_iff.1 h.symm
      subst this
      exact ⟨by simp, Below.refl _ _⟩
    · rcases hcase2 with rfl | ⟨p2, o2, rfl, hbs2, hcell2⟩
      · have : l = [] := List.length_eq_zero_iff.1 h
        subst this
        refine (Try.slices_Equal_int_empty (some ⟨p1, o1, none⟩) a2 c1 0 c2 w (by omega)).mono ?_
        rintro e w' ⟨rfl, rfl⟩
        exact ⟨by simp, Below.refl _ _⟩
      · refine (Try.slices_Equal_int p1 o1 l.length c1 p2 o2 m.length c2 l m w (Nat.le_refl _) (Nat.le_refl _) (by omega) (by omega) hcell1 hcell2).mono ?_
        rintro e w' ⟨rfl, q, rfl⟩
        refine ⟨?_, ⟨rfl, rfl, rfl, Nat.le_refl _, fun _ _ => rfl⟩⟩
        rw [List.take_length, List.take_length]
        congr 2
        by_cases hlm : l = m <;> simp [hlm]
  · refine (Try.slices_Equal_int_lens a1 a2 l.length c1 m.length c2 w h).mono ?_
    rintro e w' ⟨rfl, rfl⟩
    have : l ≠ m := fun e => h (by rw [e])
    exact ⟨by simp [this], Below.refl _ _⟩
theorem containsI_any (v : Value) (l : List Int) (x : Int) (w : World) (h1 : RowK .i64 w v l) :
    Calls Try.prog 20 #[v, .int .i64 x] w fun e w' => e = .returned (.bool (l.contains x)) ∧ w' = w := by
  obtain ⟨a1, c1, rfl, ⟨hlc1, hm1, _⟩, hcase1⟩ := h1
  unfold maxLen at hm1
  rcases hcase1 with rfl | ⟨p1, o1, rfl, hbs1, hcell1⟩
  · refine (Try.slices_Contains_int_empty a1 c1 x w).mono ?_
    rintro e w' ⟨rfl, rfl⟩
    exact ⟨rfl, rfl⟩
  · refine (Try.slices_Contains_int p1 o1 l.length c1 l x w (Nat.le_refl _) (by omega) hcell1).mono ?_
    rintro e w' ⟨rfl, rfl⟩
    rw [List.take_length]
    exact ⟨rfl, rfl⟩
end Go.Proofs.Ytlghnnmgbdjgoaa
