/- Several texts in one. -/
import Derived.Test.YtcaidfffmllfeaaKitHAll
import Derived.Test.YtcaidfffmllfeaaShelfAll
import Derived.Sort.OwnSorted
import Derived.Lib.SlicesCompact
import Derived.Lib.RowBridge
/- Rows of texts: cloned, sorted, and each kept once. -/
namespace Go.Proofs.Ytcaidfffmllfeaa
open Go.RowKit Go.Sort
set_option linter.unusedVariables false
/-- The bytes of texts. -/
def txb (l : List ByteArray) : List (List UInt8) := l.map fun x => x.data.toList
/-- Texts that the call itself made. -/
abbrev OwnT (w : World) (base : Nat) (v : Value) (ss : List (List UInt8)) : Prop := w.ownsRow base 9 1 v ss.length (ss.map encStr)
theorem encStr_ba (x : ByteArray) : encStr x.data.toList = .string x := by cases x; rfl
theorem txb_enc (l : List ByteArray) : (txb l).map encStr = l.map Value.string := by
  unfold txb; rw [List.map_map]; exact List.map_congr_left fun x _ => encStr_ba x
theorem cloneT_any (v : Value) (l : List ByteArray) (w : World) (hr : RowT w v l) (hn : l.length * 16 ≤ 140737488355328) :
    Calls Try.prog 23 #[v] w fun e w' => ∃ v', e = .returned v' ∧ OwnT w' w.heap.size v' (txb l) ∧ Below w.heap.size w w' := by
  have hl : (txb l).length = l.length := by simp [txb]
  obtain ⟨a, cap, rfl, ⟨hlc, hmax, hnn⟩, hcase⟩ := hr
  rcases hcase with h | ⟨b, off, rfl, hbs, hcell⟩
  · subst h
    cases a with
    | none =>
      refine (Try.slices_Clone_string_nil 0 cap w).mono ?_
      rintro e w' ⟨rfl, rfl⟩
      exact ⟨_, rfl, World.ownsRow_nil _ _ _ _, Below.refl _ _⟩
    | some ad =>
      refine (Try.slices_Clone_string_zero ad cap w).mono ?_
      rintro e w' ⟨v', rfl, ho, _, hb⟩
      exact ⟨v', rfl, ho, hb⟩
  · refine (Try.slices_Clone_string b off l.length cap l w (Nat.le_refl _) hn fun j hj => ?_).mono ?_
    · obtain ⟨x, hx⟩ : ∃ x, l[j]? = some x := ⟨_, List.getElem?_eq_getElem hj⟩
      rw [RowT.at hcell hx, (by simp [List.getD_eq_getElem?_getD, hx] : l.getD j ByteArray.empty = x)]
    · rintro e w' ⟨v', rfl, ho, _, hb⟩
      refine ⟨v', rfl, ?_, hb⟩
      rw [List.take_length] at ho
      show World.ownsRow _ _ _ _ _ (txb l).length _
      rw [hl, txb_enc]; exact ho
abbrev srtT (ss : List (List UInt8)) : List (List UInt8) := ss.mergeSort fun x y => decide (x ≤ y)
theorem srtT_len (ss : List (List UInt8)) : (srtT ss).length = ss.length := List.length_mergeSort ss
theorem sortT_own (w : World) (base : Nat) (v : Value) (l : List (List UInt8)) (h : OwnT w base v l) (hl : l.length < 4611686018427387904) :
    Calls Try.prog 24 #[v] w fun e w' => e = .returned (.tuple #[]) ∧ OwnT w' base v (srtT l) ∧ w.grownBy w' v.ownBlock := by
  rcases h.2 with ⟨rfl, h0⟩ | ⟨g, cap, cur, rfl, hb, hg, hn, hm, hs, ht⟩
  · obtain rfl : l = [] := List.length_eq_zero_iff.1 h0
    refine (Try.slices_Sort_string_none none 0 w).mono ?_
    rintro e w' ⟨rfl, rfl⟩
    exact ⟨rfl, by simpa [srtT] using h, ⟨rfl, rfl, rfl, Nat.le_refl _, fun _ _ _ => rfl⟩⟩
  · refine (Try.slices_Sort_string g 0 cap l w (holds_of_block hg (by simpa using ht)) (Array.getElem?_eq_some_iff.1 hg).1 hl).mono ?_
    rintro e w' ⟨rfl, n, os, rfl⟩
    refine ⟨rfl, ?_, grownBy_sorted _⟩
    have := ownsRow_sorted (n := n) (os := os) (srtT_len l) hb hg hn hm hs
    show World.ownsRow _ _ _ _ _ (srtT l).length _
    rw [srtT_len]; exact this
theorem below_ownT {w w1 w2 : World} {v : Value} {l : List (List UInt8)} (hb : Below w.heap.size w w1) (ho : OwnT w1 w.heap.size v l) (hg : w1.grownBy w2 v.ownBlock) : Below w.heap.size w w2 := hb.grown hg hb.size (fun j hj => (World.ownsRow.lt ho j hj).1)
/-- How many are left where each is kept once. -/
theorem compactT_own (w : World) (base : Nat) (v : Value) (l : List (List UInt8)) (h : OwnT w base v l) :
    Calls Try.prog 25 #[v] w fun e w' => ∃ a c, e = .returned (.slice a (Lib.compact l).length c) ∧ w.grownBy w' v.ownBlock := by
  rcases h.2 with ⟨rfl, h0⟩ | ⟨g, cap, cur, rfl, hb, hg, hn, hm, hs, ht⟩
  · obtain rfl : l = [] := List.length_eq_zero_iff.1 h0
    refine (Try.slices_Compact_string_empty none 0 w).mono ?_
    rintro e w' ⟨rfl, rfl⟩
    exact ⟨none, 0, rfl, ⟨rfl, rfl, rfl, Nat.le_refl _, fun _ _ _ => rfl⟩⟩
  · unfold maxLen at hm
    refine (Try.slices_Compact_string g 0 cap l w (holds_of_block hg (by simpa using ht)) (by omega) hn).mono ?_
    rintro e w' ⟨rfl, q, rfl⟩
    refine ⟨_, _, rfl, ?_⟩
    have := grownBy_sorted (w := w) (g := g) (n := q) (os := #[]) (Lib.compact l ++ List.replicate (l.length - (Lib.compact l).length) []).toArray
    rwa [grow_empty] at this
theorem mem_upTo {d : Array (List UInt8)} {m : Nat} (j : Nat) (hj : j < m) : d[j]! ∈ Lib.compactUpTo d m := by
  induction j with
  | zero => unfold Lib.compactUpTo; exact List.mem_map.2 ⟨0, List.mem_filter.2 ⟨List.mem_range.2 hj, by simp [Lib.keeps]⟩, rfl⟩
  | succ j ih =>
    cases hk : Lib.keeps d (j + 1) with
    | true => unfold Lib.compactUpTo; exact List.mem_map.2 ⟨j + 1, List.mem_filter.2 ⟨List.mem_range.2 hj, hk⟩, rfl⟩
    | false =>
      have e : d[j + 1]! = d[j]! := by
        unfold Lib.keeps at hk
        rw [decide_eq_false_iff_not] at hk
        exact Classical.byContradiction fun h => hk (.inr (by simpa using h))
      rw [e]; exact ih (by omega)
theorem mem_compact {zs : List (List UInt8)} {x : List UInt8} (h : x ∈ zs) : x ∈ Lib.compact zs := by
  obtain ⟨j, hj, rfl⟩ := List.getElem_of_mem h
  have := mem_upTo (d := zs.toArray) j hj
  rw [getElem!_pos zs.toArray j (by simpa using hj)] at this
  exact this
/-- What is left has all of them. -/
theorem compact_all {l : List ByteArray} {x : ByteArray} (h : x ∈ l) : x ∈ (Lib.compact (srtT (txb l))).map fun u => (⟨u.toArray⟩ : ByteArray) := by
  refine List.mem_map.2 ⟨x.data.toList, mem_compact ((List.mergeSort_perm _ _).mem_iff.2 (List.mem_map.2 ⟨x, h, rfl⟩)), ?_⟩
  cases x; rfl
end Go.Proofs.Ytcaidfffmllfeaa
