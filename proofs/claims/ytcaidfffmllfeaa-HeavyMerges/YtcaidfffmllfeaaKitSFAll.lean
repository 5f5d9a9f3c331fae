/- Several texts in one. -/
import Derived.Test.YtcaidfffmllfeaaKitXAll
import Derived.Shelf.GgSortFunc.InsertionK
import Derived.Sort.OwnSortedInts
/- Rows of structs of the call's own, behind the library's sorting by a function. -/
namespace Go.Proofs.Ytcaidfffmllfeaa
open Go.RowKit Go.Sort
set_option linter.unusedVariables false
theorem flatK_list {α : Type} [Inhabited α] {e : α → List Value} {k : Nat} (he : ∀ x, (e x).length = k) (hk : 0 < k) (l : List α) : flatK e k l.toArray = (l.flatMap e).toArray := by
  refine ext_get! (by simp [flat_len he]) fun t ht => ?_
  have ht' : t < l.length * k := by simpa using ht
  rw [get_flatK _ _ _ _ (by simpa using ht')]
  have hj : t / k < l.length := by rw [Nat.div_lt_iff_lt_mul hk]; exact ht'
  have hi : t % k < k := Nat.mod_lt _ hk
  have h2 := flat_at he l (t / k) (t % k) _ ((e l[t / k])[t % k]'(by rw [he]; exact hi)) (List.getElem?_eq_getElem hj) (List.getElem?_eq_getElem _)
  rw [Nat.mul_comm, Nat.div_add_mod] at h2
  have e1 : l.toArray[t / k]! = l[t / k] := by simp [hj]
  rw [e1, getElem!_pos (e l[t / k]) (t % k) (by rw [he]; exact hi)]
  have ht2 : t < (l.flatMap e).length := by rw [flat_len he]; exact ht'
  rw [List.getElem?_eq_getElem ht2] at h2
  have h3 := Option.some.inj h2
  rw [← h3]
  generalize l.flatMap e = F at ht2
  rw [getElem!_pos F.toArray t (by simpa using ht2)]
  rfl
theorem holdsK_block {α : Type} [Inhabited α] {e : α → List Value} {k : Nat} (he : ∀ x, (e x).length = k) (hk : 0 < k) {w : World} {g : Nat} {cur : Array Value} {t : TypeId} (l : List α) (hb : w.heap[g]? = some (.cells cur t (0, 0)))
    (ht : cur.toList.take (l.length * k) = l.flatMap e) : HoldsK e k w g 0 l.toArray := by
  unfold HoldsK
  rw [flatK_list he hk]
  intro j hj
  have hj' : j < (l.flatMap e).length := by simpa using hj
  refine ⟨?_, by simp [World.frozen?, hb]⟩
  have hjk : j < l.length * k := by rw [flat_len he] at hj'; exact hj'
  have h1 : (cur.toList.take (l.length * k))[j]? = (l.flatMap e)[j]? := by rw [ht]
  rw [List.getElem?_take_of_lt hjk, List.getElem?_eq_getElem hj', Array.getElem?_toList] at h1
  simp only [World.cell?, hb, Nat.zero_add, Option.isSome_none, Bool.false_eq_true, if_false]
  rw [h1]
  generalize l.flatMap e = F at hj'
  rw [getElem!_pos F.toArray j (by simpa using hj')]
  rfl
theorem heap_sortedK {α : Type} [Inhabited α] {e : α → List Value} {k : Nat} {w : World} {g n : Nat} {os : Array Obj} {cur : Array Value} {t : TypeId} (d : Array α) (hb : w.heap[g]? = some (.cells cur t (0, 0))) :
    (sortWorldK e k w g 0 n d os).heap[g]? = some (.cells (putCells id 0 (flatK e k d) cur) t (0, 0)) := by
  have hg : g < w.heap.size := (Array.getElem?_eq_some_iff.1 hb).1
  unfold sortWorldK putRowK
  rw [heap_grow_old _ _ (by simpa using hg)]
  simp [putRow, mapBlock, Sort.ahead, Array.getElem?_modify, hb, onCells]
theorem grownBy_sortedK {α : Type} [Inhabited α] {e : α → List Value} {k : Nat} {w : World} {g n : Nat} {os : Array Obj} (d : Array α) : w.grownBy (sortWorldK e k w g 0 n d os) (some g) := by
  unfold sortWorldK putRowK
  refine ⟨rfl, rfl, rfl, by simp, fun j hj hne => ?_⟩
  rw [heap_grow_old _ _ (by simpa using hj)]
  have : g ≠ j := fun e => hne (by rw [e])
  simp [putRow, mapBlock, Sort.ahead, Array.getElem?_modify, this]
theorem take_putCellsK (cur : Array Value) (vs : List Value) (h : vs.length ≤ cur.size) : (putCells id 0 vs.toArray cur).toList.take vs.length = vs := by
  apply List.ext_getElem?
  intro j
  by_cases hj : j < vs.length
  · rw [List.getElem?_take_of_lt hj, Array.getElem?_toList]
    simp [putCells, hj, show j < cur.size by omega]
  · rw [List.getElem?_take_eq_none (by omega), List.getElem?_eq_none (by omega)]
/-- Behind the sort the same slice owns the sorted list. -/
theorem own_sortedK {α : Type} [Inhabited α] {e : α → List Value} {k : Nat} (he : ∀ x, (e x).length = k) (hk : 0 < k) {w : World} {base g cap n : Nat} {t : TypeId} {os : Array Obj} {cur : Array Value} {l l' : List α} (hl : l'.length = l.length) (hbase : base ≤ g)
    (hb : w.heap[g]? = some (.cells cur t (0, 0))) (h1 : l.length ≤ cap) (h2 : cap ≤ maxLen) (h3 : cur.size = cap * k) :
    OwnX e k t (sortWorldK e k w g 0 n l'.toArray os) base (.slice (some ⟨g, 0, none⟩) l.length cap) l' := by
  refine ⟨flat_len he l', .inr ⟨g, cap, _, by rw [hl], hbase, heap_sortedK _ hb, by omega, h2, by simp [putCells, h3], ?_⟩⟩
  rw [flatK_list he hk, ← flat_len he]
  refine take_putCellsK cur _ ?_
  rw [flat_len he, h3, hl]
  exact Nat.mul_le_mul_right _ h1
/-- What the library says of a sorted array, of lists. -/
theorem permIn_list {α : Type} [Inhabited α] {d d' : Array α} (h : PermIn 0 d.size d d') : d'.toList.Perm d.toList := by
  obtain ⟨h1, _, h3⟩ := h
  have e1 : d'.extract 0 d.size = d' := by rw [← h1]; simp
  rw [e1] at h3
  simpa using h3
theorem sortedIn_list {α : Type} [Inhabited α] {lt : α → α → Bool} {d : Array α} {n : Nat} (h : SortedIn lt 0 n d) (hn : n = d.size) : d.toList.Pairwise fun x y => lt y x = false := by
  refine List.pairwise_iff_getElem.2 fun i j hi hj hij => ?_
  have h1 : i < d.size := by simpa using hi
  have h2 : j < d.size := by simpa using hj
  have := h i j (Nat.zero_le _) hij (by omega)
  rw [getElem!_pos d i h1, getElem!_pos d j h2] at this
  simpa using this
end Go.Proofs.Ytcaidfffmllfeaa
