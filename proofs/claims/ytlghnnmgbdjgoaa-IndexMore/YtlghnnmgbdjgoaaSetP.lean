/- Lists of numbers as sets, without any program: put in order, in both, in one of them, in none. -/
import Derived.Test.YtlghnnmgbdjgoaaKitK
import Derived.Lib.SlicesCompact
namespace Go.Proofs.Ytlghnnmgbdjgoaa
namespace Q
set_option linter.unusedVariables false
/-- Rising, each once. -/
def Asc (l : List Int) : Prop := l.Pairwise (· < ·)
theorem asc_ext {a b : List Int} (ha : Asc a) (hb : Asc b) (h : ∀ x, x ∈ a ↔ x ∈ b) : a = b := by
  induction a generalizing b with
  | nil =>
    cases b with
    | nil => rfl
    | cons y b => exact absurd ((h y).2 (by simp)) (by simp)
  | cons x a ih =>
    cases b with
    | nil => exact absurd ((h x).1 (by simp)) (by simp)
    | cons y b =>
      have ha' := List.pairwise_cons.1 ha
      have hb' := List.pairwise_cons.1 hb
      have hxy : x = y := by
        have h1 := (h x).1 (by simp)
        have h2 := (h y).2 (by simp)
        rcases List.mem_cons.1 h1 with h1 | h1
        · exact h1
        · rcases List.mem_cons.1 h2 with h2 | h2
          · exact h2.symm
          · have := hb'.1 x h1
            have := ha'.1 y h2
            omega
      subst hxy
      congr 1
      refine ih ha'.2 hb'.2 fun z => ?_
      have hz := h z
      simp only [List.mem_cons] at hz
      constructor
      · intro hm
        rcases hz.1 (.inr hm) with rfl | h3
        · have := ha'.1 z hm; omega
        · exact h3
      · intro hm
        rcases hz.2 (.inr hm) with rfl | h3
        · have := hb'.1 z hm; omega
        · exact h3
open Lib in
theorem cup (d : Array Int) (hd : ∀ i j, i < j → j < d.size → d[i]! ≤ d[j]!) (m : Nat) (hm : m ≤ d.size) :
    Asc (compactUpTo d m) ∧ (∀ x, x ∈ compactUpTo d m ↔ ∃ j, j < m ∧ x = d[j]!) := by
  induction m with
  | zero => exact ⟨List.Pairwise.nil, fun x => by simp [compactUpTo]⟩
  | succ m ih =>
    obtain ⟨h1, h2⟩ := ih (by omega)
    rw [compactUpTo_succ]
    by_cases hk : keeps d m = true
    · rw [if_pos hk]
      refine ⟨List.pairwise_append.2 ⟨h1, by simp, fun a ha b hb => ?_⟩, fun x => ?_⟩
      · simp at hb; subst hb
        obtain ⟨j, hj, rfl⟩ := (h2 a).1 ha
        have hk' : m = 0 ∨ d[m]! ≠ d[m - 1]! := by simpa [keeps] using hk
        rcases hk' with h | h
        · omega
        · have e1 := hd (m - 1) m (by omega) (by omega)
          rcases Nat.lt_or_ge j (m - 1) with h3 | h3
          · have := hd j (m - 1) h3 (by omega)
            omega
          · have : j = m - 1 := by omega
            subst this
            omega
      · rw [List.mem_append, h2 x]
        constructor
        · rintro (⟨j, hj, rfl⟩ | h)
          · exact ⟨j, by omega, rfl⟩
          · simp at h; exact ⟨m, by omega, h⟩
        · rintro ⟨j, hj, rfl⟩
          rcases Nat.lt_or_ge j m with h | h
          · exact .inl ⟨j, h, rfl⟩
          · have : j = m := by omega
            subst this; exact .inr (by simp)
    · rw [if_neg hk, List.append_nil]
      refine ⟨h1, fun x => ?_⟩
      rw [h2 x]
      have hk' : ¬ (m = 0 ∨ d[m]! ≠ d[m - 1]!) := by simpa [keeps] using hk
      have h0 : m ≠ 0 := fun h => hk' (.inl h)
      have h3 : d[m]! = d[m - 1]! := Classical.byContradiction fun h => hk' (.inr h)
      constructor
      · rintro ⟨j, hj, rfl⟩; exact ⟨j, by omega, rfl⟩
      · rintro ⟨j, hj, rfl⟩
        rcases Nat.lt_or_ge j m with h | h
        · exact ⟨j, h, rfl⟩
        · have : j = m := by omega
          subst this; exact ⟨j - 1, by omega, h3⟩
/-- What 'ordered' makes of a list. -/
def ord (l : List Int) : List Int := Lib.compact (l.mergeSort fun x y => decide (x ≤ y))
theorem srt_pair (l : List Int) : (l.mergeSort fun x y => decide (x ≤ y)).Pairwise (· ≤ ·) := by
  have := List.pairwise_mergeSort (le := fun x y : Int => decide (x ≤ y)) (fun a b c h1 h2 => by simp only [decide_eq_true_eq] at *; omega) (fun a b => by simp only [Bool.or_eq_true, decide_eq_true_eq]; omega) l
  exact this.imp (fun h => by simpa using h)
theorem ord_both (l : List Int) : Asc (ord l) ∧ ∀ x, x ∈ ord l ↔ x ∈ l := by
  have hp := srt_pair l
  have hm : ∀ x, x ∈ (l.mergeSort fun x y => decide (x ≤ y)) ↔ x ∈ l := fun x => List.mem_mergeSort
  unfold ord
  generalize (l.mergeSort fun x y => decide (x ≤ y)) = s at *
  obtain ⟨h1, h2⟩ := cup s.toArray (fun i j hij hj => by
    have hj' : j < s.length := by simpa using hj
    have := List.pairwise_iff_getElem.1 hp i j (by omega) hj' hij
    simpa [hj', show i < s.length by omega] using this) s.length (by simp)
  refine ⟨h1, fun x => ?_⟩
  unfold Lib.compact
  rw [h2 x, ← hm x, List.mem_iff_getElem]
  constructor
  · rintro ⟨j, hj, rfl⟩; exact ⟨j, hj, by simp [hj]⟩
  · rintro ⟨j, hj, rfl⟩; exact ⟨j, hj, by simp [hj]⟩
theorem ord_asc (l : List Int) : Asc (ord l) := (ord_both l).1
theorem mem_ord (l : List Int) (x : Int) : x ∈ ord l ↔ x ∈ l := (ord_both l).2 x
theorem ord_len (l : List Int) : (ord l).length ≤ l.length := by
  unfold ord Lib.compact Lib.compactUpTo
  rw [List.length_map]
  refine Nat.le_trans (List.length_filter_le _ _) ?_
  simp
theorem ord_nil : ord [] = [] := asc_ext (ord_asc _) List.Pairwise.nil (fun x => by rw [mem_ord])
/-- In both. -/
def both (a b : List Int) : List Int := a.filter (fun x => b.contains x)
theorem both_asc {a b : List Int} (h : Asc a) : Asc (both a b) := h.filter _
theorem mem_both (a b : List Int) (x : Int) : x ∈ both a b ↔ x ∈ a ∧ x ∈ b := by simp [both]
theorem both_len (a b : List Int) : (both a b).length ≤ a.length := List.length_filter_le _ _
theorem both_nil_l (b : List Int) : both [] b = [] := rfl
theorem both_nil_r (a : List Int) : both a [] = [] := by simp [both]
theorem both_lt {x y : Int} {a b : List Int} (hb : Asc (y :: b)) (h : x < y) : both (x :: a) (y :: b) = both a (y :: b) := by
  have hn : (y :: b).contains x = false := by
    simp only [List.contains_eq_mem, decide_eq_false_iff_not]
    intro hm
    rcases List.mem_cons.1 hm with rfl | hm
    · omega
    · have := (List.pairwise_cons.1 hb).1 x hm; omega
  unfold both; rw [List.filter_cons_of_neg (by rw [hn]; simp)]
theorem filter_same {p q : Int → Bool} {l : List Int} (h : ∀ z ∈ l, p z = q z) : l.filter p = l.filter q := List.filter_congr h
theorem both_gt {x y : Int} {a b : List Int} (ha : Asc (x :: a)) (h : y < x) : both (x :: a) (y :: b) = both (x :: a) b := by
  unfold both
  refine filter_same fun z hz => ?_
  have : z ≠ y := by
    rcases List.mem_cons.1 hz with rfl | hz
    · omega
    · have := (List.pairwise_cons.1 ha).1 z hz; omega
  simp [this]
theorem both_eq {x : Int} {a b : List Int} (ha : Asc (x :: a)) : both (x :: a) (x :: b) = x :: both a b := by
  unfold both
  rw [List.filter_cons_of_pos (by simp)]
  congr 1
  refine filter_same fun z hz => ?_
  have : z ≠ x := by have := (List.pairwise_cons.1 ha).1 z hz; omega
  simp [this]
theorem asc_tail {x : Int} {a : List Int} (h : Asc (x :: a)) : Asc a := (List.pairwise_cons.1 h).2
/-- What And, Or and Not answer. -/
def andL (a b : List Int) : List Int := both (ord a) (ord b)
def orL (a b : List Int) : List Int := ord (a ++ b)
def upTo (n : Nat) : List Int := (List.range n).map (fun i : Nat => (i : Int))
def notL (n : Nat) (a : List Int) : List Int := (upTo n).filter (fun x => !a.contains x)
theorem andL_asc (a b : List Int) : Asc (andL a b) := both_asc (ord_asc a)
theorem orL_asc (a b : List Int) : Asc (orL a b) := ord_asc _
theorem upTo_asc (n : Nat) : Asc (upTo n) := by
  unfold upTo Asc
  rw [List.pairwise_map]
  exact List.pairwise_lt_range.imp (fun h => by omega)
theorem notL_asc (n : Nat) (a : List Int) : Asc (notL n a) := (upTo_asc n).filter _
theorem mem_andL (a b : List Int) (x : Int) : x ∈ andL a b ↔ x ∈ a ∧ x ∈ b := by unfold andL; rw [mem_both, mem_ord, mem_ord]
theorem mem_orL (a b : List Int) (x : Int) : x ∈ orL a b ↔ x ∈ a ∨ x ∈ b := by unfold orL; rw [mem_ord, List.mem_append]
theorem mem_upTo (n : Nat) (x : Int) : x ∈ upTo n ↔ 0 ≤ x ∧ x < n := by
  unfold upTo
  simp only [List.mem_map, List.mem_range]
  constructor
  · rintro ⟨i, hi, rfl⟩; omega
  · rintro ⟨h1, h2⟩; exact ⟨x.toNat, by omega, by omega⟩
theorem mem_notL (n : Nat) (a : List Int) (x : Int) : x ∈ notL n a ↔ (0 ≤ x ∧ x < n) ∧ x ∉ a := by
  unfold notL
  rw [List.mem_filter, mem_upTo]
  simp
theorem andL_len (a b : List Int) : (andL a b).length ≤ a.length := Nat.le_trans (both_len _ _) (ord_len a)
theorem andL_len2 (a b : List Int) : (andL a b).length ≤ b.length := by
  have e : andL a b = andL b a := asc_ext (andL_asc _ _) (andL_asc _ _) (fun x => by rw [mem_andL, mem_andL, and_comm])
  rw [e]; exact andL_len b a
theorem orL_len (a b : List Int) : (orL a b).length ≤ a.length + b.length := by have := ord_len (a ++ b); rw [List.length_append] at this; exact this
theorem upTo_len (n : Nat) : (upTo n).length = n := by simp [upTo]
theorem notL_len (n : Nat) (a : List Int) : (notL n a).length ≤ n := by
  have := List.length_filter_le (fun x => !a.contains x) (upTo n)
  rw [upTo_len] at this
  exact this
theorem upTo_succ (n : Nat) : upTo (n + 1) = upTo n ++ [(n : Int)] := by unfold upTo; rw [List.range_succ, List.map_append]; rfl
theorem notL_succ (n : Nat) (a : List Int) : notL (n + 1) a = notL n a ++ (if a.contains (n : Int) then [] else [(n : Int)]) := by
  unfold notL
  rw [upTo_succ, List.filter_append]
  congr 1
  cases h : a.contains (n : Int)
  · rw [List.filter_cons_of_pos (by rw [h]; rfl)]; rfl
  · rw [List.filter_cons_of_neg (by rw [h]; simp)]; rfl
end Q
end Go.Proofs.Ytlghnnmgbdjgoaa
