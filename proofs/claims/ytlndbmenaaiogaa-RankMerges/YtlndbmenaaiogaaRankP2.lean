/- Plain: how a list is carried step by step; those at each second place, one by one. -/
import Derived.Test.YtlndbmenaaiogaaRankP
namespace Go.Proofs.Ytlndbmenaaiogaa
set_option linter.unusedVariables false
namespace P
theorem car_go (j : Nat) (lv : List (List Int)) (l : List Int) (y : Int) (m : List Int) (h : lv[j]? = some (y :: m)) :
    car lv l j = ((car (lv.set j []) (halve (y :: m) l) (j + 1)).1, 2 ^ j + (car (lv.set j []) (halve (y :: m) l) (j + 1)).2) := by
  induction j generalizing lv with
  | zero =>
    cases lv with
    | nil => simp at h
    | cons x r =>
      simp at h; subst h
      simp only [car, up, List.set_cons_zero, Nat.pow_zero]
  | succ j ih =>
    cases lv with
    | nil => simp at h
    | cons x r =>
      have h2 : r[j]? = some (y :: m) := by simpa using h
      have := ih r h2
      rw [List.set_cons_succ]
      show (x :: (car r l j).1, 2 * (car r l j).2) = _
      rw [this]
      simp only [car, Nat.pow_succ]
      congr 1
      omega
theorem car_stop (j : Nat) (lv : List (List Int)) (l : List Int) (i : Nat) (h : lv.getD j [] = []) (hi : j < lv.length ∧ i = 0 ∨ lv.length ≤ j ∧ lv.length + i = j + 1) :
    (lv ++ List.replicate i []).set j l = (car lv l j).1 ∧ (car lv l j).2 = 0 := by
  induction j generalizing lv i with
  | zero =>
    cases lv with
    | nil =>
      obtain rfl : i = 1 := by simp at hi; omega
      simp [car, up]
    | cons x r =>
      obtain rfl : i = 0 := by simp at hi; omega
      simp at h; subst h
      simp [car, up]
  | succ j ih =>
    cases lv with
    | nil =>
      obtain rfl : i = j + 1 + 1 := by simp at hi; omega
      have := ih [] (j + 1) (by simp) (.inr ⟨by simp, by simp⟩)
      simp only [List.nil_append] at this ⊢
      rw [List.replicate_succ, List.set_cons_succ, this.1]
      refine ⟨by simp [car], by simp [car, this.2]⟩
    | cons x r =>
      have := ih r i (by simpa using h) (by simp only [List.length_cons] at hi; omega)
      rw [List.cons_append, List.set_cons_succ, this.1]
      refine ⟨by simp [car], by simp [car, this.2]⟩
theorem odds_step (l : List Int) (j : Nat) (h : 2 * j + 1 < l.length) : odds (l.take (2 * (j + 1))) = odds (l.take (2 * j)) ++ [l.getD (2 * j + 1) 0] := by
  have e : l.take (2 * (j + 1)) = (l.take (2 * j) ++ [l.getD (2 * j) 0]) ++ [l.getD (2 * j + 1) 0] := by
    rw [show 2 * (j + 1) = 2 * j + 1 + 1 by omega, List.take_add_one, List.take_add_one, List.getElem?_eq_getElem h, List.getElem?_eq_getElem (show 2 * j < l.length by omega)]
    simp [List.getD_eq_getElem?_getD, List.getElem?_eq_getElem h, List.getElem?_eq_getElem (show 2 * j < l.length by omega)]
  rw [e, odds_two _ _ j (by simp; omega), odds_one _ _ j (by simp; omega)]
theorem odds_end (l : List Int) (j : Nat) (h1 : 2 * j ≤ l.length) (h2 : l.length ≤ 2 * j + 1) : odds (l.take (2 * j)) = odds l := by
  rcases Nat.lt_or_ge (2 * j) l.length with h | h
  · have e : l = l.take (2 * j) ++ [l.getD (2 * j) 0] := by
      conv => lhs; rw [← List.take_length (l := l), show l.length = 2 * j + 1 by omega, List.take_add_one, List.getElem?_eq_getElem h]
      simp [List.getD_eq_getElem?_getD, List.getElem?_eq_getElem h]
    conv => rhs; rw [e]
    rw [odds_one _ _ j (by simp; omega)]
  · rw [List.take_of_length_le h]
theorem car_slack_mono (lv : List (List Int)) (l : List Int) (j : Nat) : 0 ≤ (car lv l j).2 := Nat.zero_le _
/-- Inserted where it belongs: that is the list in order. -/
theorem ins_at {l : List Int} (hl : Inc l) (v : Int) : (l.take (l.countP (· < v))) ++ [v] ++ l.drop (l.countP (· < v)) = ins v l := by
  have key : ∀ l : List Int, Inc l → Inc ((l.take (l.countP (· < v))) ++ [v] ++ l.drop (l.countP (· < v))) := by
    intro l
    induction l with
    | nil => intro _; simp [Inc]
    | cons x r ih =>
      intro h
      by_cases hx : x < v
      · rw [List.countP_cons_of_pos (by simpa using hx), List.take_succ_cons, List.drop_succ_cons, List.cons_append, List.cons_append]
        refine List.pairwise_cons.2 ⟨fun z hz => ?_, ih h.tail⟩
        simp only [List.append_assoc, List.mem_append, List.mem_singleton] at hz
        rcases hz with hz | hz | hz
        · exact h.head z (List.mem_of_mem_take hz)
        · omega
        · exact h.head z (List.mem_of_mem_drop hz)
      · have h0 : (x :: r).countP (· < v) = 0 := by
          rw [List.countP_eq_zero]
          intro z hz
          simp only [decide_eq_true_eq]
          rcases List.mem_cons.1 hz with rfl | hz
          · exact hx
          · have := h.head z hz; omega
        rw [h0, List.take_zero, List.drop_zero, List.nil_append]
        refine List.pairwise_cons.2 ⟨fun z hz => ?_, h⟩
        rcases List.mem_cons.1 hz with rfl | hz
        · omega
        · have := h.head z hz; omega
  refine (srt_of (key l hl) ?_).symm
  rw [List.append_assoc]
  refine (List.perm_middle).trans (List.Perm.cons v ?_)
  show (l.take (l.countP (· < v)) ++ l.drop (l.countP (· < v))).Perm l
  rw [List.take_append_drop]
end P
end Go.Proofs.Ytlndbmenaaiogaa
