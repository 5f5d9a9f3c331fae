/- Plain: how one sample is put into samples by rising times. -/
import Derived.Test.YtfjbdgkdkbcnhaaChunkP
namespace Go.Proofs.Ytfjbdgkdkbcnhaa
namespace P
/-- A sample that is not there is put in its place. -/
theorem mrg_ins (O : List (Int × Int)) (s : Int × Int) : ∀ (i : Nat), i ≤ O.length → (∀ j, j < i → (O.getD j (0, 0)).1 < s.1) → (i = O.length ∨ s.1 < (O.getD i (0, 0)).1) → mrg O [s] = O.take i ++ ([s] ++ O.drop i) := by
  induction O with
  | nil => intro i hi _ _; simp at hi; subst hi; rw [mrg_nil']; rfl
  | cons x O ih =>
    intro i hi hlo hhi
    cases i with
    | zero =>
      rcases hhi with h | h
      · simp at h
      · simp at h
        rw [mrg_gt _ _ h, mrg_nil]; rfl
    | succ i =>
      have h0 : x.1 < s.1 := by have := hlo 0 (by omega); simpa using this
      rw [mrg_lt _ _ h0, ih i (by simpa using hi) (fun j hj => by have := hlo (j + 1) (by omega); simpa using this) (by simpa using hhi)]
      rfl
/-- Of a time that is there the greater measure stays. -/
theorem mrg_put (O : List (Int × Int)) (s : Int × Int) : ∀ (i : Nat), i < O.length → (∀ j, j < i → (O.getD j (0, 0)).1 < s.1) → (O.getD i (0, 0)).1 = s.1 → mrg O [s] = O.set i ((O.getD i (0, 0)).1, max (O.getD i (0, 0)).2 s.2) := by
  induction O with
  | nil => intro i hi; simp at hi
  | cons x O ih =>
    intro i hi hlo he
    cases i with
    | zero =>
      simp at he
      rw [mrg_eq _ _ he, mrg_nil]; simp
    | succ i =>
      have h0 : x.1 < s.1 := by have := hlo 0 (by omega); simpa using this
      rw [mrg_lt _ _ h0, ih i (by simpa using hi) (fun j hj => by have := hlo (j + 1) (by omega); simpa using this) (by simpa using he)]
      simp
theorem mrg_snoc (b : List (Int × Int)) (s : Int × Int) (h : ∀ x ∈ b, x.1 < s.1) : mrg b [s] = b ++ [s] := by
  induction b with
  | nil => rw [mrg_nil']; rfl
  | cons x b ih =>
    rw [mrg_lt _ _ (h x List.mem_cons_self), ih fun y hy => h y (List.mem_cons_of_mem _ hy)]
    rfl
/-- One sample more. -/
theorem mrg_step {a b : List (Int × Int)} (ha : Ris a) (hb : Ris b) (k : Nat) (hk : k < b.length) : mrg (mrg a (b.take k)) [b.getD k (0, 0)] = mrg a (b.take (k + 1)) := by
  have hbk : Ris (b.take k) := hb.sublist (List.take_sublist k b)
  have e : b.getD k (0, 0) = b[k] := by simp [List.getD_eq_getElem?_getD, List.getElem?_eq_getElem hk]
  have hall : ∀ x ∈ b.take k, x.1 < (b.getD k (0, 0)).1 := by
    intro x hx
    obtain ⟨j, hj, rfl⟩ := List.mem_iff_getElem.1 hx
    simp at hj
    have := ris_at hb (show j < k by omega) hk
    simpa [List.getD_eq_getElem?_getD, List.getElem?_eq_getElem (show j < b.length by omega)] using this
  have hone : Ris [b.getD k (0, 0)] := List.pairwise_singleton _ _
  rw [mrg_assoc ha hbk hone, mrg_snoc _ _ hall, e, ← List.take_succ_eq_append_getElem hk]
/-- What stands at a place is the time that is asked for, or is above it. -/
theorem set_same {O : List (Int × Int)} {i : Nat} (hi : i < O.length) {m : Int} (h : m = (O.getD i (0, 0)).2) : O.set i ((O.getD i (0, 0)).1, m) = O := by
  apply List.ext_getElem
  · simp
  · intro j h1 h2
    rw [List.getElem_set]
    split
    · rename_i e
      subst e
      rw [h]
      simp [List.getD_eq_getElem?_getD, List.getElem?_eq_getElem hi]
    · rfl
end P
end Go.Proofs.Ytfjbdgkdkbcnhaa
