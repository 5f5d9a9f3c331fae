/- Plain: the order of texts; of labels without an error the first of a name is its last. -/
import Derived.Test.YtlghnnmgbdjgoaaLabelF
namespace Go.Proofs.Ytlghnnmgbdjgoaa
namespace P
set_option linter.unusedVariables false
theorem less_irr (a : List UInt8) : Op.bytesLess a a = false := by
  induction a with
  | nil => rfl
  | cons c a ih => simp [Op.bytesLess, ih]
theorem less_trans {a b c : List UInt8} (h1 : Op.bytesLess a b = true) (h2 : Op.bytesLess b c = true) : Op.bytesLess a c = true := by
  induction a generalizing b c with
  | nil =>
    cases c with
    | nil => cases b <;> simp [Op.bytesLess] at h2
    | cons z c => rfl
  | cons x a ih =>
    cases b with
    | nil => simp [Op.bytesLess] at h1
    | cons y b =>
      cases c with
      | nil => simp [Op.bytesLess] at h2
      | cons z c =>
        simp only [Op.bytesLess, Bool.or_eq_true, Bool.and_eq_true, decide_eq_true_eq, beq_iff_eq] at h1 h2 ⊢
        rcases h1 with h1 | ⟨rfl, h1⟩
        · rcases h2 with h2 | ⟨rfl, h2⟩
          · exact .inl (UInt8.lt_trans h1 h2)
          · exact .inl h1
        · rcases h2 with h2 | ⟨rfl, h2⟩
          · exact .inl h2
          · exact .inr ⟨rfl, ih h1 h2⟩
theorem less_total (a b : List UInt8) : Op.bytesLess a b = true ∨ a = b ∨ Op.bytesLess b a = true := by
  induction a generalizing b with
  | nil =>
    cases b with
    | nil => exact .inr (.inl rfl)
    | cons y b => exact .inl rfl
  | cons x a ih =>
    cases b with
    | nil => exact .inr (.inr rfl)
    | cons y b =>
      simp only [Op.bytesLess, Bool.or_eq_true, Bool.and_eq_true, decide_eq_true_eq, beq_iff_eq]
      rcases UInt8.lt_or_lt_of_ne (a := x) (b := y) with h
      by_cases hxy : x = y
      · subst hxy
        rcases ih b with h | h | h
        · exact .inl (.inr ⟨rfl, h⟩)
        · exact .inr (.inl (by rw [h]))
        · exact .inr (.inr (.inr ⟨rfl, h⟩))
      · rcases h hxy with h | h
        · exact .inl (.inl h)
        · exact .inr (.inr (.inl h))
/-- What is not at or below y is above it. -/
theorem leS_not {a b : ByteArray} (h : leS a b = false) : Op.bytesLess b.toList a.toList = true := by
  unfold leS at h
  rw [Bool.or_eq_false_iff, beq_eq_false_iff_ne] at h
  rcases less_total a.toList b.toList with h1 | h1 | h1
  · rw [h.1] at h1; cases h1
  · exact absurd h1 h.2
  · exact h1
theorem chkF_above {p : ByteArray} {l : List Lb} (h : chkF (some p) l = 0) : ∀ x ∈ l, Op.bytesLess p.toList x.1.toList = true := by
  induction l generalizing p with
  | nil => intro x hx; cases hx
  | cons y l ih =>
    unfold chkF at h
    split at h
    · cases h
    · split at h
      · cases h
      · split at h
        · cases h
        · rename_i h1 h2 h3
          have hy : Op.bytesLess p.toList y.1.toList = true := leS_not (by simpa using h2)
          intro x hx
          rcases List.mem_cons.1 hx with rfl | hx
          · exact hy
          · exact less_trans hy (ih h x hx)
/-- The last of the labels that has that name: its value; else v. -/
def valL (l : List Lb) (n : ByteArray) (v : ByteArray) : ByteArray := l.foldl (fun v x => if (x.1.toList == n.toList) = true then x.2 else v) v
theorem valL_none {l : List Lb} {n v : ByteArray} (h : ∀ x ∈ l, (x.1.toList == n.toList) = false) : valL l n v = v := by
  unfold valL
  induction l generalizing v with
  | nil => rfl
  | cons y l ih =>
    rw [List.foldl_cons, h y (by simp), if_neg (by decide)]
    exact ih fun x hx => h x (by simp [hx])
theorem valL_eq {p : Option ByteArray} {l : List Lb} (h : chkF p l = 0) (n : ByteArray) : valL l n ⟨#[]⟩ = valO l n := by
  induction l generalizing p with
  | nil => rfl
  | cons y l ih =>
    unfold chkF at h
    split at h
    · cases h
    · split at h
      · cases h
      · split at h
        · cases h
        · cases he : (y.1.toList == n.toList) with
          | true =>
            have hn : ∀ x ∈ l, (x.1.toList == n.toList) = false := fun x hx => by
              rw [beq_eq_false_iff_ne]
              intro e
              have h1 := chkF_above h x hx
              rw [e, ← eq_of_beq he, less_irr] at h1
              cases h1
            have e1 : valL (y :: l) n ⟨#[]⟩ = valL l n y.2 := by unfold valL; rw [List.foldl_cons, he, if_pos rfl]
            rw [e1, valL_none hn]
            unfold valO
            rw [List.find?_cons, he]
          | false =>
            have e1 : valL (y :: l) n ⟨#[]⟩ = valL l n ⟨#[]⟩ := by unfold valL; rw [List.foldl_cons, he, if_neg (by decide)]
            rw [e1, ih h]
            unfold valO
            rw [List.find?_cons, he]
theorem chk_valL {l : List Lb} (h : chk l = 0) (n : ByteArray) : valL l n ⟨#[]⟩ = valO l n := by
  unfold chk at h
  split at h
  · cases h
  · exact valL_eq h n
theorem valL_take {l : List Lb} {k : Nat} {x : Lb} (h : l[k]? = some x) (n v : ByteArray) : valL (l.take (k + 1)) n v = if (x.1.toList == n.toList) = true then x.2 else valL (l.take k) n v := by
  have hk : k < l.length := (List.getElem?_eq_some_iff.1 h).1
  have e : l.take (k + 1) = l.take k ++ [x] := by rw [List.take_succ_eq_append_getElem hk, (List.getElem?_eq_some_iff.1 h).2]
  unfold valL
  rw [e, List.foldl_append]
  rfl
theorem index_pos {s p : List UInt8} {i : Nat} (hi : i ≤ s.length) (hp : Lib.hasPrefix (s.drop i) p = true) : 0 ≤ Lib.index s p := by
  induction s generalizing i with
  | nil =>
    unfold Lib.index
    have e : p = [] := by
      unfold Lib.hasPrefix at hp
      rw [List.isPrefixOf_iff_prefix, List.drop_nil] at hp
      exact List.prefix_nil.1 hp
    rw [e]; decide
  | cons b l ih =>
    unfold Lib.index
    split
    · decide
    · rename_i hn
      cases i with
      | zero => exact absurd hp hn
      | succ j =>
        have h := ih (i := j) (by simpa using hi) (by simpa using hp)
        rw [if_neg (by rw [beq_iff_eq]; omega)]
        omega
/-- A text is in another one just where it begins at some place. -/
theorem contains_iff (s p : List UInt8) : Lib.contains s p = true ↔ ∃ i, i ≤ s.length ∧ Lib.hasPrefix (s.drop i) p = true := by
  constructor
  · intro h
    unfold Lib.contains at h
    rw [decide_eq_true_eq] at h
    apply Classical.byContradiction
    intro hn
    have h2 := Lib.index_none (s := s) (sub := p) (fun j hj => by
      cases hp : Lib.occAt s p j with
      | false => rfl
      | true => exact absurd ⟨j, hj, hp⟩ hn)
    omega
  · rintro ⟨i, hi, hp⟩
    unfold Lib.contains
    rw [decide_eq_true_eq]
    exact index_pos hi hp
end P
end Go.Proofs.Ytlghnnmgbdjgoaa
