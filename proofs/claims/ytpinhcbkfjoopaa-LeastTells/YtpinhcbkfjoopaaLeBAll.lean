/- Several texts in one. -/
import Derived.Test.YtpinhcbkfjoopaaLeKAll
/- Bundles for the laws: a sieve in a box that is kept; two rows of rows in a new row; rows that change places. -/
namespace Go.Proofs.Ytpinhcbkfjoopaa
open Go.RowKit
set_option linter.unusedVariables false
/-- A sieve that is kept. -/
structure KL (w : World) (g : Nat) (v : Value) (S : P.Ls) : Prop where
  box : BoxL w g v S
  row : RowK .u64 w v S.h
theorem KL.below {w w' : World} {g : Nat} {v : Value} {S : P.Ls} (h : KL w g v S) (hb : Below w.heap.size w w') : KL w' g v S := ⟨h.box.below hb, h.row.below hb (Nat.le_refl _)⟩
theorem KL.new {w : World} {v : Value} {base : Nat} {k : Int} {R : List Int} (h : OwnU w base v R) : KL (w.alloc (.cells #[.int .i64 k, v] 24)) w.heap.size v ⟨k, R⟩ :=
  ⟨BoxL.new w v ⟨k, R⟩, h.row.below ((Below.refl _ w).alloc (Nat.le_refl _) _) (Nat.le_refl _)⟩
theorem below_new (w : World) (o : Obj) : Below w.heap.size w (w.alloc o) := (Below.refl _ w).alloc (Nat.le_refl _) o
/-- Two rows of rows in a new row. -/
theorem rows_twoS (w : World) (v1 v2 : Value) (l1 l2 : List SlH) (t : TypeId) (h1 : RowS w v1 l1) (h2 : RowS w v2 l2) : RowsS (w.alloc (.cells #[v1, v2] t)) w.heap.size [(v1, l1), (v2, l2)] := by
  have hb := (Below.refl w.heap.size w).alloc (Nat.le_refl _) (.cells #[v1, v2] t)
  intro j x hx
  match j, hx with
  | 0, hx => simp at hx; subst hx; exact ⟨by simp, h1.below hb (Nat.le_refl _)⟩
  | 1, hx => simp at hx; subst hx; exact ⟨by simp, h2.below hb (Nat.le_refl _)⟩
theorem RowB.uniq {w : World} {v : Value} {l m : List Int} (h1 : RowK .u8 w v l) (h2 : RowK .u8 w v m) : l = m := by
  obtain ⟨a, c, rfl, _, hc1⟩ := h1
  obtain ⟨a2, c2, hv, _, hc2⟩ := h2
  simp only [Value.slice.injEq] at hv
  obtain ⟨rfl, hl, rfl⟩ := hv
  rcases hc1 with rfl | ⟨b, o, rfl, _, hcell⟩
  · exact (List.length_eq_zero_iff.1 hl.symm).symm
  · rcases hc2 with rfl | ⟨b2, o2, he, _, hcell2⟩
    · exact List.length_eq_zero_iff.1 hl
    · simp only [Option.some.injEq, Addr.mk.injEq, and_true] at he
      obtain ⟨rfl, rfl⟩ := he
      apply List.ext_getElem hl
      intro j h3 h4
      have e1 := hcell j h3
      have e2 := hcell2 j h4
      rw [e1] at e2
      simp [List.getD_eq_getElem?_getD, List.getElem?_eq_getElem h3, List.getElem?_eq_getElem h4] at e2
      exact e2
open Classical in
/-- Rows that change places hold what they held. -/
theorem AllB.perm {w : World} {vs us : List SlH} {L : List (List Int)} (h : AllB w vs L) (hp : us.Perm vs) : ∃ M, M.Perm L ∧ AllB w us M := by
  let f : SlH → List Int := fun x => if h : ∃ l, RowK .u8 w (slV x) l then h.choose else []
  have hf : ∀ x l, RowK .u8 w (slV x) l → f x = l := by
    intro x l hl
    have hx : ∃ l, RowK .u8 w (slV x) l := ⟨l, hl⟩
    have : f x = hx.choose := by simp only [f]; rw [dif_pos hx]
    rw [this]
    exact RowB.uniq hx.choose_spec hl
  have hL : vs.map f = L := by
    apply List.ext_getElem?
    intro j
    rw [List.getElem?_map]
    rcases Nat.lt_or_ge j L.length with hj | hj
    · obtain ⟨x, h1, h2⟩ := h.2 j _ (List.getElem?_eq_getElem hj)
      rw [h1, List.getElem?_eq_getElem hj]
      simp [hf x _ h2]
    · rw [List.getElem?_eq_none hj, List.getElem?_eq_none (by rw [h.1]; exact hj)]; rfl
  have hall : ∀ x ∈ vs, RowK .u8 w (slV x) (f x) := by
    intro x hx
    obtain ⟨j, hj, rfl⟩ := List.mem_iff_getElem.1 hx
    obtain ⟨y, h1, h2⟩ := h.2 j _ (List.getElem?_eq_getElem (by rw [← h.1]; exact hj))
    rw [List.getElem?_eq_getElem hj] at h1
    cases h1
    rw [hf _ _ h2]; exact h2
  refine ⟨us.map f, by rw [← hL]; exact hp.map f, by simp, fun j l hl => ?_⟩
  rw [List.getElem?_map] at hl
  cases hx : us[j]? with
  | none => rw [hx] at hl; simp at hl
  | some x =>
    rw [hx] at hl
    simp at hl
    subst hl
    exact ⟨x, rfl, hall x (hp.mem_iff.1 (List.mem_of_getElem? hx))⟩
theorem OwnSl.row {w : World} {base : Nat} {v : Value} {l : List SlH} (h : OwnSl w base v l) : RowS w v l := OwnX.row slC_len h
theorem catS_two (v1 v2 : Value) (l1 l2 : List SlH) : catS [(v1, l1), (v2, l2)] = l1 ++ l2 := by simp [catS]
theorem hs_app (L M : List (List Int)) (x : Int) : x ∈ P.hs (L ++ M) ↔ x ∈ P.hs L ∨ x ∈ P.hs M := by simp [P.hs]
theorem hs_perm {L M : List (List Int)} (h : M.Perm L) (x : Int) : x ∈ P.hs M ↔ x ∈ P.hs L := (h.map _).mem_iff
end Go.Proofs.Ytpinhcbkfjoopaa
