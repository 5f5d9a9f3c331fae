/- What And, Or and Not answer. -/
import Derived.Test.YtlghnnmgbdjgoaaSetO
import Derived.Deep.QuietTactic
import Derived.BigQuiet
namespace Go.Proofs.Ytlghnnmgbdjgoaa
open Go.RowKit Go.Sort
set_option linter.unusedVariables false
def lenV : Value → Nat
  | .slice _ n _ => n
  | _ => 0
theorem rowsK_one (w : World) (v : Value) (l : List Int) (t : TypeId) (h : RowK .i64 w v l) : RowsK (w.alloc (.cells #[v] t)) w.heap.size [(v, l)] := by
  intro j x hx
  match j, hx with
  | 0, hx =>
    simp at hx; subst hx
    exact ⟨by simp, h.below ((Below.refl _ w).alloc (Nat.le_refl _) _) (Nat.le_refl _)⟩
theorem rowsK_two (w : World) (v v2 : Value) (l l2 : List Int) (t : TypeId) (h : RowK .i64 w v l) (h2 : RowK .i64 w v2 l2) : RowsK (w.alloc (.cells #[v, v2] t)) w.heap.size [(v, l), (v2, l2)] := by
  intro j x hx
  match j, hx with
  | 0, hx =>
    simp at hx; subst hx
    exact ⟨by simp, h.below ((Below.refl _ w).alloc (Nat.le_refl _) _) (Nat.le_refl _)⟩
  | 1, hx =>
    simp at hx; subst hx
    exact ⟨by simp, h2.below ((Below.refl _ w).alloc (Nat.le_refl _) _) (Nat.le_refl _)⟩
theorem ordered_one (w : World) (v : Value) (l : List Int) (h : RowK .i64 w v l) (hsz : l.length * 8 ≤ 281474976710656) :
    Calls Try.prog 46 #[.slice (some ⟨w.heap.size, 0, none⟩) 1 1] (w.alloc (.cells #[v] 37)) fun e w' => ∃ v', e = .returned v' ∧ OwnI w' w.heap.size v' (Q.ord l) ∧ Below w.heap.size w w' := by
  refine (ordered_any w.heap.size 1 1 [(v, l)] _ rfl (by omega) (by simp) (rowsK_one w v l _ h) (by simpa [cat] using hsz)).mono ?_
  rintro e w' ⟨v', rfl, h1, h2⟩
  refine ⟨v', rfl, ?_, ((Below.refl _ w).alloc (Nat.le_refl _) _).trans (h2.mono (by simp))⟩
  have h3 := OwnK.base h1 (b' := w.heap.size) (by simp)
  simpa [cat] using h3
theorem or_any (w : World) (v v2 : Value) (l l2 : List Int) (h : RowK .i64 w v l) (h2 : RowK .i64 w v2 l2) (hsz : (l.length + l2.length) * 8 ≤ 281474976710656) :
    Calls Try.prog 24 #[v, v2] w fun e w' => ∃ v', e = .returned v' ∧ OwnI w' w.heap.size v' (Q.orL l l2) ∧ Below w.heap.size w w' := by
  have HO : Hid (Calls Try.prog 46 #[.slice (some ⟨w.heap.size, 0, none⟩) 2 2] (w.alloc (.cells #[v, v2] 37)) fun e w' => ∃ v', e = .returned v' ∧ OwnI w' w.heap.size v' (Q.orL l l2) ∧ Below w.heap.size w w') := by
    refine (ordered_any w.heap.size 2 2 [(v, l), (v2, l2)] _ rfl (by omega) (by simp) (rowsK_two w v v2 l l2 _ h h2) (by simpa [cat] using hsz)).mono ?_
    rintro e w' ⟨v', rfl, h1, h2⟩
    refine ⟨v', rfl, ?_, ((Below.refl _ w).alloc (Nat.le_refl _) _).trans (h2.mono (by simp))⟩
    have h3 := OwnK.base h1 (b' := w.heap.size) (by simp)
    simpa [cat, Q.orL] using h3
  obtain ⟨a, ca, rfl, _⟩ := h
  obtain ⟨b, cb, rfl, _⟩ := h2
  generalize Q.orL l l2 = r at HO
  go_enter Try.func24, Try.ntmps24
  go_wp2_with fail
  refine HO.out.mono ?_
  rintro e w1 ⟨v1, rfl, own1, hb1⟩
  obtain ⟨a1, c1, hv⟩ := own1.shape
  subst hv
  go_wp2
  go_ret
  exact ⟨_, rfl, own1, hb1⟩
theorem RowK.tail {k : IntKind} {w : World} {b off n cap : Nat} {x : Int} {l : List Int} (h : RowK k w (.slice (some ⟨b, off, none⟩) (n + 1) cap) (x :: l)) : RowK k w (.slice (some ⟨b, off + 1, none⟩) n (cap - 1)) l := by
  obtain ⟨a, c, hv, ⟨h1, h2, h3⟩, hcase⟩ := h
  simp only [Value.slice.injEq, List.length_cons] at hv
  obtain ⟨rfl, hn, rfl⟩ := hv
  have hn' : n = l.length := by omega
  subst hn'
  simp only [List.length_cons] at h1
  refine ⟨_, _, rfl, ⟨by omega, by omega, fun h => by cases h⟩, ?_⟩
  rcases hcase with h | ⟨b', off', he, hlt, hc⟩
  · cases h
  · simp at he
    obtain ⟨rfl, rfl⟩ := he
    refine .inr ⟨b, off + 1, rfl, hlt, fun j hj => ?_⟩
    have := hc (j + 1) (by simp; omega)
    rw [Nat.add_assoc, Nat.add_comm 1 j, this]
    simp
theorem RowK.tail0 {k : IntKind} {w : World} {b off n : Nat} {x : Int} {l : List Int} (h : RowK k w (.slice (some ⟨b, off, none⟩) (n + 1) 1) (x :: l)) : RowK k w (.slice (some ⟨b, off, none⟩) n 0) l := by
  obtain ⟨a, c, hv, ⟨h1, h2, h3⟩, hcase⟩ := h
  simp only [Value.slice.injEq, List.length_cons] at hv
  obtain ⟨rfl, hn, rfl⟩ := hv
  simp only [List.length_cons] at h1
  have hl : l = [] := List.length_eq_zero_iff.1 (by omega)
  subst hl
  have : n = 0 := by simpa using hn
  subst this
  exact ⟨_, 0, rfl, ⟨by simp, by simp, fun h => by cases h⟩, .inl rfl⟩
/-- What a row that is not empty is. -/
theorem RowK.cons {k : IntKind} {w : World} {v : Value} {x : Int} {l : List Int} (h : RowK k w v (x :: l)) : ∃ b off cap, v = .slice (some ⟨b, off, none⟩) (l.length + 1) cap ∧ l.length + 1 ≤ cap ∧ cap ≤ maxLen ∧ b < w.heap.size ∧ w.cell? ⟨b, off, none⟩ = some (.int k x) := by
  obtain ⟨a, c, rfl, ⟨h1, h2, h3⟩, hcase⟩ := h
  rcases hcase with h | ⟨b, off, rfl, hlt, hc⟩
  · cases h
  · exact ⟨b, off, c, rfl, by simpa using h1, h2, hlt, by have := hc 0 (by simp); simpa using this⟩
/-- How the loop of And stands. -/
def AndAt (w : World) (r : List Int) (va vb vc : Value) (wr : World) : Prop :=
  ∃ sa sb acc : List Int, RowK .i64 w va sa ∧ RowK .i64 w vb sb ∧ OwnI wr w.heap.size vc acc ∧ Q.Asc sa ∧ Q.Asc sb ∧ acc ++ Q.both sa sb = r ∧ Below w.heap.size w wr
end Go.Proofs.Ytlghnnmgbdjgoaa
