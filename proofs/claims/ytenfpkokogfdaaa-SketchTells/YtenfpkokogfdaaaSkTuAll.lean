/- Several texts in one. -/
import Derived.Test.YtenfpkokogfdaaaSkEAll
import Derived.Test.YtenfpkokogfdaaaSkAeAll
import Derived.Test.YtenfpkokogfdaaaRefSfAll
import Derived.Test.YtenfpkokogfdaaaRefSkAll
/- Empty, Add and Count, each in one contract. -/
namespace Go.Proofs.Ytenfpkokogfdaaa
open Go.RowKit
set_option linter.unusedVariables false
namespace P
def odB (d x : Int) : Bool := !arB d x
end P
theorem row_z0 (w : World) : RowK .i64 w (.slice none 0 0) z0.c := ⟨none, 0, rfl, ⟨by simp [z0], by simp, fun _ => rfl⟩, .inl rfl⟩
/-- Empty in one contract. -/
theorem Empty_any (d x : Int) (w : World) : Calls Try.prog 9 #[.int .i64 d, .int .i64 x] w fun e w' => ∃ (va : Value) (A : P.Sk) (er : Int), e = .returned (.tuple #[aggK va A, .int .i64 er]) ∧ RowK .i64 w' va A.c ∧ Below w.heap.size w w' ∧
    (∀ D X : Nat, d = D → x = X → P.arB d x = true → A = P.skEmp D X ∧ er = 0) ∧ (P.arB d x = false → va = .slice none 0 0 ∧ A = z0 ∧ er = 1) := by
  cases h : P.arB d x with
  | true =>
    have h2 := h
    unfold P.arB at h2
    simp at h2
    obtain ⟨D, rfl⟩ : ∃ D : Nat, d = D := ⟨d.toNat, by omega⟩
    obtain ⟨X, rfl⟩ : ∃ X : Nat, x = X := ⟨x.toNat, by omega⟩
    refine (Empty_ok D X w (by omega) (by omega) (by omega) (by omega)).mono ?_
    rintro e w' ⟨v, rfl, own, hb⟩
    refine ⟨v, P.skEmp D X, 0, rfl, OwnK.row own, hb, fun D' X' h1 h2 _ => ?_, fun hn => by cases hn⟩
    obtain rfl : D = D' := by omega
    obtain rfl : X = X' := by omega
    exact ⟨rfl, rfl⟩
  | false =>
    refine (Empty_bad d x w h).mono ?_
    rintro e w' ⟨rfl, hb⟩
    exact ⟨.slice none 0 0, z0, 1, rfl, row_z0 w', hb, (fun D X h1 h2 h3 => by cases h3), fun _ => ⟨rfl, rfl, rfl⟩⟩
/-- Add of a good sketch in one contract. -/
theorem Add_good (cv : Value) (S : P.Sk) (q : ByteArray) (m : Int) (w : World) (hr : RowK .i64 w cv S.c) (hg : P.SkGood S) (hm0 : -9223372036854775808 ≤ m) (hm1 : m ≤ 9223372036854775807) (hq : q.size ≤ 9223372036854775807) :
    Calls Try.prog 10 #[aggK cv S, .string q, .int .i64 m] w fun e w' => ∃ (vb : Value) (B : P.Sk), e = .returned (.tuple #[aggK vb B, .int .i64 (P.adE S m)]) ∧ RowK .i64 w' vb B.c ∧ Below w.heap.size w w' ∧ (P.adE S m = 0 → B = P.adS S q m) ∧ (P.adE S m ≠ 0 → B = z0) := by
  by_cases h0 : m < 0
  · have e : P.adE S m = 1 := by unfold P.adE; rw [if_pos h0]
    refine (Add_err cv S q m w hr hg hm0 hm1 (.inl h0)).mono ?_
    rintro e2 w' ⟨rfl, hb⟩
    exact ⟨.slice none 0 0, z0, rfl, row_z0 w', hb, (fun h => by rw [e] at h; cases h), fun _ => rfl⟩
  · by_cases h1 : 1152921504606846976 < S.n + m
    · have e : P.adE S m = 2 := by unfold P.adE; rw [if_neg h0, if_pos h1]
      refine (Add_err cv S q m w hr hg hm0 hm1 (.inr ⟨by omega, h1⟩)).mono ?_
      rintro e2 w' ⟨rfl, hb⟩
      exact ⟨.slice none 0 0, z0, rfl, row_z0 w', hb, (fun h => by rw [e] at h; cases h), fun _ => rfl⟩
    · have e : P.adE S m = 0 := by unfold P.adE; rw [if_neg h0, if_neg h1]
      refine (Add_ok cv S q m w hr hg (by omega) (by omega) hq).mono ?_
      rintro e2 w' ⟨v, rfl, own, hb⟩
      exact ⟨v, _, by rw [e], OwnK.row own, hb, fun _ => rfl, fun h => absurd e h⟩
end Go.Proofs.Ytenfpkokogfdaaa
