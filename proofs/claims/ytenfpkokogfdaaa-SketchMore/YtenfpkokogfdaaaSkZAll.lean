/- Several texts in one. -/
import Derived.Test.YtenfpkokogfdaaaSkEqAll
import Derived.Test.YtenfpkokogfdaaaSkAeAll
/- Two empty sketches are the same; the ways in which Add goes wrong, in one. -/
namespace Go.Proofs.Ytenfpkokogfdaaa
open Go.RowKit
set_option linter.unusedVariables false
theorem sameZero (w : World) : Calls Try.prog 24 #[zeroK, zeroK] w fun e w' => e = .returned (.bool true) ∧ Below w.heap.size w w' :=
  sameSketch_yes (.slice none 0 0) (.slice none 0 0) z0 w ⟨none, 0, rfl, ⟨by simp [z0], by simp, fun _ => rfl⟩, .inl rfl⟩ ⟨none, 0, rfl, ⟨by simp [z0], by simp, fun _ => rfl⟩, .inl rfl⟩
namespace P
theorem adS_good {S : Sk} (h : SkGood S) (q : ByteArray) {m : Int} (h0 : 0 ≤ m) (h1 : S.n + m ≤ 1152921504606846976) : SkGood (adS S q m) :=
  skAdd_good h (h := fun i => hc S.w i q) (fun i _ => hc_lt (by have := h.w1; omega) i q) h0 h1
theorem tell_same {S : Sk} (h : SkGood S) (q : ByteArray) (m : Int) : tell (adS S q m) q = tell S q + m :=
  least_same h (h := fun i => hc S.w i q) (fun i _ => hc_lt (by have := h.w1; omega) i q) m S.d (Nat.le_refl _)
theorem tell_other {S : Sk} (h : SkGood S) (q r : ByteArray) {m : Int} (hm : 0 ≤ m) : tell S r ≤ tell (adS S q m) r ∧ tell (adS S q m) r ≤ tell S r + m :=
  least_other h (h := fun i => hc S.w i q) (g := fun i => hc S.w i r) (fun i _ => hc_lt (by have := h.w1; omega) i r) hm S.d (Nat.le_refl _)
theorem tell_bound {S : Sk} (h : SkGood S) (q : ByteArray) : 0 ≤ tell S q ∧ tell S q ≤ S.n :=
  least_bound h (h := fun i => hc S.w i q) (fun i _ => hc_lt (by have := h.w1; omega) i q) S.d (Nat.le_refl _)
end P
/-- Add answers an error, or it answers a sketch. -/
theorem Add_cases (cv : Value) (s : P.Rw) (m : Int) (w : World) (hr : RowK .i64 w cv s.c) (hi : RwI s) (hm0 : -9223372036854775808 ≤ m) (hm1 : m ≤ 9223372036854775807) :
    (∃ E : Int, E ≠ 0 ∧ E ≤ 4 ∧ ∀ (q : ByteArray) wx, Below w.heap.size w wx → Calls Try.prog 10 #[aggS cv s, .string q, .int .i64 m] wx fun e w' => e = .returned (.tuple #[zeroK, .int .i64 E]) ∧ Below wx.heap.size wx w') ∨
    (∃ S : P.Sk, P.SkGood S ∧ S.raw = s ∧ 0 ≤ m ∧ S.n + m ≤ 1152921504606846976) := by
  by_cases hg : P.GoodR s
  · obtain ⟨S, hS, rfl⟩ := hg
    by_cases h0 : m < 0
    · left
      have e : P.adE S m = 1 := by unfold P.adE; rw [if_pos h0]
      refine ⟨1, by decide, by decide, fun q wx hb => ?_⟩
      have := Add_err cv S q m wx (hr.below hb (Nat.le_refl _)) hS hm0 hm1 (.inl h0)
      rw [e] at this; exact this
    · by_cases h1 : 1152921504606846976 < S.n + m
      · left
        have e : P.adE S m = 2 := by unfold P.adE; rw [if_neg h0, if_pos h1]
        refine ⟨2, by decide, by decide, fun q wx hb => ?_⟩
        have := Add_err cv S q m wx (hr.below hb (Nat.le_refl _)) hS hm0 hm1 (.inr ⟨by omega, h1⟩)
        rw [e] at this; exact this
      · exact .inr ⟨S, hS, rfl, by omega, by omega⟩
  · exact .inl ⟨4, by decide, by decide, fun q wx hb => Add_bad cv s q m wx (hr.below hb (Nat.le_refl _)) hi hg⟩
/-- Count of whatever: it answers, and makes nothing that was. -/
theorem Count_some (cv : Value) (s : P.Rw) (q : ByteArray) (w : World) (hr : RowK .i64 w cv s.c) (hi : RwI s) (hq : q.size ≤ 9223372036854775807) :
    ∃ n E : Int, Calls Try.prog 11 #[aggS cv s, .string q] w fun e w' => e = .returned (.tuple #[.int .i64 n, .int .i64 E]) ∧ Below w.heap.size w w' := by
  by_cases hg : P.GoodR s
  · obtain ⟨S, hS, rfl⟩ := hg
    exact ⟨P.tell S q, 0, Count_ok cv S q w hr hS hq⟩
  · exact ⟨0, 4, Count_bad cv s q w hr hi hg⟩
end Go.Proofs.Ytenfpkokogfdaaa
