/- What sameBits answers. -/
import Derived.Test.YteohlkpejdjenaaDoorEq
namespace Go.Proofs.YteohlkpejdjenaaDoor
open Go.RowKit
set_option linter.unusedVariables false
theorem sameBits_any (v1 v2 : Value) (l m : List Int) (n k : Int) (w : World) (h1 : RowB w v1 l) (h2 : RowB w v2 m) (b1 : Byt l) (b2 : Byt m) :
    Calls Tryd.prog 19 #[.agg #[v1, .int .i64 n], .agg #[v2, .int .i64 k]] w fun e w' => e = .returned (.bool (decide (n = k) && sameL l m)) ∧ Below w.heap.size w w' := by
  have hb : ∀ o1 o2 : Obj, Below w.heap.size w ((w.alloc o1).alloc o2) := fun o1 o2 => ((Below.refl _ _).alloc (Nat.le_refl _) _).alloc (by simp) _
  have r1 := fun o1 o2 => h1.below (hb o1 o2) (Nat.le_refl _)
  have r2 := fun o1 o2 => h2.below (hb o1 o2) (Nat.le_refl _)
  by_cases h : n = k
  · have hq : (n == k) = true := by simp [h]
    have e : (decide (n = k) && sameL l m) = sameL l m := by simp [h]
    rw [e]
    go_enter Tryd.func19, Tryd.ntmps19
    go_wp2_with (go_at_call 33; go_must (refine (equal_any _ _ l m _ (r1 _ _) (r2 _ _) b1 b2).mono ?_); rintro e w' ⟨rfl, rfl⟩)
    go_ret
    exact ⟨rfl, hb _ _⟩
  · have hq : (n == k) = false := by simp [h]
    have e : (decide (n = k) && sameL l m) = false := by simp [h]
    rw [e]
    go_enter Tryd.func19, Tryd.ntmps19
    go_wp2
    go_ret
    exact ⟨rfl, hb _ _⟩
end Go.Proofs.YteohlkpejdjenaaDoor
