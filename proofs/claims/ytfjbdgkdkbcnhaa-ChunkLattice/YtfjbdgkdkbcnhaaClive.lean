/- chunks answers true. -/
import Derived.Test.YtfjbdgkdkbcnhaaChunkR
namespace Go.Proofs.Ytfjbdgkdkbcnhaa
open Go.RowKit
set_option linter.unusedVariables false
theorem two_any (w : World) : Calls Try.prog 17 #[] w fun e w' => ∃ v, e = .returned v ∧ RowS w' v [(1, 5), (3, 8)] ∧ Below w.heap.size w w' := by
  go_enter Try.func17, Try.ntmps17
  go_wp2
  go_ret
  refine ⟨_, rfl, ⟨_, 2, rfl, ⟨by simp, by decide, fun h => by cases h⟩, .inr ⟨w.heap.size, 0, rfl, by simp, fun j hj => ?_⟩⟩, (Below.refl _ _).alloc (Nat.le_refl _) _⟩
  match j, hj with
  | 0, _ => simp
  | 1, _ => simp
theorem chunks_any (w : World) : Calls Try.prog 11 #[] w fun e w' => e = .returned (.bool true) ∧ Below w.heap.size w w' := by
  have HT := hide (two_any w)
  have HR := hide (fun (v : Value) (w : World) (hr : RowS w v [(1, 5), (3, 8)]) => range_ok v [(1, 5), (3, 8)] 1 2 w hr (by decide))
  go_enter Try.func11, Try.ntmps11
  go_wp2_with (first
    | (go_at_call 17; go_must (refine HT.out.mono ?_); rintro e w1 ⟨v, rfl, hrow, hb⟩; obtain ⟨av, cv, hv⟩ := hrow.shp; rw [hv] at hrow ⊢; clear hv)
    | (go_at_call 6; go_must (refine (HR.out _ _ hrow).mono ?_); rintro e w2 ⟨v', rfl, hown, hb2⟩; obtain ⟨av', cv', hv'⟩ := hown.shp; rw [show (P.btw [(1, 5), (3, 8)] 1 2).length = 1 by decide] at hv'; rw [hv']; clear hv'))
  go_ret
  exact ⟨rfl, Below.next hb hb2⟩
end Go.Proofs.Ytfjbdgkdkbcnhaa
