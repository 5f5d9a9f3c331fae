/- rolls answers true. -/
import Derived.Test.YtgfjhcjplhlonaaRollR
namespace Go.Proofs.Ytgfjhcjplhlonaa
open Go.RowKit
set_option linter.unusedVariables false
theorem two_any (w : World) : Calls Try.prog 28 #[] w fun e w' => ∃ v, e = .returned v ∧ RowS w' v [(1, 5), (3, 8)] ∧ Below w.heap.size w w' := by
  go_enter Try.func28, Try.ntmps28
  go_wp2
  go_ret
  refine ⟨_, rfl, ⟨_, 2, rfl, ⟨by simp, by decide, fun h => by cases h⟩, .inr ⟨w.heap.size, 0, rfl, by simp, fun j hj => ?_⟩⟩, (Below.refl _ _).alloc (Nat.le_refl _) _⟩
  match j, hj with
  | 0, _ => simp
  | 1, _ => simp
theorem rolls_any (w : World) : Calls Try.prog 14 #[] w fun e w' => e = .returned (.bool true) ∧ Below w.heap.size w w' := by
  have HT := hide (two_any w)
  have HR := hide (fun (v : Value) (w : World) (hr : RowS w v [(1, 5), (3, 8)]) => roll_any v [(1, 5), (3, 8)] 10 w hr)
  rw [show P.roerr [(1, 5), (3, 8)] 10 = 0 by decide] at HR
  have hl : (P.roout [(1, 5), (3, 8)] 10).length = 1 := by rw [show P.roout [(1, 5), (3, 8)] 10 = [⟨0, 2, 13, 5, 8, 5, 8⟩] by rfl]; rfl
  generalize P.roout [(1, 5), (3, 8)] 10 = out at *
  have HL := hide hl
  clear hl
  go_enter Try.func14, Try.ntmps14
  go_wp2_with (first
    | (go_at_call 28; go_must (refine HT.out.mono ?_); rintro e w1 ⟨v, rfl, hrow, hb⟩; obtain ⟨av, cv, hv⟩ := hrow.shp; rw [hv] at hrow ⊢; clear hv)
    | (go_at_call 9; go_must (refine (HR.out _ _ hrow).mono ?_); rintro e w2 ⟨v', rfl, hown, hb2⟩; obtain ⟨av', cv', hv'⟩ := OwnW.shp hown; rw [HL.out] at hv'; rw [hv']; clear hv'))
  go_ret
  exact ⟨rfl, Below.next hb hb2⟩
end Go.Proofs.Ytgfjhcjplhlonaa
