/- deltas answers true. -/
import Derived.Test.YtlejpbghakaooaaDoorDpack
namespace Go.Proofs.YtlejpbghakaooaaDoor
open Go.RowKit
set_option linter.unusedVariables false
theorem rowK_nil (k : IntKind) (w : World) : RowK k w (.slice none 0 0) [] := ⟨none, 0, rfl, ⟨by simp, by simp, fun _ => rfl⟩, .inl rfl⟩
theorem packT_nil : (P.packT []).length = 16 := by decide
theorem deltas_any (w : World) (hs : Shp w) : Calls Tryd.prog 18 #[] w fun e w' => e = .returned (.bool true) ∧ Below w.heap.size w w' := by
  have HP : Hid (Calls Tryd.prog 9 #[.slice none 0 0] w fun e w' => ∃ vy, e = .returned (.tuple #[.agg #[vy, .int .i64 16], .int .i64 0]) ∧ OwnB w' w.heap.size vy (P.pack (P.packT [])) ∧ Below w.heap.size w w') := by
    have h := pack_any (.slice none 0 0) [] w (rowK_nil _ w) (fun x hx => by cases hx) (by simp) hs
    rw [packT_nil] at h
    exact h
  go_enter Tryd.func18, Tryd.ntmps18
  go_wp2_with (go_at_call 9; go_must (refine HP.out.mono ?_); rintro e w3 ⟨vy, rfl, hown, hb2⟩; obtain ⟨ay, capy, hvy⟩ := hown.shp; rw [hvy] at hown ⊢; clear hvy)
  go_ret
  exact ⟨rfl, below_alloc hb2 _⟩
end Go.Proofs.YtlejpbghakaooaaDoor
