/- What bytes.Equal and slices.Clone answer. -/
import Derived.Test.YtpcgcmbidfjgpaaFrame
import Derived.Laws.BytesArg
namespace Go.Proofs.Ytpcgcmbidfjgpaa
open Go.RowKit
set_option linter.unusedVariables false

theorem clone_any (v : Value) (l : List Int) (w : World) (h : RowB w v l) (hlen : l.length ≤ 140737488355328) :
    Calls Try.prog 13 #[v] w fun e w' => ∃ v', e = .returned v' ∧ OwnB w' w.heap.size v' l ∧ Below w.heap.size w w' := by
  have h' := h
  obtain ⟨a, cap, rfl, hc1, hcase⟩ := h
  cases a with
  | none =>
    have hcap := hc1.2.2 rfl
    have hl : l = [] := List.length_eq_zero_iff.1 (by omega)
    subst hl hcap
    have hq := fun w : World => Lib.run_eql_slice_nil (P := Try.prog) w 23 5 none 0 0 0 0 Try.underlying23
    go_enter Try.func13, Try.ntmps13
    go_wp2
    go_ret
    exact ⟨_, rfl, World.ownsRow_nil _ _ _ _, Below.refl _ _⟩
  | some ad =>
    clear hcase
    have hq := fun w : World => Lib.run_eql_slice_nil (P := Try.prog) w 23 5 (some ad) l.length cap 0 0 Try.underlying23
    have hr1 : RowB (w.alloc (.cells #[] 5)) (.slice (some ad) l.length cap) l := h'.below ((Below.refl _ _).alloc (Nat.le_refl _) _) (Nat.le_refl _)
    have ho1 := own_empty w w.heap.size (Nat.le_refl _)
    have hb1 : Below w.heap.size w (w.alloc (.cells #[] 5)) := (Below.refl _ _).alloc (Nat.le_refl _) _
    clear h'
    go_enter Try.func13, Try.ntmps13
    go_wp2_with (at_builtin; go_must (refine wp_appRow rfl _ _ rfl w.heap.size w.heap.size w _ _ _ [] l ho1 hr1 hb1 (Nat.le_refl _) rfl rfl (by simp; omega) (by simp) ?_); intro v' w1 hown' hb' hsz hg)
    go_ret
    exact ⟨v', rfl, hown', hb'⟩
end Go.Proofs.Ytpcgcmbidfjgpaa
