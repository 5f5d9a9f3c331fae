/- What bytes.Equal and slices.Clone answer. -/
import Derived.Test.YtimenpceegcboaaFrame
import Derived.Laws.BytesArg
namespace Go.Proofs.Ytimenpceegcboaa
open Go.RowKit
set_option linter.unusedVariables false

theorem conv_row {w : World} {v : Value} {l : List Int} (h : RowB w v l) : (convert 23 9 v).run Try.prog w = .ok (.string (strOfNums l)) w := by
  obtain ⟨a, cap, rfl, hmax, hcase⟩ := h
  rcases hcase with h | ⟨b, off, rfl, hbs, hcell⟩
  · subst h
    rw [run_convert_bytes_string w 23 9 5 a _ _ Try.underlying23 Try.underlying5 Try.underlying9]
    cases a <;> simp [Conv.bytesToString, loadCells]
    all_goals rfl
  · exact run_convert_bytes_arg w 23 5 Try.underlying23 Try.underlying5 b off _ cap l rfl hcell 9 Try.underlying9

theorem strOfNums_inj (l m : List Int) (hl : Byt l) (hm : Byt m) : ((strOfNums l).data.toList = (strOfNums m).data.toList) ↔ l = m := by
  constructor
  · intro h
    rw [strOfNums_data, strOfNums_data] at h
    have e : ∀ x : List Int, Byt x → (x.map fun n => UInt8.ofNat n.toNat).map (fun c => (c.toNat : Int)) = x := by
      intro x hx
      rw [List.map_map]
      conv => rhs; rw [← List.map_id x]
      apply List.map_congr_left
      intro n hn
      have := hx n hn
      simp only [Function.comp, id]
      rw [UInt8.toNat_ofNat', Nat.mod_eq_of_lt (by omega)]
      omega
    rw [← e l hl, ← e m hm, h]
  · intro h; rw [h]

/-- Two lists that are one: not to be opened by a walk. -/
def sameL (l m : List Int) : Bool := decide (l = m)
theorem equal_any (v1 v2 : Value) (l m : List Int) (w : World) (h1 : RowB w v1 l) (h2 : RowB w v2 m) (b1 : Byt l) (b2 : Byt m) :
    Calls Try.prog 15 #[v1, v2] w fun e w' => e = .returned (.bool (sameL l m)) ∧ w' = w := by
  have c1 := conv_row h1
  have c2 := conv_row h2
  go_enter Try.func15, Try.ntmps15
  go_wp2
  go_ret
  refine ⟨?_, rfl⟩
  show Ending.returned (.bool ((strOfNums l).toList == (strOfNums m).toList)) = _
  have e : ((strOfNums l).toList == (strOfNums m).toList) = sameL l m := by
    rw [Bool.eq_iff_iff, beq_iff_eq, ByteArray.toList_eq, ByteArray.toList_eq, strOfNums_inj l m b1 b2]
    simp [sameL]
  rw [e]

theorem clone_any (v : Value) (l : List Int) (w : World) (h : RowB w v l) (hlen : l.length ≤ 140737488355328) :
    Calls Try.prog 28 #[v] w fun e w' => ∃ v', e = .returned v' ∧ OwnB w' w.heap.size v' l ∧ Below w.heap.size w w' := by
  have h' := h
  obtain ⟨a, cap, rfl, hc1, hcase⟩ := h
  cases a with
  | none =>
    have hcap := hc1.2.2 rfl
    have hl : l = [] := List.length_eq_zero_iff.1 (by omega)
    subst hl hcap
    have hq := fun w : World => Lib.run_eql_slice_nil (P := Try.prog) w 23 5 none 0 0 0 0 Try.underlying23
    go_enter Try.func28, Try.ntmps28
    go_wp2
    go_ret
    exact ⟨_, rfl, World.ownsRow_nil _ _ _ _, Below.refl _ _⟩
  | some ad =>
    clear hcase
    have hq := fun w : World => Lib.run_eql_slice_nil (P := Try.prog) w 23 5 (some ad) l.length cap 0 0 Try.underlying23
    have hr1 : RowB (w.alloc (.cells #[] 5)) (.slice (some ad) l.length cap) l := h'.below ((Below.refl _ _).alloc (Nat.le_refl _) _) (Nat.le_refl _)
    have ho1 := own_empty w w.heap.size (Nat.le_refl _)
    have hb1 : Below w.heap.size w (w.alloc (.cells #[] 5)) := (Below.refl _ _).alloc (Nat.le_refl _) _
    clear h'
    go_enter Try.func28, Try.ntmps28
    go_wp2_with (at_builtin; go_must (refine wp_appRow rfl _ _ rfl w.heap.size w.heap.size w _ _ _ [] l ho1 hr1 hb1 (Nat.le_refl _) rfl rfl (by simp; omega) (by simp) ?_); intro v' w1 hown' hb' hsz hg)
    go_ret
    exact ⟨v', rfl, hown', hb'⟩
end Go.Proofs.Ytimenpceegcboaa
