/- Several texts in one. -/
import Derived.Test.YtfjbdgkdkbcnhaaDoorPlainAll
import Derived.Laws.BytesArg
/- What bytes.Equal and slices.Clone answer. -/
namespace Go.Proofs.YtfjbdgkdkbcnhaaDoor
open Go.RowKit
set_option linter.unusedVariables false

theorem conv_row {w : World} {v : Value} {l : List Int} (h : RowB w v l) : (convert 23 9 v).run Tryd.prog w = .ok (.string (strOfNums l)) w := by
  obtain ⟨a, cap, rfl, hmax, hcase⟩ := h
  rcases hcase with h | ⟨b, off, rfl, hbs, hcell⟩
  · subst h
    rw [run_convert_bytes_string w 23 9 5 a _ _ Tryd.underlying23 Tryd.underlying5 Tryd.underlying9]
    cases a <;> simp [Conv.bytesToString, loadCells]
    all_goals rfl
  · exact run_convert_bytes_arg w 23 5 Tryd.underlying23 Tryd.underlying5 b off _ cap l rfl hcell 9 Tryd.underlying9

theorem strOfNums_inj (l m : List Int) (hl : Byt l) (hm : Byt m) : ((strOfNums l).data.toList = (strOfNums m).data.toList) ↔ l = m := by
  constructor
  · intro h
    rw [strOfNums_data, strOfNums_data] at h
    have e : ∀ x : List Int, Byt x → (x.map fun n => UInt8.ofNat n.toNat).map (fun c => (c.toNat : Int)) = x := by
      intro x hx
      rw [List.map_map]
      conv => rhs; rw [← List.map_id x]
      apply List.map_congr_left
      intro n hn
      have := hx n hn
      simp only [Function.comp, id]
      rw [UInt8.toNat_ofNat', Nat.mod_eq_of_lt (by omega)]
      omega
    rw [← e l hl, ← e m hm, h]
  · intro h; rw [h]

/-- Two lists that are one: not to be opened by a walk. -/
def sameL (l m : List Int) : Bool := decide (l = m)
theorem equal_any (v1 v2 : Value) (l m : List Int) (w : World) (h1 : RowB w v1 l) (h2 : RowB w v2 m) (b1 : Byt l) (b2 : Byt m) :
    Calls Tryd.prog 10 #[v1, v2] w fun e w' => e = .returned (.bool (sameL l m)) ∧ w' = w := by
  have c1 := conv_row h1
  have c2 := conv_row h2
  go_enter Tryd.func10, Tryd.ntmps10
  go_wp2
  go_ret
  refine ⟨?_, rfl⟩
  show Ending.returned (.bool ((strOfNums l).toList == (strOfNums m).toList)) = _
  have e : ((strOfNums l).toList == (strOfNums m).toList) = sameL l m := by
    rw [Bool.eq_iff_iff, beq_iff_eq, ByteArray.toList_eq, ByteArray.toList_eq, strOfNums_inj l m b1 b2]
    simp [sameL]
  rw [e]

end Go.Proofs.YtfjbdgkdkbcnhaaDoor
