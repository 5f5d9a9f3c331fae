/- What the document's own ValueIn answers. -/
import Derived.Test.YtlghnnmgbdjgoaaLabelO
import Derived.Test.YtlghnnmgbdjgoaaLabelG
namespace Go.Proofs.Ytlghnnmgbdjgoaa
open Go.RowKit
set_option linter.unusedVariables false
set_option maxHeartbeats 1000000 in
theorem valueIn_any (v : Value) (l : List P.Lb) (n : ByteArray) (w : World) (hr : RowL w v l) : Calls Try.prog 42 #[v, .string n] w fun e w' => e = .returned (.string (P.valL l n ⟨#[]⟩)) ∧ Below w.heap.size w w' := by
  obtain ⟨a, cap, rfl, ⟨hlc, hmax, hnn⟩, hcase⟩ := hr
  unfold maxLen at hmax
  go_enter Try.func42, Try.ntmps42
  go_wp2
  go_loopw [5, 10] (fun x i wr => ∃ (k : Nat), k ≤ l.length ∧ i = .int .i64 k ∧ x = .string (P.valL (l.take k) n ⟨#[]⟩) ∧ Below w.heap.size w wr) (fun _ i _ => l.length - (intOf i).toNat)
  case atStart => exact ⟨0, by omega, rfl, rfl, Below.refl _ _⟩
  case round =>
    obtain ⟨k, hk, rfl, rfl, hB⟩ := hrel
    by_cases hlt : k < l.length
    · rcases hcase with h | ⟨b, off, rfl, hbs, hcell⟩
      · rw [h] at hlt; simp at hlt
      have j0 : (0 : Int) ≤ (k : Int) := by omega
      have j1 : (k : Int) < (l.length : Int) := by omega
      obtain ⟨x, hx⟩ : ∃ x, l[k]? = some x := ⟨_, List.getElem?_eq_getElem hlt⟩
      obtain ⟨g0, g1⟩ := RowL.at hcell hx
      have q0 := (hB.cell (p := ⟨b, off + k * 2, none⟩) hbs).trans g0
      have q1 := (hB.cell (p := ⟨b, off + k * 2 + 1, none⟩) hbs).trans g1
      have HT := hide (P.valL_take hx n ⟨#[]⟩)
      obtain ⟨xn, xv⟩ := x
      clear hcell g0 g1 hx
      simp only at q0 q1 HT
      have hBW : Below w.heap.size w (wr.alloc (.cells #[.string xn, .string xv] 32)) := hB.alloc hB.size _
      generalize P.valL (l.take k) n ⟨#[]⟩ = T at HT
      cases he : (xn.toList == n.toList) with
      | true =>
        have HT2 : Hid (P.valL (l.take (k + 1)) n ⟨#[]⟩ = xv) := by show _ = _; rw [HT.out, if_pos he]
        go_wp2
        go_roundw
        case rel => exact ⟨k + 1, by omega, by go_num, by rw [HT2.out], hBW⟩
        case measure => simp [intOf]; omega
      | false =>
        have HT2 : Hid (P.valL (l.take (k + 1)) n ⟨#[]⟩ = T) := by show _ = _; rw [HT.out, if_neg (by rw [he]; decide)]
        go_wp2
        go_roundw
        case rel => exact ⟨k + 1, by omega, by go_num, by rw [HT2.out], hBW⟩
        case measure => simp [intOf]; omega
    · have hd : decide ((k : Int) < (l.length : Int)) = false := by simp; omega
      have HT : Hid (l.take k = l) := List.take_of_length_le (by omega)
      rw [HT.out]
      go_wp2
      go_ret
      exact ⟨rfl, hB⟩
end Go.Proofs.Ytlghnnmgbdjgoaa
