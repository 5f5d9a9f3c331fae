/- Plain: what Seal makes are bytes. -/
import Derived.Test.YtfjbdgkdkbcnhaaDoorCsplitAll
namespace Go.Proofs.YtfjbdgkdkbcnhaaDoor
open Go.RowKit
set_option linter.unusedVariables false
theorem P.putL_byt (f : Nat) : ∀ u : Int, 0 ≤ u → u < 2 * 128 ^ f → ∀ x ∈ P.putL f u, 0 ≤ x ∧ x ≤ 255 := by
  induction f with
  | zero =>
    intro u h0 h1 x hx
    rw [P.putL_small 0 u (by simp at h1; omega)] at hx
    simp at hx h1; omega
  | succ f ih =>
    intro u h0 h1 x hx
    by_cases h : u < 128
    · rw [P.putL_small _ u h] at hx; simp at hx; omega
    · obtain ⟨g, hg, e, hlt⟩ := P.putL_step (f + 1) u (by omega) h1
      obtain rfl : f = g := by omega
      rw [e] at hx
      rcases List.mem_cons.1 hx with rfl | hx
      · omega
      · exact ih _ (by omega) hlt x hx
theorem P.put_byt (u : Int) (h0 : 0 ≤ u) (h1 : u ≤ 18446744073709551615) : ∀ x ∈ P.put u, 0 ≤ x ∧ x ≤ 255 := by
  have : (128 : Int) ^ 9 = 9223372036854775808 := by decide
  exact P.putL_byt 9 u h0 (by omega)
theorem P.sealB_byt (l : List (Int × Int)) (h : P.chk l = 0) : Byt (P.sealB l) := by
  have hn := (P.chk_zero h).1
  have hT : (P.tms l).length ≤ 1000 := by unfold P.tms; simpa using hn
  have hM : (P.mss l).length ≤ 1000 := by unfold P.mss; simpa using hn
  have hlT := P.packT_le hT
  have hlM := P.packM_le hM
  have hput : ∀ u : Nat, u ≤ 80000 → ∀ x ∈ P.put (u : Int), 0 ≤ x ∧ x ≤ 255 := fun u hu => P.put_byt u (by omega) (by omega)
  intro x hx
  unfold P.sealB P.ptB at hx
  rcases List.mem_append.1 hx with hx | hx
  · rcases List.mem_append.1 hx with hx | hx
    · exact hput _ hlT x hx
    · exact P.pack_byt _ _ x hx
  · rcases List.mem_append.1 hx with hx | hx
    · exact hput _ hlM x hx
    · exact P.pack_byt _ _ x hx
end Go.Proofs.YtfjbdgkdkbcnhaaDoor
