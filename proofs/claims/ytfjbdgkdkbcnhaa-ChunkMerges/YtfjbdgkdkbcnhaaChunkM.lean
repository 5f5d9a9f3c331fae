/- What Merge answers. -/
import Derived.Test.YtfjbdgkdkbcnhaaChunkB
namespace Go.Proofs.Ytfjbdgkdkbcnhaa
open Go.RowKit
set_option linter.unusedVariables false
namespace P
/-- The error that Merge answers. -/
def merr (a b : List (Int × Int)) : Int := if chk a ≠ 0 then chk a else if chk b ≠ 0 then chk b else if 1000 < (mrg a b).length then 2 else 0
theorem merr_zero {a b : List (Int × Int)} (h : merr a b = 0) : chk a = 0 ∧ chk b = 0 ∧ (mrg a b).length ≤ 1000 := by
  unfold merr at h
  split at h
  · rename_i h1; exact absurd h h1
  · split at h
    · rename_i h1 h2; exact absurd h h2
    · split at h
      · omega
      · rename_i h1 h2 h3; exact ⟨Classical.not_not.1 h1, Classical.not_not.1 h2, by omega⟩
theorem merr_ok {a b : List (Int × Int)} (ha : chk a = 0) (hb : chk b = 0) (hl : (mrg a b).length ≤ 1000) : merr a b = 0 := by
  unfold merr; rw [if_neg (by simp [ha]), if_neg (by simp [hb]), if_neg (by omega)]
theorem merr_1 {a b : List (Int × Int)} (ha : chk a ≠ 0) : merr a b = chk a := by unfold merr; rw [if_pos ha]
theorem merr_2 {a b : List (Int × Int)} (ha : chk a = 0) (hb : chk b ≠ 0) : merr a b = chk b := by unfold merr; rw [if_neg (by simp [ha]), if_pos hb]
theorem merr_3 {a b : List (Int × Int)} (ha : chk a = 0) (hb : chk b = 0) (hl : 1000 < (mrg a b).length) : merr a b = 2 := by unfold merr; rw [if_neg (by simp [ha]), if_neg (by simp [hb]), if_pos hl]
theorem mrg_chk {a b : List (Int × Int)} (h : merr a b = 0) : chk (mrg a b) = 0 := by
  obtain ⟨h1, h2, h3⟩ := merr_zero h
  exact chk_ok h3 (mrg_ris _ _ (chk_zero h1).2 (chk_zero h2).2)
end P
theorem merge_bad (va vb : Value) (a b : List (Int × Int)) (w : World) (ha : RowS w va a) (hb : RowS w vb b) (he : P.merr a b ≠ 0) :
    Calls Try.prog 5 #[va, vb] w fun e w' => e = .returned (.tuple #[.slice none 0 0, .int .i64 (P.merr a b)]) ∧ Below w.heap.size w w' := by
  have HCa := hide (fun (w' : World) (h : Below w.heap.size w w') => check_any va a w' (ha.below h (Nat.le_refl _)))
  have HCb := hide (fun (w' : World) (h : Below w.heap.size w w') => check_any vb b w' (hb.below h (Nat.le_refl _)))
  by_cases h1 : P.chk a = 0
  · rw [h1] at HCa
    by_cases h2 : P.chk b = 0
    · rw [h2] at HCb
      have hl : 1000 < (P.mrg a b).length := by
        apply Classical.byContradiction
        intro h
        exact he (P.merr_ok h1 h2 (by omega))
      rw [P.merr_3 h1 h2 hl]
      have HB := hide (fun (w' : World) (h : Below w.heap.size w w') => both_any va vb a b w' (ha.below h (Nat.le_refl _)) (hb.below h (Nat.le_refl _)) (P.chk_zero h1).1 (P.chk_zero h2).1)
      have hll := P.mrg_length a b
      have hla := (P.chk_zero h1).1
      have hlb := (P.chk_zero h2).1
      obtain ⟨xa, ca, rfl⟩ := ha.shp
      obtain ⟨xb, cb, rfl⟩ := hb.shp
      clear ha hb h1 h2 he
      generalize P.mrg a b = m at *
      have hd : decide (1000 < (m.length : Int)) = true := by simp; omega
      go_enter Try.func5, Try.ntmps5
      go_wp2_with fail
      refine (HCa.out _ (Below.refl _ _)).mono ?_
      rintro e w1 ⟨rfl, hb⟩
      go_wp2_with fail
      refine (HCb.out _ hb).mono ?_
      rintro e w2 ⟨rfl, hb2⟩
      replace hb := Below.next hb hb2
      go_wp2_with fail
      refine (HB.out _ hb).mono ?_
      rintro e w3 ⟨v, rfl, hown, hb3⟩
      obtain ⟨av, cv, hv⟩ := hown.shp
      rw [hv]
      replace hb := Below.next hb hb3
      go_wp2
      go_ret2
      exact ⟨rfl, hb⟩
    · rw [P.merr_2 h1 h2]
      have ht : (P.chk b != 0) = true := by simpa using h2
      obtain ⟨xa, ca, rfl⟩ := ha.shp
      obtain ⟨xb, cb, rfl⟩ := hb.shp
      clear ha hb h1 h2 he
      generalize P.chk b = c at *
      go_enter Try.func5, Try.ntmps5
      go_wp2_with fail
      refine (HCa.out _ (Below.refl _ _)).mono ?_
      rintro e w1 ⟨rfl, hb⟩
      go_wp2_with fail
      refine (HCb.out _ hb).mono ?_
      rintro e w2 ⟨rfl, hb2⟩
      replace hb := Below.next hb hb2
      go_wp2
      go_ret2
      exact ⟨rfl, hb⟩
  · rw [P.merr_1 h1]
    have ht : (P.chk a != 0) = true := by simpa using h1
    obtain ⟨xa, ca, rfl⟩ := ha.shp
    obtain ⟨xb, cb, rfl⟩ := hb.shp
    clear ha hb h1 he
    generalize P.chk a = c at *
    go_enter Try.func5, Try.ntmps5
    go_wp2_with fail
    refine (HCa.out _ (Below.refl _ _)).mono ?_
    rintro e w1 ⟨rfl, hb⟩
    go_wp2
    go_ret2
    exact ⟨rfl, hb⟩
theorem merge_ok (va vb : Value) (a b : List (Int × Int)) (w : World) (ha : RowS w va a) (hb : RowS w vb b) (he : P.merr a b = 0) :
    Calls Try.prog 5 #[va, vb] w fun e w' => ∃ v', e = .returned (.tuple #[v', .int .i64 0]) ∧ OwnS w' w.heap.size v' (P.mrg a b) ∧ Below w.heap.size w w' := by
  obtain ⟨h1, h2, hl⟩ := P.merr_zero he
  have HCa := hide (fun (w' : World) (h : Below w.heap.size w w') => check_any va a w' (ha.below h (Nat.le_refl _)))
  have HCb := hide (fun (w' : World) (h : Below w.heap.size w w') => check_any vb b w' (hb.below h (Nat.le_refl _)))
  rw [h1] at HCa
  rw [h2] at HCb
  have HB := hide (fun (w' : World) (h : Below w.heap.size w w') => both_any va vb a b w' (ha.below h (Nat.le_refl _)) (hb.below h (Nat.le_refl _)) (P.chk_zero h1).1 (P.chk_zero h2).1)
  obtain ⟨xa, ca, rfl⟩ := ha.shp
  obtain ⟨xb, cb, rfl⟩ := hb.shp
  clear ha hb h1 h2 he
  generalize P.mrg a b = m at *
  have hd : decide (1000 < (m.length : Int)) = false := by simp; omega
  go_enter Try.func5, Try.ntmps5
  go_wp2_with fail
  refine (HCa.out _ (Below.refl _ _)).mono ?_
  rintro e w1 ⟨rfl, hb⟩
  go_wp2_with fail
  refine (HCb.out _ hb).mono ?_
  rintro e w2 ⟨rfl, hb2⟩
  replace hb := Below.next hb hb2
  clear hb2
  go_wp2_with fail
  refine (HB.out _ hb).mono ?_
  rintro e w3 ⟨v, rfl, hown, hb3⟩
  obtain ⟨av, cv, hv⟩ := hown.shp
  rw [hv] at hown ⊢
  replace hown := hown.base hb.size
  replace hb := Below.next hb hb3
  go_wp2
  go_ret2
  exact ⟨_, rfl, hown, hb⟩
end Go.Proofs.Ytfjbdgkdkbcnhaa
