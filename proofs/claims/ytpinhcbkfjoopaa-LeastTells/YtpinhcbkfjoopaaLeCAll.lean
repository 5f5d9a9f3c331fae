/- Several texts in one. -/
import Derived.Test.YtpinhcbkfjoopaaKitLeAll
/- What isK, rises and Check answer. -/
namespace Go.Proofs.Ytpinhcbkfjoopaa
open Go.RowKit
set_option linter.unusedVariables false
set_option linter.unusedSimpArgs false
set_option maxHeartbeats 1000000 in
theorem isK_any (k : Int) (w : World) : Calls Try.prog 29 #[.int .i64 k] w fun e w' => e = .returned (.bool (decide (2 ≤ k ∧ k ≤ 64))) ∧ w' = w := by
  by_cases h1 : 2 ≤ k
  · have hd : decide (2 ≤ k) = true := by simpa using h1
    go_enter Try.func29, Try.ntmps29
    go_wp2
    go_ret
    exact ⟨by simp [h1], rfl⟩
  · have hd : decide (2 ≤ k) = false := by simpa using h1
    go_enter Try.func29, Try.ntmps29
    go_wp2
    go_ret
    exact ⟨by simp [h1], rfl⟩
theorem up_at {l : List Int} (h : ∀ j, 0 < j → j < l.length → l.getD (j - 1) 0 < l.getD j 0) : P.Up l := by
  have hs : ∀ i j, i < j → j < l.length → l.getD i 0 < l.getD j 0 := by
    intro i j h1
    induction j with
    | zero => omega
    | succ j ih =>
      intro h2
      have h3 := h (j + 1) (by omega) h2
      rw [Nat.add_sub_cancel] at h3
      rcases Nat.lt_or_ge i j with h4 | h4
      · have := ih h4 (by omega); omega
      · obtain rfl : i = j := by omega
        exact h3
  refine List.pairwise_iff_getElem.2 fun i j h1 h2 h3 => ?_
  have := hs i j h3 h2
  simpa [List.getD_eq_getElem?_getD, List.getElem?_eq_getElem h1, List.getElem?_eq_getElem h2] using this
theorem up_of {l : List Int} (h : P.Up l) {i j : Nat} (h1 : i < j) (h2 : j < l.length) : l.getD i 0 < l.getD j 0 := by
  have := List.pairwise_iff_getElem.1 h i j (by omega) h2 h1
  simpa [List.getD_eq_getElem?_getD, List.getElem?_eq_getElem h2, List.getElem?_eq_getElem (show i < l.length by omega)] using this
set_option maxHeartbeats 1000000 in
theorem rises_any (v : Value) (l : List Int) (w : World) (hr : RowK .u64 w v l) :
    Calls Try.prog 32 #[v] w fun e w' => ∃ b : Bool, e = .returned (.bool b) ∧ (b = true ↔ P.Up l) ∧ ∃ q, w' = w.drewN q := by
  obtain ⟨a, cap, rfl, ⟨hlc, hmax, _⟩, hcase⟩ := hr
  unfold maxLen at hmax
  go_enter Try.func32, Try.ntmps32
  go_wp2
  go_loopw [3] (fun vj wr => ∃ j : Nat, vj = .int .i64 j ∧ 1 ≤ j ∧ j ≤ l.length + 1 ∧ Hid (∀ i, 0 < i → i < j → i < l.length → l.getD (i - 1) 0 < l.getD i 0) ∧ ∃ q, wr = w.drewN q) (fun vj _ => l.length + 1 - (intOf vj).toNat)
  case atStart => exact ⟨1, rfl, Nat.le_refl _, by omega, hide fun i h1 h2 => by omega, 0, rfl⟩
  case round =>
    obtain ⟨j, rfl, hj1, hjn, HI, q, rfl⟩ := hrel
    by_cases hlt : j < l.length
    · have hd : decide ((j : Int) < (l.length : Int)) = true := by simp; omega
      rcases hcase with h | ⟨b, off, rfl, hbs, hcell⟩
      · rw [h] at hlt; simp at hlt
      obtain ⟨k, hk⟩ : ∃ k, k + 1 = j := ⟨j - 1, by omega⟩
      have ek : IntKind.i64.wrap ((j : Int) - 1) = (k : Int) := by rw [IntKind.wrap_i64]; omega
      have HK := hide hk
      have c1 := hcell j hlt
      have c2 := hcell k (by omega)
      have j0 : (0 : Int) ≤ (j : Int) := by omega
      have j1 : (j : Int) < (l.length : Int) := by omega
      have j2 : (0 : Int) ≤ (k : Int) := by omega
      have j3 : (k : Int) < (l.length : Int) := by omega
      obtain ⟨x, hx⟩ : ∃ x, l.getD j 0 = x := ⟨_, rfl⟩
      obtain ⟨y, hy⟩ : ∃ y, l.getD k 0 = y := ⟨_, rfl⟩
      rw [hx] at c1
      rw [hy] at c2
      have HX := hide hx
      have HY := hide hy
      clear hx hy hcell hk
      by_cases hxy : x ≤ y
      · have hd2 : decide (x ≤ y) = true := by simpa using hxy
        go_wp2
        go_quiet (fail)
        go_wp2
        go_ret
        refine ⟨false, rfl, ?_, q + nq, by first | rfl | (rw [World.drewN_drewN])⟩
        simp only [Bool.false_eq_true, false_iff]
        intro h
        have h2 := up_of h (show k < j by have := HK.out; omega) hlt
        rw [HX.out, HY.out] at h2
        omega
      · have hd2 : decide (x ≤ y) = false := by simpa using hxy
        go_wp2
        go_quiet (fail)
        go_wp2
        go_roundw
        case rel =>
          refine ⟨j + 1, by go_num, by omega, by omega, hide fun i h1 h2 h3 => ?_, q + nq, by first | rfl | (rw [World.drewN_drewN])⟩
          rcases Nat.lt_or_ge i j with h4 | h4
          · exact HI.out i h1 h4 h3
          · obtain rfl : i = j := by omega
            rw [show i - 1 = k by have := HK.out; omega, HX.out, HY.out]; omega
        case measure => simp [intOf]; omega
    · have hd : decide ((j : Int) < (l.length : Int)) = false := by simp; omega
      go_wp2
      go_ret
      refine ⟨true, rfl, ?_, q, rfl⟩
      simp only [true_iff]
      exact up_at fun i h1 h2 => HI.out i h1 (by omega) h2
set_option maxHeartbeats 2000000 in
/-- Check says whether a sieve may stand. -/
theorem Check_any (lv : Value) (s : P.Ls) (w : World) (hr : RowK .u64 w lv s.h) :
    Calls Try.prog 14 #[aggL lv s] w fun e w' => e = .returned (.int .i64 (P.chkL s)) ∧ Below w.heap.size w w' := by
  obtain ⟨k, l⟩ := s
  obtain ⟨c, hc⟩ : ∃ c, P.chkL ⟨k, l⟩ = c := ⟨_, rfl⟩
  have HC := hide hc
  rw [hc]
  clear hc
  simp only at hr
  have hb := (Below.refl w.heap.size w).alloc (Nat.le_refl _) (.cells #[.int .i64 k, lv] 24)
  have HR := hide (fun wx (h : Below (w.alloc (.cells #[.int .i64 k, lv] 24)).heap.size (w.alloc (.cells #[.int .i64 k, lv] 24)) wx) => rises_any lv l wx ((hr.below hb (Nat.le_refl _)).below h (Nat.le_refl _)))
  have HI := hide (fun wx => isK_any k wx)
  have HB := hide hb
  obtain ⟨a, cap, rfl⟩ := hr.shp
  have hx : BoxL (w.alloc (.cells #[.int .i64 k, .slice a l.length cap] 24)) w.heap.size (.slice a l.length cap) ⟨k, l⟩ := BoxL.new w _ ⟨k, l⟩
  obtain ⟨c0, c1⟩ := hx.cells
  simp only at c0
  clear hr hb hx
  by_cases h1 : 2 ≤ k ∧ k ≤ 64
  · rw [decide_eq_true h1] at HI
    by_cases h2 : k < (l.length : Int)
    · have hd : decide (k < (l.length : Int)) = true := by simpa using h2
      have HE : Hid (c = 4) := hide (by rw [← HC.out]; exact P.chkL_no fun h => by have := h.len; simp at this; omega)
      go_enter Try.func14, Try.ntmps14
      go_wp2_with (go_at_call 29; go_must (refine (HI.out _).mono ?_); rintro e w' ⟨rfl, rfl⟩)
      go_ret
      rw [HE.out]
      exact ⟨rfl, HB.out⟩
    · have hd : decide (k < (l.length : Int)) = false := by simpa using h2
      have HE : Hid (∀ b : Bool, (b = true ↔ P.Up l) → c = if b then 0 else 4) := hide (fun b hb => by
        rw [← HC.out]
        cases b
        · exact P.chkL_no fun h => by have := hb.2 h.up; cases this
        · exact P.chkL_ok ⟨h1.1, h1.2, by simp; omega, hb.1 rfl⟩)
      go_enter Try.func14, Try.ntmps14
      go_wp2_with first
        | (go_at_call 29; go_must (refine (HI.out _).mono ?_); rintro e w' ⟨rfl, rfl⟩)
        | (go_at_call 32; go_must (refine (HR.out _ (Below.refl _ _)).mono ?_); rintro e w' ⟨b, rfl, hb, q, rfl⟩; have HBB := hide hb; clear hb; cases b)
      · go_ret
        rw [HE.out false HBB.out]
        exact ⟨rfl, below_dn HB.out _⟩
      · go_ret
        rw [HE.out true ⟨fun _ => HBB.out.1 trivial, fun _ => rfl⟩]
        exact ⟨rfl, below_dn HB.out _⟩
  · rw [decide_eq_false h1] at HI
    have HE : Hid (c = 4) := hide (by rw [← HC.out]; exact P.chkL_no fun h => h1 ⟨h.k2, h.k64⟩)
    go_enter Try.func14, Try.ntmps14
    go_wp2_with (go_at_call 29; go_must (refine (HI.out _).mono ?_); rintro e w' ⟨rfl, rfl⟩)
    go_ret
    rw [HE.out]
    exact ⟨rfl, HB.out⟩
end Go.Proofs.Ytpinhcbkfjoopaa
