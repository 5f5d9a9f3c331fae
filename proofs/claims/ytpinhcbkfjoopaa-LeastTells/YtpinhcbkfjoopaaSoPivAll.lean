/- Several texts in one. -/
import Derived.Test.YtpinhcbkfjoopaaSoMedAll
/- Numbers below 2^64: the pivot. -/
namespace Go.Proofs.Ytpinhcbkfjoopaa
open Go.RowKit
set_option linter.unusedVariables false
theorem Cnt.fresh {B : Nat} {w0 w : World} {g n cap : Nat} {d : Array Int} (h : InR B w0 g n cap w d) : Cnt B (w.alloc (.cells #[.int .i64 0] 3)) g w.heap.size 0 := by
  have := h.lt
  have hg := heap_alloc_new w (.cells #[.int .i64 0] 3)
  exact ⟨by omega, by omega, by unfold World.cell?; rw [hg]; rfl, by unfold World.frozen?; rw [hg]; rfl, by omega⟩
set_option maxHeartbeats 4000000 in
set_option maxRecDepth 100000 in
/-- The pivot lies in the part; what is said of the order is one of three. -/
theorem piv_u {B : Nat} {w0 w : World} {g n cap : Nat} {d : Array Int} (h : InR B w0 g n cap w d) (a b : Nat) (hab : a + 12 < b) (hb : b ≤ n) (hn : n ≤ 1152921504606846976) :
    Calls Try.prog 48 #[.slice (some ⟨g, 0, none⟩) n cap, .int .i64 a, .int .i64 b] w fun e w' =>
      ∃ (m : Nat) (o : Int), e = .returned (.tuple #[.int .i64 m, .int .i64 o]) ∧ a ≤ m ∧ m < b ∧ InR B w0 g n cap w' d := by
  obtain ⟨l, hl⟩ : ∃ l, l = b - a := ⟨_, rfl⟩
  obtain ⟨t, ht⟩ : ∃ t, t = l / 4 := ⟨_, rfl⟩
  obtain ⟨i, hi⟩ : ∃ i, i = a + t := ⟨_, rfl⟩
  obtain ⟨j, hj⟩ : ∃ j, j = a + t * 2 := ⟨_, rfl⟩
  obtain ⟨k, hk⟩ : ∃ k, k = a + t * 3 := ⟨_, rfl⟩
  have el : IntKind.i64.wrap ((b : Int) - (a : Int)) = (l : Int) := by rw [IntKind.wrap_i64]; omega
  have et : (l : Int).tdiv 4 = (t : Int) := by rw [Int.tdiv_eq_ediv_of_nonneg (by omega)]; omega
  have et' : (l : Int) / 4 = (t : Int) := by omega
  have m1 : IntKind.i64.wrap ((t : Int) * 1) = (t : Int) := by rw [IntKind.wrap_i64]; omega
  have ei : IntKind.i64.wrap ((a : Int) + (t : Int)) = (i : Int) := by rw [IntKind.wrap_i64]; omega
  have ej : IntKind.i64.wrap ((a : Int) + (t : Int) * 2) = (j : Int) := by rw [IntKind.wrap_i64]; omega
  have ek : IntKind.i64.wrap ((a : Int) + (t : Int) * 3) = (k : Int) := by rw [IntKind.wrap_i64]; omega
  have t0 : (t : Int) ≤ 1152921504606846976 := by omega
  have hd8 : decide (8 ≤ (l : Int)) = true := by simp; omega
  have A := hide (And.intro hl (And.intro ht (And.intro hi (And.intro hj hk))))
  have HC0 := hide (Cnt.fresh h)
  have HK0 := hide (h.alloc (.cells #[.int .i64 0] 3))
  clear hl ht hi hj hk h
  by_cases h50 : 50 ≤ l
  · have hd50 : decide (50 ≤ (l : Int)) = true := by simp; omega
    go_enter Try.func48, Try.ntmps48
    have A1 := hide (adj_u HK0.out HC0.out i (by have := A.out; omega) (by have := A.out; omega) (by omega) hn)
    clear HK0 HC0
    go_wp2_with fail
    refine A1.out.mono ?_
    rintro e w3 ⟨p1, k3, rfl, g1, hr3, hc3, hk3⟩
    have A2 := hide (adj_u hr3 hc3 j (by have := A.out; omega) (by have := A.out; omega) (by omega) hn)
    have G1 := hide g1
    clear A1 hr3 hc3 g1
    go_wp2_with fail
    refine A2.out.mono ?_
    rintro e w4 ⟨p2, k4, rfl, g2, hr4, hc4, hk4⟩
    have A3 := hide (adj_u hr4 hc4 k (by have := A.out; omega) (by have := A.out; omega) (by omega) hn)
    have G2 := hide g2
    clear A2 hr4 hc4 g2
    go_wp2_with fail
    refine A3.out.mono ?_
    rintro e w5 ⟨p3, k5, rfl, g3, hr5, hc5, hk5⟩
    have HM := hide (med_u hr5 hc5 p1 p2 p3 (by have := A.out; have := G1.out; omega) (by have := A.out; have := G2.out; omega) (by have := A.out; omega) (by omega))
    have G3 := hide g3
    clear A3 hr5 hc5 g3
    go_wp2_with fail
    refine HM.out.mono ?_
    rintro e w2 ⟨m, k2, rfl, h2, hr2, hc2, hk2⟩
    have cs := hc2.cell
    have k0 := hc2.low
    have HK := hide hr2
    have H2 := hide h2
    clear hr2 hc2 h2 HM el et et' m1 ei ej ek
    have R := hide (fun (o : Int) => show ∃ (m' : Nat) (o' : Int), Ending.returned (.tuple #[.int .i64 m, .int .i64 o]) = .returned (.tuple #[.int .i64 m', .int .i64 o']) ∧ a ≤ m' ∧ m' < b ∧ InR B w0 g n cap w2 d from ⟨m, o, rfl, by have := A.out; have := H2.out; have := G1.out; have := G2.out; have := G3.out; omega, by have := A.out; have := H2.out; have := G1.out; have := G2.out; have := G3.out; omega, HK.out⟩)
    by_cases z0 : k2 = 0
    · subst z0
      go_wp2
      refine bodyPost_ret (results_tmp2 rfl _ _ _) rfl ?_
      exact R.out _
    · by_cases z1 : k2 = 12
      · subst z1
        go_wp2
        refine bodyPost_ret (results_tmp2 rfl _ _ _) rfl ?_
        exact R.out _
      · have hz0 : (k2 == 0) = false := by simpa using z0
        have hz1 : (k2 == 12) = false := by simpa using z1
        go_wp2
        refine bodyPost_ret (results_tmp2 rfl _ _ _) rfl ?_
        exact R.out _
  · have hd50 : decide (50 ≤ (l : Int)) = false := by simp; omega
    have HM := hide (med_u HK0.out HC0.out i j k (by have := A.out; omega) (by have := A.out; omega) (by have := A.out; omega) (by omega))
    go_enter Try.func48, Try.ntmps48
    go_wp2_with fail
    refine HM.out.mono ?_
    rintro e w2 ⟨m, k2, rfl, h2, hr2, hc2, hk2⟩
    have cs := hc2.cell
    have k0 := hc2.low
    have HK := hide hr2
    have H2 := hide h2
    clear hr2 hc2 h2 HM HC0 HK0 el et et' m1 ei ej ek
    have R := hide (fun (o : Int) => show ∃ (m' : Nat) (o' : Int), Ending.returned (.tuple #[.int .i64 m, .int .i64 o]) = .returned (.tuple #[.int .i64 m', .int .i64 o']) ∧ a ≤ m' ∧ m' < b ∧ InR B w0 g n cap w2 d from ⟨m, o, rfl, by have := A.out; have := H2.out; omega, by have := A.out; have := H2.out; omega, HK.out⟩)
    by_cases z0 : k2 = 0
    · subst z0
      go_wp2
      refine bodyPost_ret (results_tmp2 rfl _ _ _) rfl ?_
      exact R.out _
    · by_cases z1 : k2 = 12
      · subst z1
        go_wp2
        refine bodyPost_ret (results_tmp2 rfl _ _ _) rfl ?_
        exact R.out _
      · have hz0 : (k2 == 0) = false := by simpa using z0
        have hz1 : (k2 == 12) = false := by simpa using z1
        go_wp2
        refine bodyPost_ret (results_tmp2 rfl _ _ _) rfl ?_
        exact R.out _
end Go.Proofs.Ytpinhcbkfjoopaa
