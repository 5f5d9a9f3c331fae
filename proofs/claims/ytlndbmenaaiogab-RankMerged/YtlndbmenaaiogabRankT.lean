/- What upTo answers, and whether a number is among numbers. -/
import Derived.Test.YtlndbmenaaiogabRankS
namespace Go.Proofs.Ytlndbmenaaiogab
open Go.RowKit
set_option linter.unusedVariables false
theorem upTo_any (v : Value) (l : List Int) (x : Int) (w : World) (hr : RowK .i64 w v l) :
    Calls Try.prog 10 #[v, .int .i64 x] w fun e w' => e = .returned (.tuple #[.int .i64 (P.na x l : Nat), .int .i64 (P.na (x - 1) l : Nat)]) ∧ w' = w := by
  obtain ⟨a, cap, rfl, ⟨hlc, hmax, hnn⟩, hcase⟩ := hr
  unfold maxLen at hmax
  have HT := hide (fun (k : Nat) (hk : k < l.length) (z : Int) => show P.na z (l.take (k + 1)) = P.na z (l.take k) + (if l.getD k 0 ≤ z then 1 else 0) from by
    rw [List.take_add_one, List.getElem?_eq_getElem hk, Option.toList_some, P.na_app, P.na_cons, P.na_nil]
    simp [List.getD_eq_getElem?_getD, List.getElem?_eq_getElem hk])
  have HL := hide (fun (k : Nat) (z : Int) => show P.na z (l.take k) ≤ k from Nat.le_trans (P.na_le z _) (by simp; omega))
  go_enter Try.func10, Try.ntmps10
  go_wp2
  go_loop [12, 6, 7] (fun i n m => ∃ j : Nat, j ≤ l.length ∧ i = .int .i64 j ∧ n = .int .i64 (P.na x (l.take j) : Nat) ∧ m = .int .i64 (P.na (x - 1) (l.take j) : Nat)) (fun i _ _ => l.length - (intOf i).toNat)
  case atStart => exact ⟨0, by omega, rfl, rfl, rfl⟩
  case round =>
    obtain ⟨j, hj, rfl, rfl, rfl⟩ := hrel
    by_cases hlt : j < l.length
    · rcases hcase with h | ⟨b, off, rfl, hbs, hcell⟩
      · rw [h] at hlt; simp at hlt
      have q0 := hcell j hlt
      have j0 : (0 : Int) ≤ (j : Int) := by omega
      have j1 : (j : Int) < (l.length : Int) := by omega
      have hx := HT.out j hlt x
      have hy := HT.out j hlt (x - 1)
      have hlx := HL.out j x
      have hly := HL.out j (x - 1)
      clear hcell
      generalize l.getD j 0 = y at *
      generalize P.na x (l.take j) = n at *
      generalize P.na (x - 1) (l.take j) = m at *
      have HX := hide hx
      have HY := hide hy
      clear hx hy
      by_cases h1 : y ≤ x
      · by_cases h2 : y < x
        · go_wp2
          go_round
          case rel => exact ⟨j + 1, by omega, by go_num, by rw [HX.out, if_pos h1]; push_cast; rfl, by rw [HY.out, if_pos (by omega)]; push_cast; rfl⟩
          case measure => simp [intOf]; omega
        · have hd2 : decide (y < x) = false := by simpa using h2
          go_wp2
          go_round
          case rel => exact ⟨j + 1, by omega, by go_num, by rw [HX.out, if_pos h1]; push_cast; rfl, by rw [HY.out, if_neg (by omega)]; rfl⟩
          case measure => simp [intOf]; omega
      · have hd1 : decide (y ≤ x) = false := by simpa using h1
        have hd2 : decide (y < x) = false := by simp; omega
        go_wp2
        go_round
        case rel => exact ⟨j + 1, by omega, by go_num, by rw [HX.out, if_neg h1]; rfl, by rw [HY.out, if_neg (by omega)]; rfl⟩
        case measure => simp [intOf]; omega
    · have hd : decide ((j : Int) < (l.length : Int)) = false := by simp; omega
      obtain rfl : j = l.length := by omega
      rw [List.take_length]
      go_wp2
      go_ret2
      exact ⟨rfl, rfl⟩
end Go.Proofs.Ytlndbmenaaiogab
