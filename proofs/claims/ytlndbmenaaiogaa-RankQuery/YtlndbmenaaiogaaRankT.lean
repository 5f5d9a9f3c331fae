/- What upTo answers, and whether a number is among numbers. -/
import Derived.Test.YtlndbmenaaiogaaRankS
namespace Go.Proofs.Ytlndbmenaaiogaa
open Go.RowKit
set_option linter.unusedVariables false
theorem upTo_any (v : Value) (l : List Int) (x : Int) (w : World) (hr : RowK .i64 w v l) :
    Calls Try.prog 24 #[v, .int .i64 x] w fun e w' => e = .returned (.tuple #[.int .i64 (P.na x l : Nat), .int .i64 (P.na (x - 1) l : Nat)]) ∧ w' = w := by
  obtain ⟨a, cap, rfl, ⟨hlc, hmax, hnn⟩, hcase⟩ := hr
  unfold maxLen at hmax
  have HT := hide (fun (k : Nat) (hk : k < l.length) (z : Int) => show P.na z (l.take (k + 1)) = P.na z (l.take k) + (if l.getD k 0 ≤ z then 1 else 0) from by
    rw [List.take_add_one, List.getElem?_eq_getElem hk, Option.toList_some, P.na_app, P.na_cons, P.na_nil]
    simp [List.getD_eq_getElem?_getD, List.getElem?_eq_getElem hk])
  have HL := hide (fun (k : Nat) (z : Int) => show P.na z (l.take k) ≤ k from Nat.le_trans (P.na_le z _) (by simp; omega))
  go_enter Try.func24, Try.ntmps24
  go_wp2
  go_loop [12, 6, 7] (fun i n m => ∃ j : Nat, j ≤ l.length ∧ i = .int .i64 j ∧ n = .int .i64 (P.na x (l.take j) : Nat) ∧ m = .int .i64 (P.na (x - 1) (l.take j) : Nat)) (fun i _ _ => l.length - (intOf i).toNat)
  case atStart => exact ⟨0, by omega, rfl, rfl, rfl⟩
  case round =>
    obtain ⟨j, hj, rfl, rfl, rfl⟩ := hrel
    by_cases hlt : j < l.length
    · rcases hcase with h | ⟨b, off, rfl, hbs, hcell⟩
      · rw [h] at hlt; simp at hlt
      have q0 := hcell j hlt
      have j0 : (0 : Int) ≤ (j : Int) := by omega
      have j1 : (j : Int) < (l.length : Int) := by omega
      have hx := HT.out j hlt x
      have hy := HT.out j hlt (x - 1)
      have hlx := HL.out j x
      have hly := HL.out j (x - 1)
      clear hcell
      generalize l.getD j 0 = y at *
      generalize P.na x (l.take j) = n at *
      generalize P.na (x - 1) (l.take j) = m at *
      have HX := hide hx
      have HY := hide hy
      clear hx hy
      by_cases h1 : y ≤ x
      · by_cases h2 : y < x
        · go_wp2
          go_round
          case rel => exact ⟨j + 1, by omega, by go_num, by rw [HX.out, if_pos h1]; push_cast; rfl, by rw [HY.out, if_pos (by omega)]; push_cast; rfl⟩
          case measure => simp [intOf]; omega
        · have hd2 : decide (y < x) = false := by simpa using h2
          go_wp2
          go_round
          case rel => exact ⟨j + 1, by omega, by go_num, by rw [HX.out, if_pos h1]; push_cast; rfl, by rw [HY.out, if_neg (by omega)]; rfl⟩
          case measure => simp [intOf]; omega
      · have hd1 : decide (y ≤ x) = false := by simpa using h1
        have hd2 : decide (y < x) = false := by simp; omega
        go_wp2
        go_round
        case rel => exact ⟨j + 1, by omega, by go_num, by rw [HX.out, if_neg h1]; rfl, by rw [HY.out, if_neg (by omega)]; rfl⟩
        case measure => simp [intOf]; omega
    · have hd : decide ((j : Int) < (l.length : Int)) = false := by simp; omega
      obtain rfl : j = l.length := by omega
      rw [List.take_length]
      go_wp2
      go_ret2
      exact ⟨rfl, rfl⟩
theorem idx64_any (v : Value) (l : List Int) (x : Int) (w : World) (hr : RowK .i64 w v l) (hx : x ∈ l) :
    Calls Try.prog 45 #[v, .int .i64 x] w fun e w' => ∃ k : Nat, e = .returned (.int .i64 k) ∧ w' = w := by
  obtain ⟨a, cap, rfl, ⟨hlc, hmax, hnn⟩, hcase⟩ := hr
  unfold maxLen at hmax
  obtain ⟨p, hp, hpx⟩ : ∃ p, p < l.length ∧ l.getD p 0 = x := by
    obtain ⟨p, hp, e⟩ := List.mem_iff_getElem.1 hx
    exact ⟨p, hp, by simp [List.getD_eq_getElem?_getD, List.getElem?_eq_getElem hp, e]⟩
  have HP := hide hpx
  clear hx hpx
  go_enter Try.func45, Try.ntmps45
  go_wp2
  go_loop [8] (fun i => ∃ j : Nat, j ≤ p ∧ i = .int .i64 j) (fun i => l.length - (intOf i).toNat)
  case atStart => exact ⟨0, by omega, rfl⟩
  case round =>
    obtain ⟨j, hj, rfl⟩ := hrel
    rcases hcase with h | ⟨b, off, rfl, hbs, hcell⟩
    · rw [h] at hp; simp at hp
    have q0 := hcell j (by omega)
    have j0 : (0 : Int) ≤ (j : Int) := by omega
    have j1 : (j : Int) < (l.length : Int) := by omega
    clear hcell
    by_cases h1 : l.getD j 0 = x
    · have hd : (x == l.getD j 0) = true := by rw [beq_iff_eq]; exact h1.symm
      clear h1
      generalize l.getD j 0 = y at *
      go_wp2
      go_ret
      first | exact ⟨j, rfl, rfl⟩ | exact ⟨⟨j, rfl⟩, rfl⟩
    · have hd : (x == l.getD j 0) = false := by rw [beq_eq_false_iff_ne]; exact fun e => h1 e.symm
      have hlt : j < p := by
        rcases Nat.lt_or_ge j p with h | h
        · exact h
        · obtain rfl : j = p := by omega
          exact absurd HP.out h1
      clear h1 HP
      generalize l.getD j 0 = y at *
      go_wp2
      go_round
      case rel => exact ⟨j + 1, by omega, by go_num⟩
      case measure => simp [intOf]; omega
theorem contains_yes (v : Value) (l : List Int) (x : Int) (w : World) (hr : RowK .i64 w v l) (hx : x ∈ l) :
    Calls Try.prog 25 #[v, .int .i64 x] w fun e w' => e = .returned (.bool true) ∧ w' = w := by
  have HI := hide (idx64_any v l x w hr hx)
  clear hr hx
  go_enter Try.func25, Try.ntmps25
  go_wp2_with (go_at_call 45; go_must (refine HI.out.mono ?_); rintro e w' ⟨k, rfl, rfl⟩)
  go_ret
  exact ⟨rfl, rfl⟩
end Go.Proofs.Ytlndbmenaaiogaa
