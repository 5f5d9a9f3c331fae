/- Several texts in one. -/
import Derived.Test.YtpinhcbkfjoopaaSoInsAll
/- Numbers below 2^64: a part turned around; sift down; heap sort. -/
namespace Go.Proofs.Ytpinhcbkfjoopaa
open Go.RowKit
set_option linter.unusedVariables false
set_option maxHeartbeats 4000000 in
set_option maxRecDepth 100000 in
/-- A part turned around: its numbers among themselves. -/
theorem rev_u {B : Nat} {w0 w : World} {g n cap : Nat} {d : Array Int} (h : InR B w0 g n cap w d) (a b : Nat) (hab : a ≤ b) (hb : b ≤ n) (hn : n ≤ 1152921504606846976) :
    Calls Try.prog 49 #[.slice (some ⟨g, 0, none⟩) n cap, .int .i64 a, .int .i64 b] w fun e w' =>
      e = .returned (.tuple #[]) ∧ ∃ d', InR B w0 g n cap w' d' ∧ Sort.PermIn a b d d' := by
  go_enter Try.func49, Try.ntmps49
  go_wp2
  go_loopw [6, 7] (fun vi vj wr => ∃ (i : Nat) (jj : Int) (dk : Array Int), vi = .int .i64 i ∧ vj = .int .i64 jj ∧ a ≤ i ∧ i ≤ b ∧ jj < b ∧ -1 ≤ jj ∧ InR B w0 g n cap wr dk ∧ Hid (Sort.PermIn a b d dk)) (fun vi vj _ => (numOf vj + 1 - numOf vi).toNat)
  case atStart => exact ⟨a, (b : Int) - 1, d, rfl, by first | rfl | go_num, by omega, by omega, by omega, by omega, h, hide (Sort.permIn_refl d a b)⟩
  case round =>
    obtain ⟨i, jj, dk, rfl, rfl, hai, hib, hjb, hj1, hk, HP⟩ := hrel
    by_cases hij : (i : Int) < jj
    · obtain ⟨j, rfl⟩ : ∃ j : Nat, jj = (j : Int) := ⟨jj.toNat, by omega⟩
      have HK := hide hk
      have HS := hide hk.size
      have c1 := hk.cell i (by omega)
      have c2 := hk.cell j (by omega)
      have f1 := hk.free i
      have f2 := hk.free j
      have X1 := hide (rfl : dk[i]! = dk[i]!)
      have X2 := hide (rfl : dk[j]! = dk[j]!)
      have j0 : (0 : Int) ≤ (i : Int) := by omega
      have j1 : (i : Int) < (n : Int) := by omega
      have j2 : (0 : Int) ≤ (j : Int) := by omega
      have j3 : (j : Int) < (n : Int) := by omega
      have hne : i ≠ j := by omega
      have hd : decide ((i : Int) < (j : Int)) = true := by simpa using hij
      clear hk h
      generalize hx : dk[i]! = x at c1 X1
      generalize hy : dk[j]! = y at c2 X2
      have HX := hide hx
      have HY := hide hy
      clear hx hy X1 X2
      go_wp2
      go_region
      all_goals go_wp2
      go_roundw
      case rel =>
        refine ⟨i + 1, (j : Int) - 1, Sort.swp dk i j, by go_num, by first | rfl | go_num, by omega, by omega, by omega, by omega, ?_, ?_⟩
        · rw [← HX.out, ← HY.out]; exact (HK.out.draw _).swap i j
        · exact hide (Sort.permIn_trans _ _ _ _ _ HP.out (Sort.swp_permIn dk a b i j (by omega) (by omega) (by omega) (by omega) (by have := HS.out; omega)))
      case measure => simp [numOf]; omega
    · have hd : decide ((i : Int) < jj) = false := by simpa using hij
      go_wp2
      go_end0
      exact ⟨rfl, dk, hk, HP.out⟩
end Go.Proofs.Ytpinhcbkfjoopaa
