/- Several texts in one. -/
import Derived.Test.YtpinhcbkfjoopaaSoPdqAll
/- Numbers below 2^64: slices.Sort. -/
namespace Go.Proofs.Ytpinhcbkfjoopaa
open Go.RowKit
set_option linter.unusedVariables false
/-- A list in rising order. -/
abbrev srtU (l : List Int) : List Int := l.mergeSort fun x y => !Sort.ltInt y x
set_option maxHeartbeats 4000000 in
/-- A row of one's own is sorted where it lies. -/
theorem sort_in {B : Nat} {w0 w : World} {g n cap : Nat} {d : Array Int} (h : InR B w0 g n cap w d) (hn : n ≤ 1152921504606846976) :
    Calls Try.prog 26 #[.slice (some ⟨g, 0, none⟩) n cap] w fun e w' => e = .returned (.tuple #[]) ∧ InR B w0 g n cap w' (srtU d.toList).toArray := by
  have HL := hide (fun w => len_u (n : Int) w (by omega) (by omega))
  have hl : Lib.bitLen n ≤ 61 := Lib.bitLen_le n 61 (by decide) (by omega)
  have HP := hide (pdq_u hn (n + 1) w d h 0 n (Lib.bitLen n) (by omega) (Nat.zero_le _) (Nat.le_refl _) (by omega) (hide (Or.inl rfl)))
  have hsz := h.size
  clear h
  go_enter Try.func26, Try.ntmps26
  have eu : IntKind.u64.wrap (n : Int) = (n : Int) := by rw [IntKind.wrap_u64]; omega
  go_wp2_with fail
  refine (HL.out _).mono ?_
  rintro e w' ⟨rfl, rfl⟩
  rw [Int.toNat_natCast]
  generalize Lib.bitLen n = k at *
  go_wp2_with fail
  refine HP.out.mono ?_
  rintro e w1 ⟨rfl, R, hR, pR, sR⟩
  have HR := hide hR
  have HPR := hide (And.intro pR sR)
  clear hR pR sR HP
  trace_state
  go_wp2
  go_end0
  refine ⟨rfl, ?_⟩
  have e : R.toList = srtU d.toList := Sort.sorted_unique_holds Sort.swo_ltInt (fun x y h1 h2 => by simp [Sort.ltInt] at h1 h2; omega) d R (by rw [hsz]; exact HPR.out.1) (by rw [hsz]; exact HPR.out.2)
  rw [← e]
  exact HR.out
set_option maxHeartbeats 4000000 in
theorem ins_none (w : World) (cap : Nat) (p : Option Addr) :
    Calls Try.prog 45 #[.slice p 0 cap, .int .i64 0, .int .i64 0] w fun e w' => e = .returned (.tuple #[]) ∧ w' = w := by
  go_enter Try.func45, Try.ntmps45
  go_wp2
  refine wp_loop_rounds 1 ?_
  rw [rounds_succ]
  go_wp2
  go_end0
  exact ⟨rfl, rfl⟩
set_option maxHeartbeats 4000000 in
theorem pdq_none (w : World) (cap : Nat) (p : Option Addr) :
    Calls Try.prog 38 #[.slice p 0 cap, .int .i64 0, .int .i64 0, .int .i64 0] w fun e w' => e = .returned (.tuple #[]) ∧ w' = w := by
  have HI := hide (fun w => ins_none w cap p)
  go_enter Try.func38, Try.ntmps38
  go_wp2
  refine wp_loop_rounds 1 ?_
  rw [rounds_succ]
  go_wp2_with fail
  refine (HI.out _).mono ?_
  rintro e w' ⟨rfl, rfl⟩
  go_wp2
  (try simp only [Exit.inBlock, Exit.then]); refine bodyPost_ret (results_none rfl _ _ _) rfl ?_
  exact ⟨rfl, rfl⟩
set_option maxHeartbeats 4000000 in
/-- No row at all. -/
theorem sort_none (w : World) (cap : Nat) (p : Option Addr) :
    Calls Try.prog 26 #[.slice p 0 cap] w fun e w' => e = .returned (.tuple #[]) ∧ w' = w := by
  have HL := hide (fun w => len_u 0 w (by omega) (by omega))
  have HP := hide (fun w => pdq_none w cap p)
  go_enter Try.func26, Try.ntmps26
  go_wp2_with fail
  refine (HL.out _).mono ?_
  rintro e w' ⟨rfl, rfl⟩
  rw [show Lib.bitLen (Int.toNat 0) = 0 by decide]
  go_wp2_with fail
  refine (HP.out _).mono ?_
  rintro e w1 ⟨rfl, rfl⟩
  go_wp2
  go_end0
  exact ⟨rfl, rfl⟩
end Go.Proofs.Ytpinhcbkfjoopaa
