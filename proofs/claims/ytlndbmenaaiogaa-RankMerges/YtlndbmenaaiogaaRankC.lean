/- What Check answers of a rank, and what it calls. -/
import Derived.Test.YtlndbmenaaiogaaKitR
namespace Go.Proofs.Ytlndbmenaaiogaa
open Go.RowKit
set_option linter.unusedVariables false
namespace P
open Classical in
noncomputable def incB (l : List Int) : Bool := decide (Inc l)
theorem incB_yes {l : List Int} (h : Inc l) : incB l = true := by unfold incB; simpa using h
theorem incB_no {l : List Int} (h : ¬ Inc l) : incB l = false := by unfold incB; simpa using h
theorem incB_iff {l : List Int} : incB l = true ↔ Inc l := by unfold incB; simp
theorem inc_at {l : List Int} (h : Inc l) {i j : Nat} (hij : i < j) (hj : j < l.length) : l.getD i 0 ≤ l.getD j 0 := by
  have := List.pairwise_iff_getElem.1 h i j (by omega) hj hij
  simpa [List.getD_eq_getElem?_getD, List.getElem?_eq_getElem hj, List.getElem?_eq_getElem (show i < l.length by omega)] using this
theorem inc_of_steps (l : List Int) (h : ∀ i, i + 1 < l.length → l.getD i 0 ≤ l.getD (i + 1) 0) : Inc l := by
  have step : ∀ d i, i + d + 1 < l.length → l.getD i 0 ≤ l.getD (i + d + 1) 0 := by
    intro d
    induction d with
    | zero => intro i hi; exact h i hi
    | succ d ih => intro i hi; have h1 := ih i (by omega); have h2 := h (i + d + 1) (by omega); rw [show i + (d + 1) + 1 = i + d + 1 + 1 by omega]; omega
  refine List.pairwise_iff_getElem.2 fun i j hi hj hij => ?_
  have := step (j - i - 1) i (by omega)
  rw [show i + (j - i - 1) + 1 = j by omega] at this
  simpa [List.getD_eq_getElem?_getD, List.getElem?_eq_getElem hj, List.getElem?_eq_getElem hi] using this
end P
theorem dn_ex {w w' : World} (h : ∃ q, w' = w.drewN q) (n : Nat) : ∃ q, w'.drewN n = w.drewN q := by obtain ⟨q, rfl⟩ := h; exact ⟨_, World.drewN_drewN _ _ _⟩
theorem cmpLess_any (x y : Int) (w : World) : Calls Try.prog 54 #[.int .i64 x, .int .i64 y] w fun e w' => e = .returned (.bool (decide (x < y))) ∧ w' = w := by
  cases h : decide (x < y) with
  | true =>
    go_enter Try.func54, Try.ntmps54
    go_wp2
    go_ret
    exact ⟨rfl, rfl⟩
  | false =>
    go_enter Try.func54, Try.ntmps54
    go_wp2
    go_ret
    exact ⟨rfl, rfl⟩
set_option maxHeartbeats 1000000 in
theorem isSorted_any (v : Value) (l : List Int) (w : World) (h : RowK .i64 w v l) : Calls Try.prog 48 #[v] w fun e w' => e = .returned (.bool (P.incB l)) ∧ ∃ q, w' = w.drewN q := by
  have HL := hide (fun x y w => cmpLess_any x y w)
  obtain ⟨a, cap, rfl, ⟨hlc, hmax, hnn⟩, hcase⟩ := h
  unfold maxLen at hmax
  have h0 : IntKind.i64.wrap ((l.length : Int) - 1) = (l.length : Int) - 1 := by rw [IntKind.wrap_i64]; omega
  go_enter Try.func48, Try.ntmps48
  go_wp2
  go_loopw [3] (fun i wr => ∃ (z : Int), -1 ≤ z ∧ z < (l.length : Int) ∧ i = .int .i64 z ∧ (∀ k : Nat, z ≤ k → k + 1 < l.length → l.getD k 0 ≤ l.getD (k + 1) 0) ∧ ∃ q, wr = w.drewN q) (fun i _ => (intOf i).toNat)
  case atStart => exact ⟨(l.length : Int) - 1, by omega, by omega, rfl, fun k h1 h2 => by omega, 0, rfl⟩
  case round =>
    obtain ⟨z, hz0, hz1, rfl, hst, hq⟩ := hrel
    have HS := hide hst
    have HQ := hide hq
    have hcw : ∀ (p : Addr), wr.cell? p = w.cell? p := by obtain ⟨q, rfl⟩ := hq; exact fun _ => rfl
    clear hst hq
    by_cases hp : 0 < z
    · obtain ⟨k, p, rfl, hkp⟩ : ∃ k p : Nat, z = (p : Int) ∧ p = k + 1 := ⟨(z - 1).toNat, z.toNat, by omega, by omega⟩
      rcases hcase with h | ⟨b, off, rfl, hbs, hcell⟩
      · rw [h] at hz1; simp at hz1; omega
      have q0 := fun n => (show (wr.drewN n).cell? ⟨b, off + p, none⟩ = _ from (hcw _).trans (hcell p (by omega)))
      have q1 := fun n => (show (wr.drewN n).cell? ⟨b, off + k, none⟩ = _ from (hcw _).trans (hcell k (by omega)))
      clear hcw
      have HLs := hide (fun w => HL.out (l.getD p 0) (l.getD k 0) w)
      have e1 : IntKind.i64.wrap ((p : Int) - 1) = (k : Int) := by rw [IntKind.wrap_i64]; omega
      have j0 : (0 : Int) ≤ (k : Int) := by omega
      have j1 : (k : Int) < (l.length : Int) := by omega
      have j2 : (0 : Int) ≤ (p : Int) := by omega
      have j3 : (k : Int) < (p : Int) := by omega
      have hd : decide (0 < (p : Int)) = true := by simp; omega
      have hp2 : ¬ ((p : Int) < 0) := by omega
      by_cases hlt : l.getD p 0 < l.getD k 0
      · have HF : Hid (P.incB l = false) := P.incB_no fun hi => by have := P.inc_at hi (show k < p by omega) (by omega); omega
        rw [decide_eq_true hlt] at HLs
        generalize l.getD p 0 = lp at q0 HLs
        generalize l.getD k 0 = lk at q1 HLs
        clear hkp HL hcell hz0 hlt
        go_wp2
        go_quiet ((go_at_call 54; exact Calls.quiet_of_same (HLs.out _)))
        go_wp2
        go_ret
        exact ⟨by rw [HF.out]; rfl, dn_ex HQ.out _⟩
      · have HK := hide hkp
        rw [decide_eq_false hlt] at HLs
        generalize hlp : l.getD p 0 = lp at q0 HLs hlt
        generalize hlk : l.getD k 0 = lk at q1 HLs hlt
        have HF : Hid (lk ≤ lp) := hide (by omega)
        have HP1 := hide hlp
        have HP2 := hide hlk
        clear hkp HL hcell hz0 hlt hlp hlk
        go_wp2
        go_quiet ((go_at_call 54; exact Calls.quiet_of_same (HLs.out _)))
        go_wp2
        go_roundw
        case rel =>
          refine ⟨(k : Int), by omega, by omega, by first | rfl | go_num, fun j hj1 hj2 => ?_, dn_ex HQ.out _⟩
          by_cases hj : (p : Int) ≤ j
          · exact HS.out j hj hj2
          · have := HK.out
            obtain rfl : j = k := by omega
            rw [← HK.out, HP1.out, HP2.out]; exact HF.out
        case measure => simp [intOf]; omega
    · have hd : decide (0 < z) = false := by simp; omega
      have HF : Hid (P.incB l = true) := P.incB_yes (P.inc_of_steps l fun i hi => HS.out i (by omega) hi)
      go_wp2
      go_ret
      exact ⟨by rw [HF.out]; rfl, HQ.out⟩
theorem isK_any (k : Int) (w : World) : Calls Try.prog 26 #[.int .i64 k] w fun e w' => e = .returned (.bool (decide (2 ≤ k ∧ k ≤ 64))) ∧ w' = w := by
  by_cases h1 : 2 ≤ k
  · by_cases h2 : k ≤ 64
    · have hd : decide (k ≤ 64) = true := by simpa using h2
      have HD : Hid (decide (2 ≤ k ∧ k ≤ 64) = true) := by show _ = _; simp; omega
      generalize decide (2 ≤ k ∧ k ≤ 64) = z at *
      go_enter Try.func26, Try.ntmps26
      go_wp2
      go_ret
      exact ⟨by rw [HD.out]; rfl, rfl⟩
    · have hd : decide (k ≤ 64) = false := by simpa using h2
      have HD : Hid (decide (2 ≤ k ∧ k ≤ 64) = false) := by show _ = _; simp; omega
      generalize decide (2 ≤ k ∧ k ≤ 64) = z at *
      go_enter Try.func26, Try.ntmps26
      go_wp2
      go_ret
      exact ⟨by rw [HD.out]; rfl, rfl⟩
  · have hd : decide (2 ≤ k) = false := by simpa using h1
    have HD : Hid (decide (2 ≤ k ∧ k ≤ 64) = false) := by show _ = _; simp; omega
    generalize decide (2 ≤ k ∧ k ≤ 64) = z at *
    go_enter Try.func26, Try.ntmps26
    go_wp2
    go_ret
    exact ⟨by rw [HD.out]; rfl, rfl⟩
theorem weigh_any (n lev : Nat) (w : World) (hn : n ≤ 64) (hl : lev ≤ 50) : Calls Try.prog 39 #[.int .i64 n, .int .i64 lev] w fun e w' => e = .returned (.int .i64 ((n * 2 ^ lev : Nat) : Int)) ∧ w' = w := by
  have h0 : (n * 2 ^ lev : Nat) ≤ 64 * 2 ^ 50 := Nat.mul_le_mul hn (Nat.pow_le_pow_right (by omega) hl)
  have h1 : ((n : Int) * 2 ^ lev) ≤ 9223372036854775807 := by
    have : ((n : Int) * 2 ^ lev) = ((n * 2 ^ lev : Nat) : Int) := by push_cast; rfl
    rw [this]; omega
  have h2 : (0 : Int) ≤ ((n : Int) * 2 ^ lev) := by
    have : ((n : Int) * 2 ^ lev) = ((n * 2 ^ lev : Nat) : Int) := by push_cast; rfl
    rw [this]; omega
  have h3 : (lev : Int) < 64 := by omega
  have h4 : ¬ ((lev : Int) < 0) := by omega
  go_enter Try.func39, Try.ntmps39
  go_wp2
  go_ret
  exact ⟨ret_int (by push_cast; rfl), rfl⟩

open Classical in
/-- What soundTail tells. -/
noncomputable def P.stB (s : P.Rk) : Bool := decide ((s.tail.length : Int) < s.k ∧ P.Inc s.tail)
theorem soundTail_any (tv lv : Value) (s : P.Rk) (w : World) (hr : RkV w tv lv s) : Calls Try.prog 32 #[aggR tv lv s] w fun e w' => e = .returned (.bool (P.stB s)) ∧ Below w.heap.size w w' := by
  have hr1 := hr.tail.below (((Below.refl _ w).alloc (Nat.le_refl _) (.cells #[.int .i64 s.k, tv, lv, .int .i64 s.n, .int .i64 s.sl] 25)) ) (Nat.le_refl _)
  have HS := hide (isSorted_any tv s.tail _ hr1)
  obtain ⟨at', cap, rfl, ⟨hlc, hmax, hnn⟩, hcase⟩ := hr.tail
  unfold maxLen at hmax
  clear hcase hr hr1
  obtain ⟨k, t, L, n, sl⟩ := s
  simp only at *
  by_cases h1 : (t.length : Int) < k
  · have hd : decide ((t.length : Int) < k) = true := by simpa using h1
    have HE : Hid (P.incB t = P.stB ⟨k, t, L, n, sl⟩) := by show _ = _; unfold P.incB P.stB; simp [h1]
    clear h1
    generalize P.stB ⟨k, t, L, n, sl⟩ = z at *
    rw [HE.out] at HS
    go_enter Try.func32, Try.ntmps32
    go_wp2_with (go_at_call 48; go_must (refine HS.out.mono ?_); rintro e w' ⟨rfl, q, rfl⟩)
    go_ret
    exact ⟨rfl, below_dn ((Below.refl _ w).alloc (Nat.le_refl _) _) _⟩
  · have hd : decide ((t.length : Int) < k) = false := by simpa using h1
    have HE : Hid (P.stB ⟨k, t, L, n, sl⟩ = false) := by show _ = _; unfold P.stB; simp [h1]
    clear h1
    generalize P.stB ⟨k, t, L, n, sl⟩ = z at *
    go_enter Try.func32, Try.ntmps32
    go_wp2_with (go_at_call 48; go_must (refine HS.out.mono ?_); rintro e w' ⟨rfl, q, rfl⟩)
    go_ret
    exact ⟨by rw [HE.out]; rfl, (Below.refl _ w).alloc (Nat.le_refl _) _⟩
end Go.Proofs.Ytlndbmenaaiogaa
