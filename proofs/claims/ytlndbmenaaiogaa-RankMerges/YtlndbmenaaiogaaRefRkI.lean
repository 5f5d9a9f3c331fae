/- What the reference's rising, sameNumbers and Inserted answer. -/
import Derived.Test.YtlndbmenaaiogaaRefRkP
namespace Go.Proofs.Ytlndbmenaaiogaa
open Go.RowKit
set_option linter.unusedVariables false
theorem P.inc_step {l : List Int} {k : Nat} (hk : k + 1 < l.length) (h : P.Inc (l.take (k + 1))) (h2 : l.getD k 0 ≤ l.getD (k + 1) 0) : P.Inc (l.take (k + 2)) := by
  unfold P.Inc at *
  rw [List.take_add_one, List.getElem?_eq_getElem hk, Option.toList_some, List.pairwise_append]
  refine ⟨h, List.pairwise_singleton _ _, fun x hx y hy => ?_⟩
  simp at hy
  subst hy
  have e1 : l.getD (k + 1) 0 = l[k + 1] := by simp [List.getD_eq_getElem?_getD, List.getElem?_eq_getElem hk]
  have e2 : l.getD k 0 = l[k] := by simp [List.getD_eq_getElem?_getD, List.getElem?_eq_getElem (show k < l.length by omega)]
  rw [e1, e2] at h2
  obtain ⟨i, hi, rfl⟩ := List.mem_iff_getElem.1 hx
  simp at hi
  rw [List.getElem_take]
  rcases Nat.lt_or_ge i k with h3 | h3
  · have := List.pairwise_iff_getElem.1 h i k (by simp; omega) (by simp; omega) h3
    simp at this
    omega
  · obtain rfl : i = k := by omega
    exact h2
theorem P.inc_one {l : List Int} {k : Nat} (hk : k ≤ 1) : P.Inc (l.take k) := by
  match k, hk with
  | 0, _ => simp [P.Inc]
  | 1, _ => cases l <;> simp [P.Inc]
set_option maxHeartbeats 1000000 in
theorem rising_any (v : Value) (l : List Int) (w : World) (h : RowK .i64 w v l) : Calls Try.prog 31 #[v] w fun e w' => e = .returned (.bool (P.incB l)) ∧ ∃ q, w' = w.drewN q := by
  obtain ⟨a, cap, rfl, ⟨hlc, hmax, hnn⟩, hcase⟩ := h
  unfold maxLen at hmax
  go_enter Try.func31, Try.ntmps31
  go_wp2
  go_loopw [6] (fun i wr => ∃ j : Nat, j ≤ l.length ∧ i = .int .i64 j ∧ P.Inc (l.take j) ∧ ∃ q, wr = w.drewN q) (fun i _ => l.length - (intOf i).toNat)
  case atStart => exact ⟨0, by omega, rfl, P.inc_one (by omega), 0, rfl⟩
  case round =>
    obtain ⟨j, hj, rfl, hi, hq⟩ := hrel
    have HI := hide hi
    have HQ := hide hq
    have hcw : ∀ (p : Addr), wr.cell? p = w.cell? p := by obtain ⟨q, rfl⟩ := hq; exact fun _ => rfl
    clear hi hq
    by_cases hlt : j < l.length
    · rcases hcase with h | ⟨b, off, rfl, hbs, hcell⟩
      · rw [h] at hlt; simp at hlt
      have j0 : (0 : Int) ≤ (j : Int) := by omega
      have j1 : (j : Int) < (l.length : Int) := by omega
      rcases Nat.eq_zero_or_pos j with h0 | h0
      · have hd : decide (0 < (j : Int)) = false := by simp; omega
        have hdn : decide (0 < j) = false := by simp; omega
        have HZ := hide h0
        clear hcell h0 hcw
        go_wp2
        go_quiet (fail)
        go_wp2
        go_roundw
        case rel => exact ⟨j + 1, by omega, by go_num, P.inc_one (by have := HZ.out; omega), dn_ex HQ.out _⟩
        case measure => simp [intOf]; omega
      · obtain ⟨k, p, hjp, hkp⟩ : ∃ k p : Nat, p = j ∧ p = k + 1 := ⟨j - 1, j, rfl, by omega⟩
        rw [← hjp] at hlt j0 j1 h0 hj HI ⊢
        have q1 := fun n => (show (wr.drewN n).cell? ⟨b, off + p, none⟩ = _ from (hcw _).trans (hcell p (by omega)))
        have q0 := fun n => (show (wr.drewN n).cell? ⟨b, off + k, none⟩ = _ from (hcw _).trans (hcell k (by omega)))
        have e1 : IntKind.i64.wrap ((p : Int) - 1) = (k : Int) := by rw [IntKind.wrap_i64]; omega
        have k0 : (0 : Int) ≤ (k : Int) := by omega
        have k1 : (k : Int) < (l.length : Int) := by omega
        have hd : decide (0 < (p : Int)) = true := by simp; omega
        have hdn : decide (0 < p) = true := by simp; omega
        clear hcw
        by_cases hl : l.getD p 0 < l.getD k 0
        · have HF : Hid (P.incB l = false) := P.incB_no fun hi => by have := P.inc_at hi (show k < p by omega) (by omega); omega
          have hd2 : decide (l.getD p 0 < l.getD k 0) = true := by simpa using hl
          generalize l.getD p 0 = lp at q1 hd2
          generalize l.getD k 0 = lk at q0 hd2
          clear hkp hcell h0 hl hjp
          go_wp2
          go_quiet (fail)
          go_wp2
          go_ret
          exact ⟨by rw [HF.out]; rfl, dn_ex HQ.out _⟩
        · have HF : Hid (P.Inc (l.take (p + 1))) := by
            have h9 := HI.out
            subst hkp
            exact P.inc_step (by omega) h9 (by omega)
          have hd2 : decide (l.getD p 0 < l.getD k 0) = false := by simpa using hl
          generalize l.getD p 0 = lp at q1 hd2
          generalize l.getD k 0 = lk at q0 hd2
          clear hkp hcell h0 hl hjp
          go_wp2
          go_quiet (fail)
          go_wp2
          go_roundw
          case rel => exact ⟨p + 1, by omega, by go_num, HF.out, dn_ex HQ.out _⟩
          case measure => simp [intOf]; omega
    · have hd2 : decide ((j : Int) < (l.length : Int)) = false := by simp; omega
      obtain rfl : j = l.length := by omega
      have HT := hide (P.incB_yes (by have := HI.out; rw [List.take_length] at this; exact this))
      go_wp2
      go_ret
      exact ⟨by rw [HT.out]; rfl, HQ.out⟩
set_option maxHeartbeats 1000000 in
/-- Two rows of the same numbers are the same. -/
theorem sameNumbers_yes (u v : Value) (l : List Int) (w : World) (h : RowK .i64 w u l) (h' : RowK .i64 w v l) : Calls Try.prog 30 #[u, v] w fun e w' => e = .returned (.bool true) ∧ ∃ q, w' = w.drewN q := by
  obtain ⟨a, cap, rfl, ⟨hlc, hmax, hnn⟩, hcase⟩ := h
  obtain ⟨a2, cap2, rfl, ⟨hlc2, hmax2, hnn2⟩, hcase2⟩ := h'
  unfold maxLen at hmax hmax2
  go_enter Try.func30, Try.ntmps30
  go_wp2
  go_loopw [13] (fun i wr => ∃ j : Nat, j ≤ l.length ∧ i = .int .i64 j ∧ ∃ q, wr = w.drewN q) (fun i _ => l.length - (intOf i).toNat)
  case atStart => exact ⟨0, by omega, rfl, 0, rfl⟩
  case round =>
    obtain ⟨j, hj, rfl, hq⟩ := hrel
    have HQ := hide hq
    have hcw : ∀ (p : Addr), wr.cell? p = w.cell? p := by obtain ⟨q, rfl⟩ := hq; exact fun _ => rfl
    clear hq
    by_cases hlt : j < l.length
    · rcases hcase with h | ⟨b, off, rfl, hbs, hcell⟩
      · rw [h] at hlt; simp at hlt
      rcases hcase2 with h | ⟨b2, off2, rfl, hbs2, hcell2⟩
      · rw [h] at hlt; simp at hlt
      have j0 : (0 : Int) ≤ (j : Int) := by omega
      have j1 : (j : Int) < (l.length : Int) := by omega
      have q0 := fun n => (show (wr.drewN n).cell? ⟨b, off + j, none⟩ = _ from (hcw _).trans (hcell j (by omega)))
      have q1 := fun n => (show (wr.drewN n).cell? ⟨b2, off2 + j, none⟩ = _ from (hcw _).trans (hcell2 j (by omega)))
      generalize l.getD j 0 = y at *
      have hd : (y != y) = false := by simp
      clear hcell hcell2 hcw
      go_wp2
      go_quiet (fail)
      go_wp2
      go_roundw
      case rel => exact ⟨j + 1, by omega, by go_num, dn_ex HQ.out _⟩
      case measure => simp [intOf]; omega
    · have hd2 : decide ((j : Int) < (l.length : Int)) = false := by simp; omega
      obtain rfl : j = l.length := by omega
      go_wp2
      go_ret
      exact ⟨rfl, HQ.out⟩
end Go.Proofs.Ytlndbmenaaiogaa
