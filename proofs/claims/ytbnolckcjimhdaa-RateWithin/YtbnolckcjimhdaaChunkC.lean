/- What Check, firstFrom and Range answer. -/
import Derived.Test.YtbnolckcjimhdaaKitS
import Derived.Deep.QuietTactic
import Derived.BigQuiet
import Derived.Deep.RegionHeld3
import Derived.Deep.DeepCutAuto
import Derived.Deep.OwnRows
import Derived.Deep.RegionLaw
namespace Go.Proofs.Ytbnolckcjimhdaa
open Go.RowKit
set_option linter.unusedVariables false
/-- Check. -/
theorem check_any (v : Value) (l : List (Int × Int)) (w : World) (hr : RowS w v l) : Calls Try.prog 25 #[v] w fun e w' => e = .returned (.int .i64 (P.chk l)) ∧ Below w.heap.size w w' := by
  obtain ⟨a, cap, rfl, ⟨hlc, hmax, hnn⟩, hcase⟩ := hr
  unfold maxLen at hmax
  by_cases hn : 1000 < l.length
  · have hd : decide (1000 < (l.length : Int)) = true := by simp; omega
    have HC := hide (P.chk_large hn)
    go_enter Try.func25, Try.ntmps25
    go_wp2
    go_ret
    exact ⟨ret_int HC.out.symm, Below.refl _ _⟩
  · have hd : decide (1000 < (l.length : Int)) = false := by simp; omega
    have hn' : l.length ≤ 1000 := by omega
    clear hn
    go_enter Try.func25, Try.ntmps25
    go_wp2
    go_loopw [3] (fun i wr => ∃ (k : Nat), 1 ≤ k ∧ (k ≤ l.length ∨ k = 1) ∧ i = .int .i64 k ∧ (∀ j, j + 1 < k → (l.getD j (0, 0)).1 < (l.getD (j + 1) (0, 0)).1) ∧ ∃ q, wr = w.drewN q) (fun i _ => l.length - (intOf i).toNat)
    case atStart => exact ⟨1, by omega, .inr rfl, rfl, fun j hj => by omega, 0, rfl⟩
    case round =>
      obtain ⟨k, hk1, hk, rfl, heq, q, rfl⟩ := hrel
      have HE := hide heq
      clear heq
      by_cases hlt : k < l.length
      · rcases hcase with h | ⟨b, off, rfl, hbs, hcell⟩
        · rw [h] at hlt; simp at hlt
        obtain ⟨i, hi⟩ : ∃ i, i + 1 = k := ⟨k - 1, by omega⟩
        have g1 := (hcell k hlt).1
        have g0 := (hcell i (by omega)).1
        clear hcell
        have HT := hide (show (∀ x y, (l.getD i (0, 0)).1 = x → (l.getD k (0, 0)).1 = y → y ≤ x → P.chk l = 5) from fun x y hx hy h => P.chk_order hn' (i := i) (by omega) (by rw [hi, hx, hy]; exact h))
        have HX := hide (rfl : (l.getD i (0, 0)).1 = (l.getD i (0, 0)).1)
        generalize hx : (l.getD i (0, 0)).1 = x at g0
        generalize hy : (l.getD k (0, 0)).1 = y at g1
        have HXx := hide hx
        have HYy := hide hy
        clear hx hy HX
        have ei : IntKind.i64.wrap ((k : Int) - 1) = (i : Int) := by rw [IntKind.wrap_i64]; omega
        have HI := hide hi
        clear hi hk
        have j0 : (0 : Int) ≤ (k : Int) := by omega
        have j1 : (k : Int) < (l.length : Int) := by omega
        have j2 : (i : Int) < (l.length : Int) := by have := HI.out; omega
        have j3 : (0 : Int) ≤ (i : Int) := by omega
        by_cases hxy : y ≤ x
        · have ht : decide (y ≤ x) = true := by simpa using hxy
          go_wp2
          go_quiet (fail)
          go_wp2
          go_ret
          exact ⟨ret_int (HT.out x y HXx.out HYy.out hxy).symm, below_dn (below_dn (Below.refl _ _) _) _⟩
        · have ht : decide (y ≤ x) = false := by simpa using hxy
          go_wp2
          go_quiet (fail)
          go_wp2
          go_roundw
          case rel =>
            refine ⟨k + 1, by omega, .inl (by omega), by go_num, fun j hj => ?_, q + nq, rfl⟩
            rcases Nat.lt_or_ge (j + 1) k with h | h
            · exact HE.out j h
            · have := HI.out
              obtain rfl : j = i := by omega
              rw [this, HXx.out, HYy.out]; omega
          case measure => simp [intOf]; omega
      · have hd : decide ((k : Int) < (l.length : Int)) = false := by simp; omega
        have HC : Hid (P.chk l = 0) := P.chk_ok hn' (P.ris_of_steps l fun i hi => HE.out i (by omega))
        go_wp2
        go_ret
        exact ⟨ret_int HC.out.symm, below_dn (Below.refl _ _) _⟩
/-- The closure of firstFrom. -/
theorem from1 (v : Value) (l : List (Int × Int)) (t : Int) (i b1 b2 : Nat) (w : World) (hr : RowS w v l) (hi : i < l.length) (h1 : w.cell? ⟨b1, 0, none⟩ = some v) (h2 : w.cell? ⟨b2, 0, none⟩ = some (.int .i64 t)) :
    Calls Try.prog 29 #[.int .i64 i, .pointer (some ⟨b1, 0, none⟩), .pointer (some ⟨b2, 0, none⟩)] w fun e w' => e = .returned (.bool (decide (t ≤ (l.getD i (0, 0)).1))) ∧ ∃ q, w' = w.drewN q := by
  obtain ⟨a, cap, rfl, ⟨hlc, hmax, hnn⟩, hcase⟩ := hr
  unfold maxLen at hmax
  rcases hcase with h | ⟨b, off, rfl, hbs, hcell⟩
  · rw [h] at hi; simp at hi
  have g := (hcell i hi).1
  clear hcell
  generalize (l.getD i (0, 0)).1 = x at *
  have j0 : (0 : Int) ≤ (i : Int) := by omega
  have j1 : (i : Int) < (l.length : Int) := by omega
  go_enter Try.func29, Try.ntmps29
  go_wp2
  go_quiet (fail)
  go_wp2
  go_ret
  exact ⟨rfl, _, rfl⟩

theorem RowS.dn {w : World} {v : Value} {l : List (Int × Int)} (h : RowS w v l) (q : Nat) : RowS (w.drewN q) v l := h.below (below_dn (Below.refl _ w) q) (Nat.le_refl _)
set_option maxHeartbeats 1000000 in
theorem search_any (v : Value) (l : List (Int × Int)) (t : Int) (b1 b2 : Nat) (w : World) (hr : RowS w v l) (hs : P.Ris l) (hn : l.length ≤ 1000) (h1 : w.cell? ⟨b1, 0, none⟩ = some v) (h2 : w.cell? ⟨b2, 0, none⟩ = some (.int .i64 t)) :
    Calls Try.prog 28 #[.int .i64 l.length, .func (.func 29) #[] #[.pointer (some ⟨b1, 0, none⟩), .pointer (some ⟨b2, 0, none⟩)]] w fun e w' => ∃ k : Nat, P.IsFrom l t k ∧ e = .returned (.int .i64 k) ∧ ∃ q, w' = w.drewN q := by
  have HF := hide (fun (i q : Nat) (hi : i < l.length) => from1 v l t i b1 b2 (w.drewN q) (hr.dn q) hi h1 h2)
  have HS := hide hs
  clear hr h1 h2 hs
  go_enter Try.func28, Try.ntmps28
  go_wp2
  go_loopw [5, 6] (fun i j wr => ∃ (a b : Nat), a ≤ b ∧ b ≤ l.length ∧ i = .int .i64 a ∧ j = .int .i64 b ∧ (∀ k, k < a → (l.getD k (0, 0)).1 < t) ∧ (∀ k, b ≤ k → k < l.length → t ≤ (l.getD k (0, 0)).1) ∧ ∃ q, wr = w.drewN q) (fun i j _ => (intOf j).toNat - (intOf i).toNat)
  case atStart => exact ⟨0, l.length, by omega, Nat.le_refl _, rfl, rfl, fun k hk => by omega, fun k h1 h2 => by omega, 0, rfl⟩
  case round =>
    obtain ⟨a, b, hab, hb, rfl, rfl, hlo, hhi, q, rfl⟩ := hrel
    have HLo := hide hlo
    have HHi := hide hhi
    clear hlo hhi
    by_cases hlt : a < b
    · obtain ⟨m, hm⟩ : ∃ m, m = (a + b) / 2 := ⟨_, rfl⟩
      have hm1 : a ≤ m := by omega
      have hm2 : m < b := by omega
      have em : ((a : Int) + (b : Int)) / 2 = (m : Int) := by omega
      have HC := hide (HF.out m q (by omega))
      have HX := hide (rfl : (l.getD m (0, 0)).1 = (l.getD m (0, 0)).1)
      clear hm HF
      generalize hx : (l.getD m (0, 0)).1 = x at HC
      have HXx := hide hx
      clear hx HX
      by_cases hxt : t ≤ x
      · have ht : decide (t ≤ x) = true := by simpa using hxt
        rw [ht] at HC
        clear ht
        go_wp2_with (go_at_call 29; go_must (refine HC.out.mono ?_); rintro e w' ⟨rfl, q1, rfl⟩)
        go_roundw
        case rel =>
          refine ⟨a, m, hm1, by omega, rfl, rfl, HLo.out, fun k hk1 hk2 => ?_, q + q1, rfl⟩
          rcases Nat.lt_or_ge m k with h | h
          · have := P.ris_at HS.out h hk2
            rw [HXx.out] at this; omega
          · obtain rfl : k = m := by omega
            rw [HXx.out]; exact hxt
        case measure => simp [intOf]; omega
      · have ht : decide (t ≤ x) = false := by simpa using hxt
        rw [ht] at HC
        clear ht
        go_wp2_with (go_at_call 29; go_must (refine HC.out.mono ?_); rintro e w' ⟨rfl, q1, rfl⟩)
        go_roundw
        case rel =>
          refine ⟨m + 1, b, by omega, hb, by go_num, rfl, fun k hk => ?_, HHi.out, q + q1, rfl⟩
          rcases Nat.lt_or_ge k m with h | h
          · have := P.ris_at HS.out h (by omega)
            rw [HXx.out] at this; omega
          · obtain rfl : k = m := by omega
            rw [HXx.out]; omega
        case measure => simp [intOf]; omega
    · have hd : decide ((a : Int) < (b : Int)) = false := by simp; omega
      go_wp2
      go_ret
      exact ⟨a, ⟨by omega, HLo.out, fun j hj => HHi.out j (by omega)⟩, rfl, q, rfl⟩
/-- firstFrom. -/
theorem from_any (v : Value) (l : List (Int × Int)) (t : Int) (w : World) (hr : RowS w v l) (hs : P.Ris l) (hn : l.length ≤ 1000) :
    Calls Try.prog 26 #[v, .int .i64 t] w fun e w' => ∃ k : Nat, P.IsFrom l t k ∧ e = .returned (.int .i64 k) ∧ Below w.heap.size w w' := by
  have HF := hide (fun (b1 b2 : Nat) (w : World) (hr : RowS w v l) h1 h2 => search_any v l t b1 b2 w hr hs hn h1 h2)
  have hr0 := hr
  obtain ⟨a, cap, rfl, ⟨hlc, hmax, hnn⟩, hcase⟩ := hr
  unfold maxLen at hmax
  clear hcase
  go_enter Try.func26, Try.ntmps26
  go_wp2_with (go_at_call 28; go_must (refine (HF.out _ _ _ (hr0.below (((Below.refl _ _).alloc (Nat.le_refl _) _).alloc (by simp) _) (Nat.le_refl _)) ?_ ?_).mono ?_))
  · simp
  · simp
  rintro e w' ⟨k, hk, rfl, q, rfl⟩
  go_wp2
  go_ret
  exact ⟨k, hk, rfl, below_dn (((Below.refl _ _).alloc (Nat.le_refl _) _).alloc (by simp) _) _⟩
end Go.Proofs.Ytbnolckcjimhdaa
