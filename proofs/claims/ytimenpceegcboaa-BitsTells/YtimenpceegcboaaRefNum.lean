/- What the document's own ZigOf, ZagOf, BytesOf and NumberOf answer. -/
import Derived.Test.YtimenpceegcboaaTake
import Derived.Test.YtimenpceegcboaaEq
namespace Go.Proofs.Ytimenpceegcboaa
open Go.RowKit
set_option linter.unusedVariables false

theorem zigOf_any (n : Int) (w : World) (h0 : -9223372036854775808 ≤ n) (h1 : n ≤ 9223372036854775807) :
    Calls Try.prog 12 #[.int .i64 n] w fun e w' => e = .returned (.int .u64 (P.zig n)) ∧ w' = w := by
  by_cases h : n < 0
  · go_enter Try.func12, Try.ntmps12
    go_wp2
    go_ret
    refine ⟨?_, rfl⟩
    have e : P.zig n = -(n + 1) * 2 + 1 := by unfold P.zig; rw [if_neg (by omega)]; omega
    rw [e]; rfl
  · go_enter Try.func12, Try.ntmps12
    go_wp2
    go_ret
    refine ⟨?_, rfl⟩
    have e : P.zig n = n * 2 := by unfold P.zig; rw [if_pos (by omega)]; omega
    rw [e]; rfl
theorem zagOf_any (n : Int) (w : World) (h0 : 0 ≤ n) (h1 : n ≤ 18446744073709551615) :
    Calls Try.prog 14 #[.int .u64 n] w fun e w' => e = .returned (.int .i64 (P.zag n)) ∧ w' = w := by
  by_cases h : n % 2 = 1
  · have hb : (n % 2 == 1) = true := by simp [h]
    go_enter Try.func14, Try.ntmps14
    go_wp2
    go_ret
    refine ⟨?_, rfl⟩
    have e : P.zag n = -(n / 2) - 1 := by unfold P.zag; rw [if_neg (by omega)]
    rw [e]; rfl
  · have hb : (n % 2 == 1) = false := by simp [h]
    go_enter Try.func14, Try.ntmps14
    go_wp2
    go_ret
    refine ⟨?_, rfl⟩
    have e : P.zag n = n / 2 := by unfold P.zag; rw [if_pos (by omega)]
    rw [e]; rfl

/-- One byte in a new row. -/
theorem own_one (w : World) (base : Nat) (y : Int) (hb : base ≤ w.heap.size) : OwnB (w.alloc (.cells #[.int .u8 y] 5)) base (.slice (some ⟨w.heap.size, 0, none⟩) 1 1) [y] :=
  ⟨rfl, .inr ⟨w.heap.size, 1, #[.int .u8 y], rfl, hb, heap_alloc_new w _, by simp, by decide, rfl, rfl⟩⟩

theorem bytesOf_any (f : Nat) : ∀ (u : Int) (w : World), f ≤ 9 → 0 ≤ u → u < 2 * 128 ^ f → u ≤ 18446744073709551615 →
    Calls Try.prog 17 #[.int .u64 u] w fun e w' => ∃ v, e = .returned v ∧ OwnB w' w.heap.size v (P.putL f u) ∧ Below w.heap.size w w' := by
  have small : ∀ (f : Nat) (u : Int) (w : World), 0 ≤ u → u < 128 →
      Calls Try.prog 17 #[.int .u64 u] w fun e w' => ∃ v, e = .returned v ∧ OwnB w' w.heap.size v (P.putL f u) ∧ Below w.heap.size w w' := by
    intro f u w h0 hs
    go_enter Try.func17, Try.ntmps17
    go_wp2
    go_ret
    refine ⟨_, rfl, ?_, (Below.refl _ _).alloc (Nat.le_refl _) _⟩
    rw [P.putL_small f u hs]
    exact own_one w w.heap.size u (Nat.le_refl _)
  induction f with
  | zero => intro u w _ h0 hx _; exact small 0 u w h0 (by simp at hx; omega)
  | succ f ih =>
    intro u w hf h0 hx hu
    by_cases hs : u < 128
    · exact small (f + 1) u w h0 hs
    · obtain ⟨g, hg, hpl, hlt⟩ := P.putL_step (f + 1) u (by omega) hx
      obtain rfl : f = g := by omega
      have IH := hide ih
      have HP := hide hpl
      have HL := hide hlt
      have hlen := P.putL_len f (u / 128)
      clear ih hpl hlt hx small hg
      go_enter Try.func17, Try.ntmps17
      go_wp2_with (first
        | (go_at_call 17; go_must (refine (IH.out (u / 128) _ (by omega) (by omega) HL.out (by omega)).mono ?_); rintro e w2 ⟨v, rfl, hown, hb2⟩; have ho1 := (own_one w w.heap.size (u % 128 + 128) (Nat.le_refl _)).below hb2 (Nat.le_refl _); have hb := ((Below.refl w.heap.size w).alloc (Nat.le_refl _) (.cells #[.int .u8 (u % 128 + 128)] 5)).trans (hb2.mono (by simp)))
        | (at_builtin; go_must (refine wp_appRow rfl _ _ rfl w.heap.size w.heap.size w _ _ _ [u % 128 + 128] (P.putL f (u / 128)) ho1 hown.row hb (Nat.le_refl _) rfl rfl (by simp; omega) hb.size ?_); intro vd w4 hownd hbd _ _))
      go_ret
      exact ⟨vd, rfl, by rw [HP.out]; exact hownd, hbd⟩

theorem num_step (k : Nat) (X Y c : Int) (hX0 : 0 ≤ X) (hX : X < 128 ^ k) (hY : Y = 128 ^ k) (hc0 : 0 ≤ c) (hk : k ≤ 8 ∨ k = 9 ∧ c ≤ 1) :
    IntKind.u64.wrap (X + IntKind.u64.wrap (c % 128 * Y)) = X + c % 128 * 128 ^ k := by
  have hf := P.digit_fits k (c % 128) (by omega) (by omega) (by omega)
  have hp := P.pow128_le k (by omega)
  rw [hY, IntKind.wrap_u64, IntKind.wrap_u64, Int.emod_eq_of_lt (by omega) (by omega), Int.emod_eq_of_lt (by omega) (by omega)]
theorem by_step (k : Nat) (Y : Int) (hY : Y = 128 ^ k) (hk : k ≤ 8) : IntKind.u64.wrap (Y * 128) = 128 ^ (k + 1) := by
  have hp := P.pow128_le8 k hk
  have h0 := P.pow128_pos k
  rw [hY, IntKind.wrap_u64, Int.pow_succ, Int.emod_eq_of_lt (by omega) (by omega)]

set_option maxHeartbeats 1000000 in
theorem numberOf_any (v : Value) (l : List Int) (w : World) (hr : RowB w v l) (hbt : Byt l) :
    Calls Try.prog 10 #[v] w fun e w' => e = .returned (.tuple #[.int .u64 (P.take l).1, .int .i64 (P.take l).2.1, .int .i64 (P.take l).2.2]) ∧ w' = w := by
  obtain ⟨a, cap, rfl, ⟨hlc, hmax, _⟩, hcase⟩ := hr
  unfold maxLen at hmax
  go_enter Try.func10, Try.ntmps10
  go_wp2
  go_loop [5, 6, 10] (fun x y i => ∃ (k : Nat) (X Y : Int), k ≤ l.length ∧ k ≤ 9 ∧ i = .int .i64 k ∧ x = .int .u64 X ∧ y = .int .u64 Y ∧ 0 ≤ X ∧ X < 128 ^ k ∧ Y = 128 ^ k ∧ P.take l = P.takeL k X (l.drop k)) (fun _ _ i => l.length - (intOf i).toNat)
  case atStart => exact ⟨0, 0, 1, by omega, by omega, rfl, rfl, rfl, by omega, by omega, by omega, rfl⟩
  case round =>
    obtain ⟨k, X, Y, hk, hk9, rfl, rfl, rfl, hX0, hX, hY, hT⟩ := hrel
    have HT := hide hT
    have HX := hide hX
    have HY := hide hY
    clear hT hX hY
    by_cases hlt : k < l.length
    · rcases hcase with h | ⟨b, off, rfl, hbs, hcell⟩
      · rw [h] at hlt; simp at hlt
      have hc := hcell k hlt
      have hb := hbt.at k
      have HD := hide (P.drop_at l k hlt)
      generalize l.getD k 0 = c at hc hb HD
      obtain ⟨hb0, hb1⟩ := hb
      clear hcell
      by_cases h9 : k = 9
      · subst h9
        go_wp2
        all_goals first
          | (have hbad : 1 < c ∨ c = 0 := by
               (try simp only [beq_iff_eq] at *)
               omega
             have hv : P.take l = (0, 0, 4) := by rw [HT.out, HD.out, P.take_bad _ _ _ _ (by omega)]
             go_ret3
             exact ⟨by rw [hv]; rfl, rfl⟩)
          | (have hgood : ¬ (1 < c ∨ c = 0) := by
               (try simp only [beq_eq_false_iff_ne, ne_eq] at *)
               omega
             have hs := num_step 9 X Y c hX0 HX.out HY.out hb0 (by omega)
             have hv : P.take l = (X + c % 128 * 128 ^ 9, ((9 : Nat) : Int) + 1, 0) := by rw [HT.out, HD.out, P.take_last _ _ _ _ (by omega) (by omega)]
             go_ret3
             exact ⟨by rw [hv, ← hs]; rfl, rfl⟩)
      · have hne : ((k : Int) == 9) = false := by simp; omega
        go_wp2
        all_goals first
          | (have hbad : (k = 9 ∧ 1 < c) ∨ (0 < k ∧ c = 0) := by
               (try simp only [beq_iff_eq] at *)
               omega
             have hv : P.take l = (0, 0, 4) := by rw [HT.out, HD.out, P.take_bad _ _ _ _ hbad]
             go_ret3
             exact ⟨by rw [hv]; rfl, rfl⟩)
          | (have hgood : (¬ ((k = 9 ∧ 1 < c) ∨ (0 < k ∧ c = 0))) ∧ c < 128 := by
               (try simp only [beq_eq_false_iff_ne, ne_eq] at *)
               omega
             have hs := num_step k X Y c hX0 HX.out HY.out hb0 (by omega)
             have hv : P.take l = (X + c % 128 * 128 ^ k, ((k : Nat) : Int) + 1, 0) := by rw [HT.out, HD.out, P.take_last _ _ _ _ hgood.1 hgood.2]
             go_ret3
             exact ⟨by rw [hv, ← hs]; rfl, rfl⟩)
          | (have hgood : (¬ ((k = 9 ∧ 1 < c) ∨ (0 < k ∧ c = 0))) ∧ ¬ c < 128 := by
               (try simp only [beq_eq_false_iff_ne, ne_eq] at *)
               omega
             have hs := num_step k X Y c hX0 HX.out HY.out hb0 (by omega)
             have hy := by_step k Y HY.out (by omega)
             have hf := P.digit_fits k (c % 128) (by omega) (by omega) (by omega)
             have hv : P.take l = P.takeL (k + 1) (X + c % 128 * 128 ^ k) (l.drop (k + 1)) := by rw [HT.out, HD.out, P.take_more _ _ _ _ hgood.1 hgood.2]
             go_round
             case rel => exact ⟨k + 1, _, _, by omega, by omega, by go_num, by rw [hs], by rw [hy], by omega, P.step_lt k X _ HX.out (by omega), rfl, hv⟩
             case measure => simp [intOf]; omega)
    · go_wp2
      have hv : P.take l = (0, 0, 3) := by rw [HT.out, List.drop_eq_nil_of_le (by omega)]; rfl
      go_ret3
      exact ⟨by rw [hv]; rfl, rfl⟩
end Go.Proofs.Ytimenpceegcboaa
