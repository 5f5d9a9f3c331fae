/- What bits.Pull answers. -/
import Derived.Test.YteohlkpejdjenaaDoorCheck
namespace Go.Proofs.YteohlkpejdjenaaDoor
open Go.RowKit
set_option linter.unusedVariables false

theorem pull_bad (v : Value) (l : List Int) (n at' k : Int) (w : World) (hr : RowB w v l) (hbt : Byt l) (n0 : -9223372036854775808 ≤ n) (n1 : n ≤ 9223372036854775807) (hok : ¬ P.OkB l n) :
    Calls Tryd.prog 22 #[.agg #[v, .int .i64 n], .int .i64 at', .int .i64 k] w fun e w' => e = .returned (.tuple #[.int .u64 0, .int .i64 4]) ∧ Below w.heap.size w w' := by
  have hr1 := hr.below ((Below.refl _ _).alloc (Nat.le_refl _) (.cells #[v, .int .i64 n] 25)) (Nat.le_refl _)
  go_enter Tryd.func22, Tryd.ntmps22
  go_wp2_with (go_at_call 20; go_must (refine (check_bad _ l n _ hr1 hbt n0 n1 hok).mono ?_); rintro e w2 ⟨rfl, hb2⟩; obtain ⟨hc0, hc1, hb, hsz⟩ := box2 hb2)
  go_ret2
  exact ⟨rfl, hb⟩
theorem pull_arg (v : Value) (l : List Int) (n at' k : Int) (w : World) (hr : RowB w v l) (hbt : Byt l) (n1 : n ≤ 9223372036854775807) (hok : P.OkB l n) (h : k < 0 ∨ 64 < k ∨ at' < 0) :
    Calls Tryd.prog 22 #[.agg #[v, .int .i64 n], .int .i64 at', .int .i64 k] w fun e w' => e = .returned (.tuple #[.int .u64 0, .int .i64 1]) ∧ Below w.heap.size w w' := by
  have hr1 := hr.below ((Below.refl _ _).alloc (Nat.le_refl _) (.cells #[v, .int .i64 n] 25)) (Nat.le_refl _)
  by_cases hk : k < 0 ∨ 64 < k
  · go_enter Tryd.func22, Tryd.ntmps22
    go_wp2_with (first
      | (go_at_call 20; go_must (refine (check_ok _ l n _ hr1 hbt n1 hok).mono ?_); rintro e w2 ⟨rfl, hb2⟩; obtain ⟨hc0, hc1, hb, hsz⟩ := box2 hb2)
      | (go_at_call 36; refine (isWidth_no _ _ hk).mono ?_; rintro e w' ⟨rfl, rfl⟩))
    go_ret2
    exact ⟨rfl, hb⟩
  · have ha : at' < 0 := by omega
    go_enter Tryd.func22, Tryd.ntmps22
    go_wp2_with (first
      | (go_at_call 20; go_must (refine (check_ok _ l n _ hr1 hbt n1 hok).mono ?_); rintro e w2 ⟨rfl, hb2⟩; obtain ⟨hc0, hc1, hb, hsz⟩ := box2 hb2)
      | (go_at_call 36; refine (isWidth_yes _ _ (by omega) (by omega)).mono ?_; rintro e w' ⟨rfl, rfl⟩))
    go_ret2
    exact ⟨rfl, hb⟩
theorem pull_short (v : Value) (l : List Int) (n at' k : Int) (w : World) (hr : RowB w v l) (hbt : Byt l) (n1 : n ≤ 9223372036854775807) (hok : P.OkB l n) (h0 : 0 ≤ k) (h1 : k ≤ 64) (ha : 0 ≤ at') (ha1 : at' ≤ 9223372036854775807) (hs : n - k < at') :
    Calls Tryd.prog 22 #[.agg #[v, .int .i64 n], .int .i64 at', .int .i64 k] w fun e w' => e = .returned (.tuple #[.int .u64 0, .int .i64 3]) ∧ Below w.heap.size w w' := by
  have hr1 := hr.below ((Below.refl _ _).alloc (Nat.le_refl _) (.cells #[v, .int .i64 n] 25)) (Nat.le_refl _)
  have hn0 := hok.1
  have hd : decide (at' < 0) = false := by simp; omega
  go_enter Tryd.func22, Tryd.ntmps22
  go_wp2_with (first
    | (go_at_call 20; go_must (refine (check_ok _ l n _ hr1 hbt n1 hok).mono ?_); rintro e w2 ⟨rfl, hb2⟩; obtain ⟨hc0, hc1, hb, hsz⟩ := box2 hb2)
    | (go_at_call 36; refine (isWidth_yes _ _ (by omega) (by omega)).mono ?_; rintro e w' ⟨rfl, rfl⟩))
  go_ret2
  exact ⟨rfl, hb⟩
set_option maxHeartbeats 1000000 in
theorem pull_ok (v : Value) (bs : List Bool) (p m : Nat) (w : World) (hr : RowB w v (P.pack bs)) (n1 : (bs.length : Int) ≤ 9223372036854775807) (h1 : m ≤ 64) (hs : p + m ≤ bs.length) :
    Calls Tryd.prog 22 #[.agg #[v, .int .i64 bs.length], .int .i64 p, .int .i64 m] w fun e w' => e = .returned (.tuple #[.int .u64 (P.val ((bs.drop p).take m) : Nat), .int .i64 0]) ∧ Below w.heap.size w w' := by
  have hr1 := hr.below ((Below.refl _ _).alloc (Nat.le_refl _) (.cells #[v, .int .i64 bs.length] 25)) (Nat.le_refl _)
  have hbt : Byt (P.pack bs) := P.pack_byt _ bs
  have hok := P.pack_ok bs
  have hlen := P.pack_len bs
  unfold P.bytesN at hlen
  obtain ⟨a, cap, rfl, ⟨hlc, hmax, hnn⟩, hcase⟩ := hr
  unfold maxLen at hmax
  generalize hL : (P.pack bs).length = L at hlen hlc hr1 hcase
  have HL := hide hL
  have hlen1 := Nat.le_of_eq hlen
  have hlen2 := Nat.le_of_eq hlen.symm
  clear hL hlen
  have hd : decide ((p : Int) < 0) = false := by simp
  have hg : decide ((bs.length : Int) - (m : Int) < (p : Int)) = false := by simp; omega
  go_enter Tryd.func22, Tryd.ntmps22
  go_wp2_with (first
    | (go_at_call 20; go_must (refine (check_ok _ _ _ _ hr1 hbt n1 hok).mono ?_); rintro e w2 ⟨rfl, hb2⟩; obtain ⟨hc0, hc1, hb, hsz⟩ := box2 hb2; clear hb2)
    | (go_at_call 36; refine (isWidth_yes _ _ (by omega) (by omega)).mono ?_; rintro e w' ⟨rfl, rfl⟩))
  go_loop [9, 10] (fun x i => ∃ j : Nat, j ≤ m ∧ i = .int .i64 ((p + j : Nat) : Int) ∧ x = .int .u64 (P.val ((bs.drop p).take j) : Nat)) (fun _ i => p + m - (intOf i).toNat)
  case atStart => exact ⟨0, by omega, by simp, by simp [P.val]⟩
  case round =>
    obtain ⟨j, hj, rfl, rfl⟩ := hrel
    by_cases hlt : j < m
    · rcases hcase with h0 | ⟨b, off, rfl, hbs, hcell⟩
      · have hL := HL.out
        rw [h0] at hL; simp at hL; omega
      have hc := (hb.cell (p := ⟨b, off + (p + j) / 8, none⟩) hbs).trans (hcell ((p + j) / 8) (by omega))
      rw [P.pack, P.packTo_at _ _ _ (by unfold P.bytesN; omega)] at hc
      have hbyte := P.byteAt_lt bs ((p + j) / 8)
      have HB := hide (P.byteAt_bit bs (p + j))
      have HV := hide (P.val_take bs p j (by omega))
      have hV := P.val_take_lt bs p j
      have hV2 : P.val ((bs.drop p).take j) < 9223372036854775808 := Nat.lt_of_lt_of_le hV (by
        have : (2 : Nat) ^ j ≤ 2 ^ 63 := Nat.pow_le_pow_right (by decide) (by omega)
        exact this)
      generalize P.val ((bs.drop p).take j) = V at HV hV2
      generalize P.byteAt bs ((p + j) / 8) = c at hc hbyte HB
      have i1 : ((p : Int) + (j : Int)) / 8 < (L : Int) := by omega
      have i0 : (0 : Int) ≤ ((p : Int) + (j : Int)) / 8 := by omega
      have i2 : (p : Int) + (j : Int) < (p : Int) + (m : Int) := by omega
      clear hV hcell
      go_wp2
      have hs2 := P.or_and V c (7 - (p + j) % 8) hV2 hbyte
      rw [HB.out, ← HV.out] at hs2
      go_round
      case rel => exact ⟨j + 1, by omega, by go_num, by rw [hs2]⟩
      case measure => simp [intOf]; omega
    · obtain rfl : j = m := by omega
      have i2 : decide ((p : Int) + (j : Int) < (p : Int) + (j : Int)) = false := by simp
      go_wp2
      go_ret2
      exact ⟨rfl, hb⟩
/-- Pull of bits that are right, at every place. -/
theorem pull_all (v : Value) (bs : List Bool) (p k : Int) (w : World) (hr : RowB w v (P.pack bs)) (n1 : (bs.length : Int) ≤ 9223372036854775807) (p1 : p ≤ 9223372036854775807) :
    Calls Tryd.prog 22 #[.agg #[v, .int .i64 bs.length], .int .i64 p, .int .i64 k] w (fun e w' => e = .returned (.tuple #[.int .u64 (P.pullV bs p k), .int .i64 (P.pullE bs p k)]) ∧ Below w.heap.size w w') := by
  have hbt : Byt (P.pack bs) := P.pack_byt _ bs
  unfold P.pullV P.pullE
  by_cases h : k < 0 ∨ 64 < k ∨ p < 0
  · rw [if_pos h, if_pos h]
    exact pull_arg v _ _ p k w hr hbt n1 (P.pack_ok bs) h
  · rw [if_neg h, if_neg h]
    by_cases hs : (bs.length : Int) - k < p
    · rw [if_pos hs, if_pos hs]
      exact pull_short v _ _ p k w hr hbt n1 (P.pack_ok bs) (by omega) (by omega) (by omega) p1 hs
    · rw [if_neg hs, if_neg hs]
      obtain ⟨p', rfl⟩ := Int.eq_ofNat_of_zero_le (show 0 ≤ p by omega)
      obtain ⟨k', rfl⟩ := Int.eq_ofNat_of_zero_le (show 0 ≤ k by omega)
      exact pull_ok v bs p' k' w hr n1 (by omega) (by omega)
end Go.Proofs.YteohlkpejdjenaaDoor
