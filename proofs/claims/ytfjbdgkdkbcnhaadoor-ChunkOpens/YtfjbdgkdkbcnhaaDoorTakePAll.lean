/- Several texts in one. -/
import Derived.Test.YtfjbdgkdkbcnhaaDoorPlainAll
import Derived.WalkKit
import Derived.WalkSpells
import Derived.WalkLawsBesides
/- Plain functions and lemmas: a number read at the front of bytes. -/
namespace Go.Proofs.YtfjbdgkdkbcnhaaDoor
namespace P
/-- What reading at place k, with u gathered, comes to: the number, how many bytes, the error. -/
def takeL : Nat → Int → List Int → Int × Int × Int
  | _, _, [] => (0, 0, 3)
  | k, u, c :: r => if (k = 9 ∧ 1 < c) ∨ (0 < k ∧ c = 0) then (0, 0, 4) else
      if c < 128 then (u + c % 128 * 128 ^ k, (k : Int) + 1, 0) else takeL (k + 1) (u + c % 128 * 128 ^ k) r
def take (l : List Int) : Int × Int × Int := takeL 0 0 l

theorem pow7 (k : Nat) : (2 : Int) ^ (7 * k) = 128 ^ k := by
  rw [Int.pow_mul]; rfl
theorem pow128_le (k : Nat) (h : k ≤ 9) : (128 : Int) ^ k ≤ 9223372036854775808 := by
  have h2 : (128 : Int) ^ k ≤ 128 ^ 9 := by
    have h3 : (128 : Nat) ^ k ≤ 128 ^ 9 := Nat.pow_le_pow_right (by decide) h
    exact_mod_cast h3
  have h4 : (128 : Int) ^ 9 = 9223372036854775808 := by decide
  omega
theorem pow128_le8 (k : Nat) (h : k ≤ 8) : (128 : Int) ^ k ≤ 72057594037927936 := by
  have h2 : (128 : Int) ^ k ≤ 128 ^ 8 := by
    have h3 : (128 : Nat) ^ k ≤ 128 ^ 8 := Nat.pow_le_pow_right (by decide) h
    exact_mod_cast h3
  have h4 : (128 : Int) ^ 8 = 72057594037927936 := by decide
  omega
theorem pow128_pos (k : Nat) : (0 : Int) < 128 ^ k := Int.pow_pos (by decide)
/-- A digit fits. -/
theorem digit_fits (k : Nat) (d : Int) (h0 : 0 ≤ d) (h1 : d < 128) (hk : k ≤ 8 ∨ k = 9 ∧ d ≤ 1) : 0 ≤ d * 128 ^ k ∧ d * 128 ^ k ≤ 9223372036854775808 := by
  have hp := pow128_pos k
  refine ⟨Int.mul_nonneg h0 (by omega), ?_⟩
  rcases hk with hk | ⟨rfl, hd⟩
  · have h2 := pow128_le8 k hk
    have h3 : d * 128 ^ k ≤ 127 * 128 ^ k := Int.mul_le_mul_of_nonneg_right (by omega) (by omega)
    omega
  · have h4 : (128 : Int) ^ 9 = 9223372036854775808 := by decide
    rw [h4]; omega
theorem or_step (k : Nat) (u d : Int) (hu0 : 0 ≤ u) (hu : u < 128 ^ k) (h0 : 0 ≤ d) (h1 : d < 128) (hk : k ≤ 8 ∨ k = 9 ∧ d ≤ 1) :
    bits .or .u64 u (IntKind.u64.wrap (d * 2 ^ (7 * k))) = u + d * 128 ^ k := by
  rw [pow7]
  have hf := digit_fits k d h0 h1 hk
  have hp := pow128_le k (by omega)
  rw [IntKind.wrap_u64, Int.emod_eq_of_lt (by omega) (by omega)]
  rw [u64_or u _ hu0 (by omega) hf.1 (by omega), Nat.or_comm]
  rw [nat_join (7 * k) _ _ ?_ ?_]
  · simp only [Int.natCast_add]
    rw [Int.toNat_of_nonneg hf.1, Int.toNat_of_nonneg hu0]; omega
  · have e : (d * 128 ^ k).toNat = d.toNat * 2 ^ (7 * k) := by
      rw [Int.toNat_mul h0 (by omega), Nat.pow_mul]
      congr 1
    rw [e]; simp
  · have h5 : (u.toNat : Int) < ((2 ^ (7 * k) : Nat) : Int) := by
      rw [Int.toNat_of_nonneg hu0]
      have : ((2 ^ (7 * k) : Nat) : Int) = (2 : Int) ^ (7 * k) := by simp
      rw [this, pow7]; exact hu
    exact_mod_cast h5
theorem or_step9 (u d : Int) (hu0 : 0 ≤ u) (hu : u < 128 ^ 9) (h0 : 0 ≤ d) (h1 : d ≤ 1) :
    bits .or .u64 u (d * 9223372036854775808) = u + d * 128 ^ 9 := by
  have h := or_step 9 u d hu0 hu h0 (by omega) (by omega)
  have e : (2 : Int) ^ (7 * 9) = 9223372036854775808 := by decide
  rw [e, IntKind.wrap_u64, Int.emod_eq_of_lt (by omega) (by omega)] at h
  exact h
theorem step_lt (k : Nat) (u d : Int) (hu : u < 128 ^ k) (h1 : d < 128) : u + d * 128 ^ k < 128 ^ (k + 1) := by
  have hp := pow128_pos k
  have h3 : d * 128 ^ k ≤ 127 * 128 ^ k := Int.mul_le_mul_of_nonneg_right (by omega) (by omega)
  rw [Int.pow_succ]; omega
theorem take_nil (k : Nat) (u : Int) : takeL k u [] = (0, 0, 3) := rfl
theorem take_bad (k : Nat) (u c : Int) (r : List Int) (h : (k = 9 ∧ 1 < c) ∨ (0 < k ∧ c = 0)) : takeL k u (c :: r) = (0, 0, 4) := by rw [takeL, if_pos h]
theorem take_last (k : Nat) (u c : Int) (r : List Int) (h : ¬ ((k = 9 ∧ 1 < c) ∨ (0 < k ∧ c = 0))) (h2 : c < 128) : takeL k u (c :: r) = (u + c % 128 * 128 ^ k, (k : Int) + 1, 0) := by rw [takeL, if_neg h, if_pos h2]
theorem take_more (k : Nat) (u c : Int) (r : List Int) (h : ¬ ((k = 9 ∧ 1 < c) ∨ (0 < k ∧ c = 0))) (h2 : ¬ c < 128) : takeL k u (c :: r) = takeL (k + 1) (u + c % 128 * 128 ^ k) r := by rw [takeL, if_neg h, if_neg h2]
theorem drop_at (l : List Int) (k : Nat) (h : k < l.length) : l.drop k = l.getD k 0 :: l.drop (k + 1) := by
  rw [List.drop_eq_getElem_cons h]; simp [List.getD_eq_getElem?_getD, List.getElem?_eq_getElem h]
end P
end Go.Proofs.YtfjbdgkdkbcnhaaDoor
/- Plain: bytes of a number are read back, and bytes that are read are just those of the number. -/
namespace Go.Proofs.YtfjbdgkdkbcnhaaDoor
namespace P
theorem takeL_putL (f : Nat) : ∀ (k : Nat) (acc x : Int) (rest : List Int), k + f = 9 → 0 ≤ x → x < 2 * 128 ^ f → (k = 0 ∨ 0 < x) →
    takeL k acc (putL f x ++ rest) = (acc + x * 128 ^ k, (k : Int) + (putL f x).length, 0) := by
  have small : ∀ (f k : Nat) (acc x : Int) (rest : List Int), k + f = 9 → 0 ≤ x → x < 2 * 128 ^ f → (k = 0 ∨ 0 < x) → x < 128 →
      takeL k acc (putL f x ++ rest) = (acc + x * 128 ^ k, (k : Int) + (putL f x).length, 0) := by
    intro f k acc x rest hk h0 hx hp hs
    rw [putL_small f x hs, List.singleton_append, take_last k acc x rest ?_ hs]
    · have : x % 128 = x := by omega
      rw [this]; simp
    · rintro (⟨rfl, h1⟩ | ⟨h1, h2⟩)
      · obtain rfl : f = 0 := by omega
        simp at hx; omega
      · omega
  induction f with
  | zero => intro k acc x rest hk h0 hx hp; exact small 0 k acc x rest hk h0 hx hp (by simp at hx; omega)
  | succ f ih =>
    intro k acc x rest hk h0 hx hp
    by_cases hs : x < 128
    · exact small (f + 1) k acc x rest hk h0 hx hp hs
    · obtain ⟨g, hg, hpl, hlt⟩ := putL_step (f + 1) x (by omega) hx
      obtain rfl : f = g := by omega
      rw [hpl, List.cons_append, take_more k acc _ _ (by omega) (by omega), ih (k + 1) _ _ rest (by omega) (by omega) hlt (by omega)]
      have e1 : (x % 128 + 128) % 128 = x % 128 := by omega
      have e2 : acc + x % 128 * 128 ^ k + x / 128 * 128 ^ (k + 1) = acc + x * 128 ^ k := by
        have e : x = 128 * (x / 128) + x % 128 := by omega
        generalize x / 128 = q at e
        generalize x % 128 = r at e
        subst e
        rw [Int.pow_succ]
        grind
      rw [e1, e2]
      simp
      omega
theorem take_put (u : Int) (rest : List Int) (h0 : 0 ≤ u) (h1 : u ≤ 18446744073709551615) : take (put u ++ rest) = (u, ((put u).length : Int), 0) := by
  have h := takeL_putL 9 0 0 u rest rfl h0 (by have : (128 : Int) ^ 9 = 9223372036854775808 := by decide
                                               omega) (.inl rfl)
  simpa [take, put] using h

/-- What is read off bytes: an error comes with nothing. -/
theorem takeL_err (l : List Int) : ∀ (k : Nat) (u : Int), (takeL k u l).2.2 ≠ 0 → (takeL k u l).1 = 0 ∧ (takeL k u l).2.1 = 0 := by
  induction l with
  | nil => intro k u _; exact ⟨rfl, rfl⟩
  | cons c r ih =>
    intro k u h
    rw [takeL] at h ⊢
    split
    · exact ⟨rfl, rfl⟩
    · rename_i hb
      rw [if_neg hb] at h
      split
      · rename_i hc; rw [if_pos hc] at h; simp at h
      · rename_i hc; rw [if_neg hc] at h; exact ih _ _ h
/-- What is read without an error: how many bytes; they are the number's own. -/
theorem takeL_ok (l : List Int) : ∀ (k : Nat) (u : Int), k ≤ 9 → (∀ y ∈ l, 0 ≤ y ∧ y ≤ 255) → (takeL k u l).2.2 = 0 →
    ∃ (x : Int) (n : Nat), 1 ≤ n ∧ n ≤ l.length ∧ (takeL k u l).1 = u + x * 128 ^ k ∧ (takeL k u l).2.1 = (k : Int) + n ∧ putL (9 - k) x = l.take n ∧ 0 ≤ x ∧ (k = 0 ∨ 0 < x) ∧ x < 2 * 128 ^ (9 - k) := by
  induction l with
  | nil => intro k u _ _ h; simp [takeL] at h
  | cons c r ih =>
    intro k u hk hb h
    have hc := hb c (by simp)
    rw [takeL] at h ⊢
    split
    · rename_i hbad; rw [if_pos hbad] at h; simp at h
    · rename_i hbad
      rw [if_neg hbad] at h
      split
      · rename_i hlt
        refine ⟨c, 1, by omega, by simp, ?_, by simp, ?_, hc.1, by omega, ?_⟩
        · have : c % 128 = c := by omega
          rw [this]
        · rw [putL_small _ _ hlt]; rfl
        · rcases Nat.lt_or_ge k 9 with h9 | h9
          · have : 128 ^ 1 ≤ (128 : Int) ^ (9 - k) := by
              have h3 : (128 : Nat) ^ 1 ≤ 128 ^ (9 - k) := Nat.pow_le_pow_right (by decide) (by omega)
              exact_mod_cast h3
            omega
          · obtain rfl : k = 9 := by omega
            simp; omega
      · rename_i hlt
        rw [if_neg hlt] at h
        have hk8 : k ≤ 8 := by omega
        obtain ⟨x, n, hn, hnl, e1, e2, e3, x0, xp, xb⟩ := ih (k + 1) _ (by omega) (fun y hy => hb y (List.mem_cons_of_mem _ hy)) h
        have hx : (128 * x + c % 128) / 128 = x := by omega
        have hm : (128 * x + c % 128) % 128 = c % 128 := by omega
        have hxp : 0 < x := by omega
        refine ⟨128 * x + c % 128, n + 1, by omega, by simp; omega, ?_, ?_, ?_, by omega, by omega, ?_⟩
        · rw [e1, Int.pow_succ]; grind
        · rw [e2]; simp; omega
        · have ef : 9 - k = (9 - (k + 1)) + 1 := by omega
          rw [ef, putL, if_neg (by omega), hx, hm, e3]
          have : c % 128 + 128 = c := by omega
          rw [this]; rfl
        · have ef : 9 - k = (9 - (k + 1)) + 1 := by omega
          rw [ef, Int.pow_succ]; omega
end P
end Go.Proofs.YtfjbdgkdkbcnhaaDoor
/- What bits.Take answers at all bytes. -/
namespace Go.Proofs.YtfjbdgkdkbcnhaaDoor
open Go.RowKit
set_option linter.unusedVariables false
set_option maxHeartbeats 1000000 in
theorem take_any (v : Value) (l : List Int) (w : World) (hr : RowB w v l) (hbt : Byt l) :
    Calls Tryd.prog 47 #[v] w fun e w' => e = .returned (.tuple #[.int .u64 (P.take l).1, .int .i64 (P.take l).2.1, .int .i64 (P.take l).2.2]) ∧ w' = w := by
  obtain ⟨a, cap, rfl, ⟨hlc, hmax, _⟩, hcase⟩ := hr
  unfold maxLen at hmax
  go_enter Tryd.func47, Tryd.ntmps47
  go_wp2
  go_loop [5, 6] (fun x i => ∃ (k : Nat) (X : Int), k ≤ l.length ∧ k ≤ 9 ∧ i = .int .i64 k ∧ x = .int .u64 X ∧ 0 ≤ X ∧ X < 128 ^ k ∧ P.take l = P.takeL k X (l.drop k)) (fun _ i => l.length - (intOf i).toNat)
  case atStart => exact ⟨0, 0, by omega, by omega, rfl, rfl, by omega, by omega, rfl⟩
  case round =>
    obtain ⟨k, X, hk, hk9, rfl, rfl, hX0, hX, hT⟩ := hrel
    have HT := hide hT
    have HX := hide hX
    clear hT hX
    by_cases hlt : k < l.length
    · rcases hcase with h | ⟨b, off, rfl, hbs, hcell⟩
      · rw [h] at hlt; simp at hlt
      have hc := hcell k hlt
      have hb := hbt.at k
      have HD := hide (P.drop_at l k hlt)
      generalize l.getD k 0 = c at hc hb HD
      obtain ⟨hb0, hb1⟩ := hb
      clear hcell
      go_wp2
      all_goals first
        | (have hbad : (k = 9 ∧ 1 < c) ∨ (0 < k ∧ c = 0) := by
             (try simp only [beq_iff_eq, beq_eq_false_iff_ne, ne_eq] at *)
             omega
           have hv : P.take l = (0, 0, 4) := by rw [HT.out, HD.out, P.take_bad _ _ _ _ hbad]
           go_ret3
           exact ⟨by rw [hv]; rfl, rfl⟩)
        | (have hgood : (¬ ((k = 9 ∧ 1 < c) ∨ (0 < k ∧ c = 0))) ∧ c < 128 := by
             (try simp only [beq_eq_false_iff_ne, ne_eq] at *)
             omega
           have hs := P.or_step k X (c % 128) hX0 HX.out (by omega) (by omega) (by omega)
           have hv : P.take l = (X + c % 128 * 128 ^ k, (k : Int) + 1, 0) := by rw [HT.out, HD.out, P.take_last _ _ _ _ hgood.1 hgood.2]
           go_ret3
           exact ⟨by rw [hv, ← hs]; rfl, rfl⟩)
        | (have hgood : (¬ ((k = 9 ∧ 1 < c) ∨ (0 < k ∧ c = 0))) ∧ ¬ c < 128 := by
             (try simp only [beq_eq_false_iff_ne, ne_eq] at *)
             omega
           have hs := P.or_step k X (c % 128) hX0 HX.out (by omega) (by omega) (by omega)
           have hf := P.digit_fits k (c % 128) (by omega) (by omega) (by omega)
           have hv : P.take l = P.takeL (k + 1) (X + c % 128 * 128 ^ k) (l.drop (k + 1)) := by rw [HT.out, HD.out, P.take_more _ _ _ _ hgood.1 hgood.2]
           go_round
           case rel => exact ⟨k + 1, _, by omega, by omega, by go_num, by rw [hs], by omega, P.step_lt k X _ HX.out (by omega), hv⟩
           case measure => simp [intOf]; omega)
        | (obtain rfl : k = 9 := by omega
           have hgood : (¬ ((9 = 9 ∧ 1 < c) ∨ (0 < 9 ∧ c = 0))) ∧ c < 128 := by
             (try simp only [beq_eq_false_iff_ne, ne_eq] at *)
             omega
           have hs := P.or_step9 X (c % 128) hX0 HX.out (by omega) (by omega)
           have hv : P.take l = (X + c % 128 * 128 ^ 9, ((9 : Nat) : Int) + 1, 0) := by rw [HT.out, HD.out, P.take_last _ _ _ _ hgood.1 hgood.2]
           go_ret3
           exact ⟨by rw [hv, ← hs]; rfl, rfl⟩)
    · go_wp2
      have hv : P.take l = (0, 0, 3) := by rw [HT.out, List.drop_eq_nil_of_le (by omega)]; rfl
      go_ret3
      exact ⟨by rw [hv]; rfl, rfl⟩
end Go.Proofs.YtfjbdgkdkbcnhaaDoor
/- What bits.Zig, bits.Zag and bits.Put answer at every number. -/
namespace Go.Proofs.YtfjbdgkdkbcnhaaDoor
open Go.RowKit
set_option linter.unusedVariables false

set_option maxHeartbeats 1000000 in
theorem put_any (u : Int) (w : World) (h0 : 0 ≤ u) (h1 : u ≤ 18446744073709551615) :
    Calls Tryd.prog 42 #[.int .u64 u] w fun e w' => ∃ v, e = .returned v ∧ OwnB w' w.heap.size v (P.put u) ∧ Below w.heap.size w w' := by
  go_enter Tryd.func42, Tryd.ntmps42
  go_wp2
  go_loopw [0, 3] (fun x v wr => ∃ (f : Nat) (y : Int) (acc : List Int), 0 ≤ y ∧ y ≤ 18446744073709551615 ∧ x = .int .u64 y ∧ y < 2 * 128 ^ f ∧ acc.length + f = 9 ∧ P.put u = acc ++ P.putL f y ∧ OwnB wr w.heap.size v acc ∧ Below w.heap.size w wr)
    (fun x _ _ => (intOf x).toNat)
  case atStart => exact ⟨9, u, [], h0, h1, rfl, by omega, rfl, rfl, World.ownsRow_nil _ _ _ _, Below.refl _ _⟩
  case round =>
    obtain ⟨f, y, acc, hy0, hy1, rfl, hyf, hal, hput, hown, hb⟩ := hrel
    have HP := hide hput
    have HF := hide hyf
    clear hput hyf
    have hbs := hb.size
    by_cases hlt : 128 ≤ y
    · obtain ⟨g, rfl, hpl, hyg⟩ := P.putL_step f y hlt HF.out
      have HR := hide hpl
      have HG := hide hyg
      clear hpl hyg
      go_wp2_with (at_builtin; go_must (refine wp_app1 rfl _ _ rfl w.heap.size w.heap.size w _ _ acc (y % 128 + 128) hown hb (Nat.le_refl _) rfl rfl (by omega) hbs ?_); intro v' w1 hown' hb' hsz _)
      go_roundw
      case rel => exact ⟨g, y / 128, acc ++ [y % 128 + 128], by omega, by omega, rfl, HG.out, by simp; omega, by rw [HP.out, HR.out]; simp, hown', hb'⟩
      case measure => simp [intOf]; omega
    · have HR := hide (P.putL_small f y (by omega))
      go_wp2_with (at_builtin; go_must (refine wp_app1 rfl _ _ rfl w.heap.size w.heap.size w _ _ acc y hown hb (Nat.le_refl _) rfl rfl (by omega) hbs ?_); intro v' w1 hown' hb' hsz _)
      go_ret
      exact ⟨v', rfl, by rw [HP.out, HR.out]; exact hown', hb'⟩
end Go.Proofs.YtfjbdgkdkbcnhaaDoor
