/- Plain: bytes of a number are read back, and bytes that are read are just those of the number. -/
import Derived.Test.YtimenpceegcboaaTakeP
namespace Go.Proofs.Ytimenpceegcboaa
namespace P
theorem takeL_putL (f : Nat) : ∀ (k : Nat) (acc x : Int) (rest : List Int), k + f = 9 → 0 ≤ x → x < 2 * 128 ^ f → (k = 0 ∨ 0 < x) →
    takeL k acc (putL f x ++ rest) = (acc + x * 128 ^ k, (k : Int) + (putL f x).length, 0) := by
  have small : ∀ (f k : Nat) (acc x : Int) (rest : List Int), k + f = 9 → 0 ≤ x → x < 2 * 128 ^ f → (k = 0 ∨ 0 < x) → x < 128 →
      takeL k acc (putL f x ++ rest) = (acc + x * 128 ^ k, (k : Int) + (putL f x).length, 0) := by
    intro f k acc x rest hk h0 hx hp hs
    rw [putL_small f x hs, List.singleton_append, take_last k acc x rest ?_ hs]
    · have : x % 128 = x := by omega
      rw [this]; simp
    · rintro (⟨rfl, h1⟩ | ⟨h1, h2⟩)
      · obtain rfl : f = 0 := by omega
        simp at hx; omega
      · omega
  induction f with
  | zero => intro k acc x rest hk h0 hx hp; exact small 0 k acc x rest hk h0 hx hp (by simp at hx; omega)
  | succ f ih =>
    intro k acc x rest hk h0 hx hp
    by_cases hs : x < 128
    · exact small (f + 1) k acc x rest hk h0 hx hp hs
    · obtain ⟨g, hg, hpl, hlt⟩ := putL_step (f + 1) x (by omega) hx
      obtain rfl : f = g := by omega
      rw [hpl, List.cons_append, take_more k acc _ _ (by omega) (by omega), ih (k + 1) _ _ rest (by omega) (by omega) hlt (by omega)]
      have e1 : (x % 128 + 128) % 128 = x % 128 := by omega
      have e2 : acc + x % 128 * 128 ^ k + x / 128 * 128 ^ (k + 1) = acc + x * 128 ^ k := by
        have e : x = 128 * (x / 128) + x % 128 := by omega
        generalize x / 128 = q at e
        generalize x % 128 = r at e
        subst e
        rw [Int.pow_succ]
        grind
      rw [e1, e2]
      simp
      omega
theorem take_put (u : Int) (rest : List Int) (h0 : 0 ≤ u) (h1 : u ≤ 18446744073709551615) : take (put u ++ rest) = (u, ((put u).length : Int), 0) := by
  have h := takeL_putL 9 0 0 u rest rfl h0 (by have : (128 : Int) ^ 9 = 9223372036854775808 := by decide
                                               omega) (.inl rfl)
  simpa [take, put] using h

/-- What is read off bytes: an error comes with nothing. -/
theorem takeL_err (l : List Int) : ∀ (k : Nat) (u : Int), (takeL k u l).2.2 ≠ 0 → (takeL k u l).1 = 0 ∧ (takeL k u l).2.1 = 0 := by
  induction l with
  | nil => intro k u _; exact ⟨rfl, rfl⟩
  | cons c r ih =>
    intro k u h
    rw [takeL] at h ⊢
    split
    · exact ⟨rfl, rfl⟩
    · rename_i hb
      rw [if_neg hb] at h
      split
      · rename_i hc; rw [if_pos hc] at h; simp at h
      · rename_i hc; rw [if_neg hc] at h; exact ih _ _ h
/-- What is read without an error: how many bytes; they are the number's own. -/
theorem takeL_ok (l : List Int) : ∀ (k : Nat) (u : Int), k ≤ 9 → (∀ y ∈ l, 0 ≤ y ∧ y ≤ 255) → (takeL k u l).2.2 = 0 →
    ∃ (x : Int) (n : Nat), 1 ≤ n ∧ n ≤ l.length ∧ (takeL k u l).1 = u + x * 128 ^ k ∧ (takeL k u l).2.1 = (k : Int) + n ∧ putL (9 - k) x = l.take n ∧ 0 ≤ x ∧ (k = 0 ∨ 0 < x) ∧ x < 2 * 128 ^ (9 - k) := by
  induction l with
  | nil => intro k u _ _ h; simp [takeL] at h
  | cons c r ih =>
    intro k u hk hb h
    have hc := hb c (by simp)
    rw [takeL] at h ⊢
    split
    · rename_i hbad; rw [if_pos hbad] at h; simp at h
    · rename_i hbad
      rw [if_neg hbad] at h
      split
      · rename_i hlt
        refine ⟨c, 1, by omega, by simp, ?_, by simp, ?_, hc.1, by omega, ?_⟩
        · have : c % 128 = c := by omega
          rw [this]
        · rw [putL_small _ _ hlt]; rfl
        · rcases Nat.lt_or_ge k 9 with h9 | h9
          · have : 128 ^ 1 ≤ (128 : Int) ^ (9 - k) := by
              have h3 : (128 : Nat) ^ 1 ≤ 128 ^ (9 - k) := Nat.pow_le_pow_right (by decide) (by omega)
              exact_mod_cast h3
            omega
          · obtain rfl : k = 9 := by omega
            simp; omega
      · rename_i hlt
        rw [if_neg hlt] at h
        have hk8 : k ≤ 8 := by omega
        obtain ⟨x, n, hn, hnl, e1, e2, e3, x0, xp, xb⟩ := ih (k + 1) _ (by omega) (fun y hy => hb y (List.mem_cons_of_mem _ hy)) h
        have hx : (128 * x + c % 128) / 128 = x := by omega
        have hm : (128 * x + c % 128) % 128 = c % 128 := by omega
        have hxp : 0 < x := by omega
        refine ⟨128 * x + c % 128, n + 1, by omega, by simp; omega, ?_, ?_, ?_, by omega, by omega, ?_⟩
        · rw [e1, Int.pow_succ]; grind
        · rw [e2]; simp; omega
        · have ef : 9 - k = (9 - (k + 1)) + 1 := by omega
          rw [ef, putL, if_neg (by omega), hx, hm, e3]
          have : c % 128 + 128 = c := by omega
          rw [this]; rfl
        · have ef : 9 - k = (9 - (k + 1)) + 1 := by omega
          rw [ef, Int.pow_succ]; omega
end P
end Go.Proofs.Ytimenpceegcboaa
