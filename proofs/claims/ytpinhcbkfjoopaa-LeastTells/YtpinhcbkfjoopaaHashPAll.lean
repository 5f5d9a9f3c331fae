/- Several texts in one. -/
import Derived.Test.YtpinhcbkfjoopaaKitAll
/- Plain: how numbers below 2^64 are mixed and unmixed; numbers of bytes. -/
namespace Go.Proofs.Ytpinhcbkfjoopaa
namespace P
/-- A number with its front turned into it. -/
def sx (s n : Nat) : Nat := n ^^^ (n >>> s)
/-- Turned back, where a third of the bits is moved, or more. -/
def us (s n : Nat) : Nat := n ^^^ ((n ^^^ (n >>> s)) >>> s)
def mu (n f : Nat) : Nat := n * f % 18446744073709551616
def fac1 : Nat := 10321020848683521121
def fac2 : Nat := 7694936916205891629
def inv1 : Nat := 6334239490909081505
def inv2 : Nat := 6263247216084901797
def mix (n : Nat) : Nat := sx 28 (mu (sx 32 (mu (sx 29 n) fac1)) fac2)
def unmix (n : Nat) : Nat := us 29 (mu (sx 32 (mu (us 28 n) inv2)) inv1)
theorem sx_lt (s n : Nat) (h : n < 18446744073709551616) : sx s n < 18446744073709551616 := by
  have h2 : n >>> s ≤ n := by rw [Nat.shiftRight_eq_div_pow]; exact Nat.div_le_self _ _
  exact Nat.xor_lt_two_pow (n := 64) h (by show n >>> s < 18446744073709551616; omega)
theorem us_lt (s n : Nat) (h : n < 18446744073709551616) : us s n < 18446744073709551616 := by
  have h1 : (n ^^^ n >>> s) >>> s ≤ n ^^^ n >>> s := by rw [Nat.shiftRight_eq_div_pow]; exact Nat.div_le_self _ _
  have h2 := sx_lt s n h
  unfold sx at h2
  exact Nat.xor_lt_two_pow (n := 64) h (by show _ < 18446744073709551616; omega)
theorem mu_lt (n f : Nat) : mu n f < 18446744073709551616 := Nat.mod_lt _ (by decide)
theorem mix_lt (n : Nat) : mix n < 18446744073709551616 := sx_lt _ _ (mu_lt _ _)
theorem unmix_lt (n : Nat) : unmix n < 18446744073709551616 := us_lt _ _ (mu_lt _ _)
theorem sr_zero (s n : Nat) (h : n < 18446744073709551616) (hs : 64 ≤ s) : n >>> s = 0 := by
  rw [Nat.shiftRight_eq_div_pow]
  refine Nat.div_eq_of_lt (Nat.lt_of_lt_of_le h ?_)
  exact Nat.pow_le_pow_right (n := 2) (by decide) hs
theorem us_sx (s n : Nat) (h : n < 18446744073709551616) (hs : 64 ≤ s + s + s) : us s (sx s n) = n := by
  unfold us sx
  have h0 := sr_zero (s + s + s) n h hs
  simp only [Nat.shiftRight_xor_distrib, ← Nat.shiftRight_add, h0, Nat.xor_zero]
  rw [Nat.xor_assoc (n >>> s), Nat.xor_self, Nat.xor_zero, Nat.xor_assoc, Nat.xor_self, Nat.xor_zero]
theorem sx_us (s n : Nat) (h : n < 18446744073709551616) (hs : 64 ≤ s + s + s) : sx s (us s n) = n := by
  unfold us sx
  have h0 := sr_zero (s + s + s) n h hs
  simp only [Nat.shiftRight_xor_distrib, ← Nat.shiftRight_add, h0, Nat.xor_zero]
  rw [Nat.xor_assoc n, Nat.xor_self, Nat.xor_zero]
theorem sx_sx (s n : Nat) (h : n < 18446744073709551616) (hs : 64 ≤ s + s) : sx s (sx s n) = n := by
  unfold sx
  have h0 := sr_zero (s + s) n h hs
  simp only [Nat.shiftRight_xor_distrib, ← Nat.shiftRight_add, h0, Nat.xor_zero]
  rw [Nat.xor_assoc n, Nat.xor_self, Nat.xor_zero]
theorem mu_mu (n f g : Nat) (h : n < 18446744073709551616) (hfg : f * g % 18446744073709551616 = 1) : mu (mu n f) g = n := by
  unfold mu
  rw [Nat.mod_mul_mod, Nat.mul_assoc, ← Nat.mul_mod_mod, hfg, Nat.mul_one, Nat.mod_eq_of_lt h]
theorem unmix_mix (n : Nat) (h : n < 18446744073709551616) : unmix (mix n) = n := by
  unfold unmix mix
  rw [us_sx 28 _ (mu_lt _ _) (by decide), mu_mu _ fac2 inv2 (sx_lt _ _ (mu_lt _ _)) (by decide), sx_sx 32 _ (mu_lt _ _) (by decide), mu_mu _ fac1 inv1 (sx_lt _ _ h) (by decide), us_sx 29 n h (by decide)]
theorem mix_unmix (n : Nat) (h : n < 18446744073709551616) : mix (unmix n) = n := by
  unfold unmix mix
  rw [sx_us 29 _ (mu_lt _ _) (by decide), mu_mu _ inv1 fac1 (sx_lt _ _ (mu_lt _ _)) (by decide), sx_sx 32 _ (mu_lt _ _) (by decide), mu_mu _ inv2 fac2 (us_lt _ _ h) (by decide), sx_us 28 n h (by decide)]
theorem mix_inj (n m : Nat) (hn : n < 18446744073709551616) (hm : m < 18446744073709551616) (h : mix n = mix m) : n = m := by
  rw [← unmix_mix n hn, h, unmix_mix m hm]
theorem mix_zero : mix 0 = 0 := by decide
/-- One byte more, k bytes ahead of it. -/
def hstep (h k : Nat) (c : Int) : Nat := mix ((h + c.toNat + 256 * k) % 18446744073709551616)
def hgo : Nat → Nat → List Int → Nat
  | h, _, [] => h
  | h, k, c :: l => hgo (hstep h k c) (k + 1) l
def hof (seed : Nat) (l : List Int) : Nat := hgo (mix seed) 0 l
theorem hstep_lt (h k : Nat) (c : Int) : hstep h k c < 18446744073709551616 := mix_lt _
theorem hgo_lt (l : List Int) : ∀ (h k : Nat), h < 18446744073709551616 → hgo h k l < 18446744073709551616 := by
  induction l with
  | nil => intro h k hh; exact hh
  | cons c l ih => intro h k _; exact ih _ _ (hstep_lt h k c)
theorem hof_lt (seed : Nat) (l : List Int) : hof seed l < 18446744073709551616 := hgo_lt l _ _ (mix_lt _)
theorem hstep_inj (h g k : Nat) (c : Int) (hh : h < 18446744073709551616) (hg : g < 18446744073709551616) (he : hstep h k c = hstep g k c) : h = g := by
  have := mix_inj _ _ (Nat.mod_lt _ (by decide)) (Nat.mod_lt _ (by decide)) he
  omega
theorem hgo_inj (l : List Int) : ∀ (h g k : Nat), h < 18446744073709551616 → g < 18446744073709551616 → hgo h k l = hgo g k l → h = g := by
  induction l with
  | nil => intro h g k _ _ he; exact he
  | cons c l ih =>
    intro h g k hh hg he
    exact hstep_inj h g k c hh hg (ih _ _ _ (hstep_lt _ _ _) (hstep_lt _ _ _) he)
theorem hof_inj (s t : Nat) (l : List Int) (hs : s < 18446744073709551616) (ht : t < 18446744073709551616) (h : hof s l = hof t l) : s = t :=
  mix_inj s t hs ht (hgo_inj l _ _ 0 (mix_lt _) (mix_lt _) h)
/-- Two texts that are not the same at one place. -/
theorem hgo_one (l : List Int) : ∀ (h k at' : Nat) (c : Int), h < 18446744073709551616 → at' < l.length → 0 ≤ c → c < 256 → 0 ≤ l.getD at' 0 → l.getD at' 0 < 256 → l.getD at' 0 ≠ c → hgo h k l ≠ hgo h k (l.set at' c) := by
  induction l with
  | nil => intro h k a c _ ha; simp at ha
  | cons d l ih =>
    intro h k a c hh ha hc0 hc1 hd0 hd1 hne
    cases a with
    | zero =>
      simp at hd0 hd1 hne
      intro he
      have h1 := hgo_inj l _ _ _ (hstep_lt _ _ _) (hstep_lt _ _ _) he
      have h2 := mix_inj _ _ (Nat.mod_lt _ (by decide)) (Nat.mod_lt _ (by decide)) h1
      omega
    | succ a =>
      simp at ha hd0 hd1 hne
      exact ih _ _ a c (hstep_lt _ _ _) ha hc0 hc1 (by simpa using hd0) (by simpa using hd1) (by simpa using hne)
theorem hof_one (s : Nat) (l : List Int) (a : Nat) (c : Int) (ha : a < l.length) (hc0 : 0 ≤ c) (hc1 : c < 256) (hd0 : 0 ≤ l.getD a 0) (hd1 : l.getD a 0 < 256) (hne : l.getD a 0 ≠ c) : hof s l ≠ hof s (l.set a c) :=
  hgo_one l _ 0 a c (mix_lt _) ha hc0 hc1 hd0 hd1 hne
theorem hgo_front (l : List Int) : ∀ (h k j : Nat), j < l.length → hgo h k (l.take (j + 1)) = hstep (hgo h k (l.take j)) (k + j) (l.getD j 0) := by
  induction l with
  | nil => intro h k j hj; simp at hj
  | cons c l ih =>
    intro h k j hj
    cases j with
    | zero => simp [hgo]
    | succ j =>
      have := ih (hstep h k c) (k + 1) j (by simpa using hj)
      simp only [List.take_succ_cons, hgo]
      rw [this]
      simp [Nat.add_assoc, Nat.add_comm 1 j]
theorem hof_front (s : Nat) (l : List Int) (j : Nat) (hj : j < l.length) : hof s (l.take (j + 1)) = hstep (hof s (l.take j)) j (l.getD j 0) := by
  have := hgo_front l (mix s) 0 j hj
  rw [Nat.zero_add] at this
  exact this
end P
end Go.Proofs.Ytpinhcbkfjoopaa
