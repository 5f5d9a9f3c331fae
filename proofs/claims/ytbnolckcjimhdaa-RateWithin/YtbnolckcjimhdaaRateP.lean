/- Plain: how much a counter has grown, how often it began anew, and how much per unit of time. -/
import Derived.Test.YtbnolckcjimhdaaChunkP
namespace Go.Proofs.Ytbnolckcjimhdaa
namespace P
/-- Is a measure below nought? -/
def neg (l : List (Int × Int)) : Bool := l.any fun s => decide (s.2 < 0)
/-- What Grown tells of samples that are not a counter's. -/
def chkC (l : List (Int × Int)) : Int := if chk l ≠ 0 then chk l else if neg l = true then 6 else 0
theorem neg_at {l : List (Int × Int)} (h : neg l = false) (j : Nat) : 0 ≤ (l.getD j (0, 0)).2 := by
  by_cases hj : j < l.length
  · have := List.any_eq_false.1 h l[j] (List.getElem_mem hj)
    simp at this
    simpa [List.getD_eq_getElem?_getD, List.getElem?_eq_getElem hj] using this
  · simp [List.getD_eq_getElem?_getD, List.getElem?_eq_none (Nat.le_of_not_lt hj)]
theorem neg_true {l : List (Int × Int)} {j : Nat} (hj : j < l.length) (h : (l.getD j (0, 0)).2 < 0) : neg l = true := by
  unfold neg
  rw [List.any_eq_true]
  refine ⟨l[j], List.getElem_mem hj, ?_⟩
  simpa [List.getD_eq_getElem?_getD, List.getElem?_eq_getElem hj] using h
theorem neg_false {l : List (Int × Int)} (h : ∀ j, j < l.length → 0 ≤ (l.getD j (0, 0)).2) : neg l = false := by
  unfold neg
  rw [List.any_eq_false]
  intro s hs
  obtain ⟨j, hj, rfl⟩ := List.mem_iff_getElem.1 hs
  have := h j hj
  simp [List.getD_eq_getElem?_getD, List.getElem?_eq_getElem hj] at this
  simpa using this
theorem neg_sub {l m : List (Int × Int)} (h : neg l = false) (hm : ∀ s ∈ m, s ∈ l) : neg m = false := by
  unfold neg at *
  rw [List.any_eq_false] at *
  exact fun s hs => h s (hm s hs)
theorem chkC_zero {l : List (Int × Int)} (h : chkC l = 0) : chk l = 0 ∧ neg l = false := by
  unfold chkC at h
  split at h
  · contradiction
  · split at h
    · omega
    · rename_i h1 h2; exact ⟨by simpa using h1, by simpa using h2⟩
theorem chkC_ok {l : List (Int × Int)} (h : chk l = 0) (hn : neg l = false) : chkC l = 0 := by
  unfold chkC; rw [if_neg (by simpa using h), if_neg (by simp [hn])]
theorem chkC_neg {l : List (Int × Int)} (h : chk l = 0) (hn : neg l = true) : chkC l = 6 := by
  unfold chkC; rw [if_neg (by simpa using h), if_pos hn]
theorem chkC_bad {l : List (Int × Int)} (h : chk l ≠ 0) : chkC l = chk l := by unfold chkC; rw [if_pos h]
/-- One step: the difference, or the measure itself where it began anew. -/
def stp (a b : Int) : Int := if a ≤ b then b - a else b
def an (a b : Int) : Int := if a ≤ b then 0 else 1
/-- How much up to the k-th step, without a bound, and modulo 2^64. -/
def groZ (l : List (Int × Int)) : Nat → Int
  | 0 => 0
  | k + 1 => groZ l k + stp (l.getD k (0, 0)).2 (l.getD (k + 1) (0, 0)).2
def gro (l : List (Int × Int)) (k : Nat) : Int := groZ l k % 18446744073709551616
def ane (l : List (Int × Int)) : Nat → Int
  | 0 => 0
  | k + 1 => ane l k + an (l.getD k (0, 0)).2 (l.getD (k + 1) (0, 0)).2
theorem gro_zero (l : List (Int × Int)) : gro l 0 = 0 := rfl
theorem gro_lo (l : List (Int × Int)) (k : Nat) : 0 ≤ gro l k := by unfold gro; omega
theorem gro_hi (l : List (Int × Int)) (k : Nat) : gro l k < 18446744073709551616 := by unfold gro; omega
theorem gro_succ (l : List (Int × Int)) (k : Nat) : gro l (k + 1) = (gro l k + stp (l.getD k (0, 0)).2 (l.getD (k + 1) (0, 0)).2) % 18446744073709551616 := by
  unfold gro; simp only [groZ]; omega
theorem an_lo (a b : Int) : 0 ≤ an a b ∧ an a b ≤ 1 := by unfold an; split <;> omega
theorem ane_bound (l : List (Int × Int)) (k : Nat) : 0 ≤ ane l k ∧ ane l k ≤ k := by
  induction k with
  | zero => simp [ane]
  | succ k ih => have := an_lo (l.getD k (0, 0)).2 (l.getD (k + 1) (0, 0)).2; simp only [ane]; omega
/-- How much in all, and how often it began anew. -/
def gr (l : List (Int × Int)) : Int := gro l (l.length - 1)
def ae (l : List (Int × Int)) : Int := ane l (l.length - 1)
theorem gr_lo (l : List (Int × Int)) : 0 ≤ gr l := gro_lo _ _
theorem gr_hi (l : List (Int × Int)) : gr l < 18446744073709551616 := gro_hi _ _
theorem groZ_ext {l m : List (Int × Int)} (k : Nat) (h : ∀ j, j ≤ k → l.getD j (0, 0) = m.getD j (0, 0)) : groZ l k = groZ m k := by
  induction k with
  | zero => rfl
  | succ k ih => simp only [groZ]; rw [ih fun j hj => h j (by omega), h k (by omega), h (k + 1) (by omega)]
theorem ane_ext {l m : List (Int × Int)} (k : Nat) (h : ∀ j, j ≤ k → l.getD j (0, 0) = m.getD j (0, 0)) : ane l k = ane m k := by
  induction k with
  | zero => rfl
  | succ k ih => simp only [ane]; rw [ih fun j hj => h j (by omega), h k (by omega), h (k + 1) (by omega)]
theorem drop_getD (l : List (Int × Int)) (a j : Nat) : (l.drop a).getD j (0, 0) = l.getD (a + j) (0, 0) := by simp [List.getD_eq_getElem?_getD]
theorem take_getD {l : List (Int × Int)} {a j : Nat} (h : j < a) : (l.take a).getD j (0, 0) = l.getD j (0, 0) := by simp [List.getD_eq_getElem?_getD, h]
theorem groZ_add (l : List (Int × Int)) (a b : Nat) : groZ l (a + b) = groZ l a + groZ (l.drop a) b := by
  induction b with
  | zero => simp [groZ]
  | succ b ih => rw [← Nat.add_assoc]; simp only [groZ]; rw [ih, drop_getD, drop_getD, Nat.add_assoc]; omega
theorem ane_add (l : List (Int × Int)) (a b : Nat) : ane l (a + b) = ane l a + ane (l.drop a) b := by
  induction b with
  | zero => simp [ane]
  | succ b ih => rw [← Nat.add_assoc]; simp only [ane]; rw [ih, drop_getD, drop_getD, Nat.add_assoc]; omega
/-- Cut at a sample that both parts have. -/
theorem gr_parts {l : List (Int × Int)} {k : Nat} (hk : k < l.length) : gr l = (gr (l.take (k + 1)) + gr (l.drop k)) % 18446744073709551616 := by
  have e1 : (l.take (k + 1)).length - 1 = k := by simp; omega
  have e2 : (l.drop k).length - 1 = l.length - 1 - k := by simp; omega
  have e3 : groZ (l.take (k + 1)) k = groZ l k := groZ_ext k fun j hj => take_getD (by omega)
  have e4 := groZ_add l k (l.length - 1 - k)
  rw [show k + (l.length - 1 - k) = l.length - 1 by omega] at e4
  unfold gr gro
  rw [e1, e2, e3, e4]; omega
theorem ae_parts {l : List (Int × Int)} {k : Nat} (hk : k < l.length) : ae l = ae (l.take (k + 1)) + ae (l.drop k) := by
  have e1 : (l.take (k + 1)).length - 1 = k := by simp; omega
  have e2 : (l.drop k).length - 1 = l.length - 1 - k := by simp; omega
  have e3 : ane (l.take (k + 1)) k = ane l k := ane_ext k fun j hj => take_getD (by omega)
  have e4 := ane_add l k (l.length - 1 - k)
  rw [show k + (l.length - 1 - k) = l.length - 1 by omega] at e4
  unfold ae
  rw [e1, e2, e3, e4]
/-- One that never begins anew. -/
theorem groZ_steady {l : List (Int × Int)} : ∀ k, ane l k = 0 → groZ l k = (l.getD k (0, 0)).2 - (l.getD 0 (0, 0)).2 := by
  intro k
  induction k with
  | zero => intro _; simp [groZ]
  | succ k ih =>
    intro h
    have h1 := ane_bound l k
    have h2 := an_lo (l.getD k (0, 0)).2 (l.getD (k + 1) (0, 0)).2
    simp only [ane] at h
    have h3 : an (l.getD k (0, 0)).2 (l.getD (k + 1) (0, 0)).2 = 0 := by omega
    unfold an at h3
    split at h3
    · rename_i h4
      simp only [groZ]
      rw [ih (by omega)]
      unfold stp
      rw [if_pos h4]; omega
    · omega
theorem gr_steady {l : List (Int × Int)} (h : ae l = 0) : gr l = ((l.getD (l.length - 1) (0, 0)).2 - (l.getD 0 (0, 0)).2) % 18446744073709551616 := by
  unfold gr gro
  rw [groZ_steady _ h]
/-- Are from, to and unit as they must be? -/
def argOK (f t u : Int) : Prop := f < t ∧ (-1152921504606846976 ≤ f ∧ f ≤ 1152921504606846976) ∧ (-1152921504606846976 ≤ t ∧ t ≤ 1152921504606846976) ∧ (1 ≤ u ∧ u ≤ 1099511627776)
instance (f t u : Int) : Decidable (argOK f t u) := by unfold argOK; infer_instance
/-- How far the last time is from the first one. -/
def far (l : List (Int × Int)) : Int := (l.getD (l.length - 1) (0, 0)).1 - (l.getD 0 (0, 0)).1
theorem far_pos {l : List (Int × Int)} (h : Ris l) (h2 : 2 ≤ l.length) : 0 < far l := by
  unfold far
  have := ris_at h (show 0 < l.length - 1 by omega) (by omega)
  omega
/-- Per's error, and what it tells. -/
def perE (l : List (Int × Int)) (f t u : Int) : Int :=
  if chkC l ≠ 0 then chkC l else if ¬ argOK f t u then 1 else if (btw l f t).length < 2 then 13 else if 9223372036854775808 ≤ gr (btw l f t) * u then 2 else 0
def perV (l : List (Int × Int)) (f t u : Int) : Int := if perE l f t u ≠ 0 then 0 else gr (btw l f t) * u / far (btw l f t)
theorem div_iff {g u : Int} (hu : 1 ≤ u) : (9223372036854775807 / u < g) ↔ 9223372036854775808 ≤ g * u := by
  have := Int.ediv_lt_iff_lt_mul (a := 9223372036854775807) (b := g) (c := u) (by omega)
  rw [this]; omega
theorem btw_in (l : List (Int × Int)) (f t : Int) (j : Nat) (hj : j < (btw l f t).length) : f ≤ ((btw l f t).getD j (0, 0)).1 ∧ ((btw l f t).getD j (0, 0)).1 < t := by
  have h := (List.mem_filter.1 (List.getElem_mem hj)).2
  simp only [Bool.and_eq_true, decide_eq_true_eq] at h
  simpa [List.getD_eq_getElem?_getD, List.getElem?_eq_getElem hj] using h
theorem btw_again (l : List (Int × Int)) (f t : Int) : btw (btw l f t) f t = btw l f t := by unfold btw; rw [List.filter_filter]; simp
theorem chkC_btw {l : List (Int × Int)} (h : chkC l = 0) (f t : Int) : chkC (btw l f t) = 0 := by
  obtain ⟨h1, h2⟩ := chkC_zero h
  obtain ⟨h3, h4⟩ := chk_zero h1
  exact chkC_ok (chk_ok (Nat.le_trans (btw_length l f t) h3) (btw_ris h4 f t)) (neg_sub h2 fun s hs => (List.mem_filter.1 hs).1)
theorem perE_btw {l : List (Int × Int)} (h : chkC l = 0) (f t u : Int) : perE (btw l f t) f t u = perE l f t u := by
  unfold perE; rw [h, chkC_btw h, btw_again]
theorem perV_btw {l : List (Int × Int)} (h : chkC l = 0) (f t u : Int) : perV (btw l f t) f t u = perV l f t u := by
  unfold perV; rw [perE_btw h, btw_again]
/-- In a unit that is k times as long. -/
theorem perE_unit {l : List (Int × Int)} {f t u k : Int} (hu : 1 ≤ u) (hk : 1 ≤ k) (huk : u * k ≤ 1099511627776) : perE l f t (u * k) = perE l f t u ∨ (perE l f t u = 0 ∧ perE l f t (u * k) = 2) := by
  have hm : u ≤ u * k := by have := Int.mul_le_mul_of_nonneg_left hk (show 0 ≤ u by omega); omega
  have hA : argOK f t (u * k) ↔ argOK f t u := by unfold argOK; omega
  have hgm : gr (btw l f t) * u ≤ gr (btw l f t) * (u * k) := Int.mul_le_mul_of_nonneg_left hm (gr_lo _)
  unfold perE
  by_cases c1 : chkC l ≠ 0
  · rw [if_pos c1, if_pos c1]; exact .inl rfl
  · rw [if_neg c1, if_neg c1]
    by_cases c2 : argOK f t u
    · rw [if_neg (show ¬ ¬ argOK f t (u * k) from not_not_intro (hA.2 c2)), if_neg (show ¬ ¬ argOK f t u from not_not_intro c2)]
      by_cases c3 : (btw l f t).length < 2
      · rw [if_pos c3, if_pos c3]; exact .inl rfl
      · rw [if_neg c3, if_neg c3]
        by_cases c4 : 9223372036854775808 ≤ gr (btw l f t) * u
        · rw [if_pos c4, if_pos (by omega)]; exact .inl rfl
        · rw [if_neg c4]
          by_cases c5 : 9223372036854775808 ≤ gr (btw l f t) * (u * k)
          · rw [if_pos c5]; exact .inr ⟨rfl, rfl⟩
          · rw [if_neg c5]; exact .inl rfl
    · rw [if_pos (fun h => c2 (hA.1 h)), if_pos c2]; exact .inl rfl
theorem perE_zero {l : List (Int × Int)} {f t u : Int} (h : perE l f t u = 0) : chkC l = 0 ∧ argOK f t u ∧ 2 ≤ (btw l f t).length ∧ gr (btw l f t) * u < 9223372036854775808 := by
  unfold perE at h
  split at h
  · contradiction
  · split at h
    · omega
    · split at h
      · omega
      · split at h
        · omega
        · rename_i h1 h2 h3 h4
          exact ⟨by simpa using h1, by simpa using h2, by omega, by omega⟩
theorem perV_bound (l : List (Int × Int)) (f t u : Int) : 0 ≤ perV l f t u ∧ perV l f t u < 9223372036854775808 := by
  unfold perV
  split
  · omega
  · rename_i h
    obtain ⟨h1, h2, h3, h4⟩ := perE_zero (by simpa using h)
    have hf := far_pos (btw_ris (chk_zero (chkC_zero h1).1).2 f t) h3
    have hp : 0 ≤ gr (btw l f t) * u := Int.mul_nonneg (gr_lo _) (by have := h2.2.2.2.1; omega)
    have := Int.ediv_le_self (far (btw l f t)) hp
    exact ⟨Int.ediv_nonneg hp (by omega), by omega⟩
theorem perV_unit {l : List (Int × Int)} {f t u k : Int} (hk : 1 ≤ k) (h : perE l f t u = 0) (h2 : perE l f t (u * k) = 0) : (perV l f t (u * k)).tdiv k = perV l f t u := by
  have hb := (perV_bound l f t (u * k)).1
  rw [Int.tdiv_eq_ediv_of_nonneg hb]
  unfold perV
  rw [if_neg (show ¬ perE l f t (u * k) ≠ 0 by simpa using h2), if_neg (show ¬ perE l f t u ≠ 0 by simpa using h)]
  obtain ⟨h1, _, h3, _⟩ := perE_zero h
  have hf := far_pos (btw_ris (chk_zero (chkC_zero h1).1).2 f t) h3
  generalize far (btw l f t) = d at *
  rw [Int.ediv_ediv_of_nonneg (by omega), ← Int.mul_assoc, Int.mul_ediv_mul_of_pos_left _ _ (by omega)]
end P
end Go.Proofs.Ytbnolckcjimhdaa
