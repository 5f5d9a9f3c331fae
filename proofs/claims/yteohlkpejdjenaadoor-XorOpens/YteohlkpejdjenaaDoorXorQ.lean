/- Plain: how bits are read as measures: turns, lists. -/
import Derived.Test.YteohlkpejdjenaaDoorXpack
namespace Go.Proofs.YteohlkpejdjenaaDoor
namespace P
theorem ofVal_of : ∀ (Y : List Bool) (n : Nat), Y.length = n → ofVal (val Y) n = Y
  | Y, 0, h => by rw [List.length_eq_zero_iff.1 h]; rfl
  | Y, n + 1, h => by
    have hne : Y ≠ [] := by intro e; rw [e] at h; cases h
    have e := List.dropLast_concat_getLast hne
    have ih := ofVal_of Y.dropLast n (by rw [List.length_dropLast]; omega)
    generalize Y.getLast hne = b at e
    generalize Y.dropLast = Z at e ih
    subst e
    rw [ofVal_succ, val_snoc]
    have e1 : (2 * val Z + b.toNat) / 2 = val Z := by cases b <;> simp <;> omega
    have e2 : decide ((2 * val Z + b.toNat) % 2 = 1) = b := by cases b <;> simp <;> omega
    rw [e1, e2, ih]
/-- xs stands at the front of X. -/
def Fr (X xs : List Bool) : Prop := X.take xs.length = xs
theorem Fr.len {X xs : List Bool} (h : Fr X xs) : xs.length ≤ X.length := by
  have := congrArg List.length h
  rw [List.length_take] at this; omega
theorem fr_app {X xs ys : List Bool} : Fr X (xs ++ ys) ↔ Fr X xs ∧ Fr (X.drop xs.length) ys := by
  unfold Fr
  rw [List.length_append, List.take_add]
  constructor
  · intro h
    have hl := congrArg List.length h
    simp only [List.length_append, List.length_take, List.length_drop] at hl
    exact List.append_inj h (by rw [List.length_take]; omega)
  · rintro ⟨h1, h2⟩; rw [h1, h2]
/-- A number's bits stand at the front. -/
theorem fr_ofVal (X : List Bool) (v n : Nat) (hv : v < 2 ^ n) : Fr X (ofVal v n) ↔ n ≤ X.length ∧ val (X.take n) = v := by
  unfold Fr
  rw [ofVal_len]
  constructor
  · intro h
    have hl := congrArg List.length h
    rw [List.length_take, ofVal_len] at hl
    exact ⟨by omega, by rw [h, val_ofVal v n hv]⟩
  · rintro ⟨hl, rfl⟩
    exact (ofVal_of _ n (by rw [List.length_take]; omega)).symm
theorem val_two (X : List Bool) (h : 2 ≤ X.length) : val (X.take 2) = 2 * val (X.take 1) + val ((X.drop 1).take 1) := by
  match X, h with
  | x :: y :: X, _ => simp [val]
theorem val_take_len (X : List Bool) (n : Nat) : val (X.take n) < 2 ^ n := by
  have := val_take_lt X 0 n
  rwa [List.drop_zero] at this
/-- The bits of a turn at the front, in the three ways. -/
theorem fr_zero (X : List Bool) (w : Nat × Nat) : Fr X (tbits w 0) ↔ 1 ≤ X.length ∧ val (X.take 1) = 0 := by
  unfold tbits
  rw [if_pos rfl]
  exact fr_ofVal X 0 1 (by decide)
theorem fr_hold (X : List Bool) (w : Nat × Nat) (t : Nat) (h0 : t ≠ 0) (ht : t < 18446744073709551616) (h : w.1 ≤ lz t ∧ w.2 ≤ tz t) :
    Fr X (tbits w t) ↔ (2 ≤ X.length ∧ val (X.take 2) = 2) ∧ 64 - w.1 - w.2 ≤ (X.drop 2).length ∧ val ((X.drop 2).take (64 - w.1 - w.2)) = t / 2 ^ w.2 := by
  unfold tbits body
  rw [if_neg h0, if_pos h, fr_app, fr_ofVal X 2 2 (by decide), ofVal_len, fr_ofVal _ _ _ (body_lt _ _ t h0 ht h.1 h.2)]
theorem fr_new (X : List Bool) (w : Nat × Nat) (t : Nat) (h0 : t ≠ 0) (ht : t < 18446744073709551616) (h : ¬ (w.1 ≤ lz t ∧ w.2 ≤ tz t)) :
    Fr X (tbits w t) ↔ (2 ≤ X.length ∧ val (X.take 2) = 3) ∧ (6 ≤ (X.drop 2).length ∧ val ((X.drop 2).take 6) = lz t) ∧ (6 ≤ (X.drop 8).length ∧ val ((X.drop 8).take 6) = 63 - lz t - tz t) ∧
      64 - lz t - tz t ≤ (X.drop 14).length ∧ val ((X.drop 14).take (64 - lz t - tz t)) = t / 2 ^ tz t := by
  have hlt := lz_tz t h0 ht
  unfold tbits body
  rw [if_neg h0, if_neg h, fr_app, fr_ofVal X 3 2 (by decide), ofVal_len, fr_app, fr_ofVal _ _ 6 (by omega), ofVal_len, fr_app, fr_ofVal _ _ 6 (by omega), ofVal_len, fr_ofVal _ _ _ (body_lt _ _ t h0 ht (Nat.le_refl _) (Nat.le_refl _)), List.drop_drop, List.drop_drop]
/-- What every turn's bits begin with. -/
theorem fr_ways (X : List Bool) (w : Nat × Nat) (t : Nat) (ht : t < 18446744073709551616) (h : Fr X (tbits w t)) :
    (t = 0 ∧ 1 ≤ X.length ∧ val (X.take 1) = 0) ∨ (t ≠ 0 ∧ (w.1 ≤ lz t ∧ w.2 ≤ tz t) ∧ 2 ≤ X.length ∧ val (X.take 2) = 2) ∨ (t ≠ 0 ∧ ¬ (w.1 ≤ lz t ∧ w.2 ≤ tz t) ∧ 2 ≤ X.length ∧ val (X.take 2) = 3) := by
  by_cases h0 : t = 0
  · subst h0
    exact .inl ⟨rfl, (fr_zero X w).1 h⟩
  · by_cases hh : w.1 ≤ lz t ∧ w.2 ≤ tz t
    · exact .inr (.inl ⟨h0, hh, ((fr_hold X w t h0 ht hh).1 h).1⟩)
    · exact .inr (.inr ⟨h0, hh, ((fr_new X w t h0 ht hh).1 h).1⟩)
/-- Two turns whose bits stand at one front are one. -/
theorem turn_one (X : List Bool) (w : Nat × Nat) (t t' : Nat) (ht : t < 18446744073709551616) (ht' : t' < 18446744073709551616) (h : Fr X (tbits w t)) (h' : Fr X (tbits w t')) : t = t' := by
  have a := fr_ways X w t ht h
  have a' := fr_ways X w t' ht' h'
  have v2 : 2 ≤ X.length → val (X.take 2) = 2 * val (X.take 1) + val ((X.drop 1).take 1) := val_two X
  have v1 := val_take_len (X.drop 1) 1
  rcases a with ⟨rfl, a1, a2⟩ | ⟨a0, ah, a1, a2⟩ | ⟨a0, ah, a1, a2⟩ <;> rcases a' with ⟨rfl, b1, b2⟩ | ⟨b0, bh, b1, b2⟩ | ⟨b0, bh, b1, b2⟩
  · rfl
  · have := v2 b1; omega
  · have := v2 b1; omega
  · have := v2 a1; omega
  · have e := ((fr_hold X w t a0 ht ah).1 h).2.2
    have e' := ((fr_hold X w t' b0 ht' bh).1 h').2.2
    rw [← body_back w.2 t a0 ht ah.2, ← body_back w.2 t' b0 ht' bh.2, ← e, ← e']
  · omega
  · have := v2 a1; omega
  · omega
  · obtain ⟨_, ⟨_, l1⟩, ⟨_, l2⟩, _, l3⟩ := (fr_new X w t a0 ht ah).1 h
    obtain ⟨_, ⟨_, k1⟩, ⟨_, k2⟩, _, k3⟩ := (fr_new X w t' b0 ht' bh).1 h'
    have q := lz_tz t a0 ht
    have q' := lz_tz t' b0 ht'
    have e1 : lz t = lz t' := by omega
    have e2 : tz t = tz t' := by omega
    rw [← body_back (tz t) t a0 ht (Nat.le_refl _), ← body_back (tz t') t' b0 ht' (Nat.le_refl _), ← l3, ← k3, e1, e2]
/-- Within the window: what is read is a turn just where it can be. -/
theorem hold_sound (X : List Bool) (w : Nat × Nat) (h2 : 2 ≤ X.length) (hv : val (X.take 2) = 2) (hw : w.1 + w.2 ≤ 63) (hl : 64 - w.1 - w.2 ≤ (X.drop 2).length) (hx : val ((X.drop 2).take (64 - w.1 - w.2)) ≠ 0) :
    Fr X (tbits w (val ((X.drop 2).take (64 - w.1 - w.2)) * 2 ^ w.2)) ∧ nw w (val ((X.drop 2).take (64 - w.1 - w.2)) * 2 ^ w.2) = w ∧ (tbits w (val ((X.drop 2).take (64 - w.1 - w.2)) * 2 ^ w.2)).length = 2 + (64 - w.1 - w.2) ∧ val ((X.drop 2).take (64 - w.1 - w.2)) * 2 ^ w.2 < 18446744073709551616 := by
  have hlt := val_take_len (X.drop 2) (64 - w.1 - w.2)
  obtain ⟨t0, t1, t2, t3, t4⟩ := turn_of w.1 w.2 _ hw hlt hx
  refine ⟨(fr_hold X w _ t0 t1 ⟨t2, t3⟩).2 ⟨⟨h2, hv⟩, hl, by rw [t4]⟩, ?_, ?_, t1⟩
  · unfold nw; rw [if_neg t0, if_pos ⟨t2, t3⟩]
  · unfold tbits; rw [if_neg t0, if_pos ⟨t2, t3⟩, List.length_append, ofVal_len, body_len]
theorem hold_full (X : List Bool) (w : Nat × Nat) (hw : Win w) (hv : val (X.take 2) = 2) (t : Nat) (ht : t < 18446744073709551616) (h : Fr X (tbits w t)) :
    w.1 + w.2 ≤ 63 ∧ 64 - w.1 - w.2 ≤ (X.drop 2).length ∧ val ((X.drop 2).take (64 - w.1 - w.2)) ≠ 0 := by
  have v2 : 2 ≤ X.length → val (X.take 2) = 2 * val (X.take 1) + val ((X.drop 1).take 1) := val_two X
  have v1 := val_take_len (X.drop 1) 1
  rcases fr_ways X w t ht h with ⟨rfl, a1, a2⟩ | ⟨a0, ah, a1, a2⟩ | ⟨a0, ah, a1, a2⟩
  · exfalso
    match X, a1 with
    | [x], _ => have e : val (List.take 2 [x]) = val (List.take 1 [x]) := rfl; omega
    | x :: y :: X, _ => have := v2 (by simp); omega
  · have e := (fr_hold X w t a0 ht ah).1 h
    refine ⟨win_holds hw t a0 ht ah.1, e.2.1, ?_⟩
    rw [e.2.2]
    intro hz
    have := body_back w.2 t a0 ht ah.2
    rw [hz] at this
    omega
  · omega
/-- With a new window: what is read is a turn just where it can be. -/
theorem new_sound (X : List Bool) (w : Nat × Nat) (c d t : Nat) (h2 : 2 ≤ X.length) (hv : val (X.take 2) = 3) (h14 : 14 ≤ X.length) (hc : val ((X.drop 2).take 6) = c) (hcd : val ((X.drop 8).take 6) = 63 - c - d) (hs : c + d ≤ 63) (hl : 64 - c - d ≤ (X.drop 14).length) (hx : val ((X.drop 14).take (64 - c - d)) ≠ 0)
    (ht : t = val ((X.drop 14).take (64 - c - d)) * 2 ^ d) (h1 : lz t = c) (hz : tz t = d) (hn : ¬ (w.1 ≤ c ∧ w.2 ≤ d)) :
    Fr X (tbits w t) ∧ nw w t = (c, d) ∧ (tbits w t).length = 14 + (64 - c - d) ∧ t < 18446744073709551616 := by
  have hlt := val_take_len (X.drop 14) (64 - c - d)
  obtain ⟨t0, t1, t2, t3, t4⟩ := turn_of c d _ hs hlt hx
  rw [← ht] at t0 t1 t2 t3 t4
  have hn' : ¬ (w.1 ≤ lz t ∧ w.2 ≤ tz t) := by rw [h1, hz]; exact hn
  refine ⟨(fr_new X w t t0 t1 hn').2 ⟨⟨h2, hv⟩, ⟨by rw [List.length_drop]; omega, by rw [hc, h1]⟩, ⟨by rw [List.length_drop]; omega, by rw [hcd, h1, hz]⟩, by rw [h1, hz]; exact hl, by rw [h1, hz, t4]⟩, ?_, ?_, t1⟩
  · unfold nw; rw [if_neg t0, if_neg hn', h1, hz]
  · unfold tbits
    rw [if_neg t0, if_neg hn', h1, hz]
    simp only [List.length_append, ofVal_len, body_len]
    omega
theorem new_full (X : List Bool) (w : Nat × Nat) (hv : val (X.take 2) = 3) (t : Nat) (ht : t < 18446744073709551616) (h : Fr X (tbits w t)) :
    14 ≤ X.length ∧ val ((X.drop 2).take 6) = lz t ∧ val ((X.drop 8).take 6) = 63 - lz t - tz t ∧ lz t + tz t ≤ 63 ∧ 64 - lz t - tz t ≤ (X.drop 14).length ∧ val ((X.drop 14).take (64 - lz t - tz t)) ≠ 0 ∧
      t = val ((X.drop 14).take (64 - lz t - tz t)) * 2 ^ tz t ∧ ¬ (w.1 ≤ lz t ∧ w.2 ≤ tz t) := by
  have v2 : 2 ≤ X.length → val (X.take 2) = 2 * val (X.take 1) + val ((X.drop 1).take 1) := val_two X
  have v1 := val_take_len (X.drop 1) 1
  rcases fr_ways X w t ht h with ⟨rfl, a1, a2⟩ | ⟨a0, ah, a1, a2⟩ | ⟨a0, ah, a1, a2⟩
  · exfalso
    match X, a1 with
    | [x], _ => have e : val (List.take 2 [x]) = val (List.take 1 [x]) := rfl; omega
    | x :: y :: X, _ => have := v2 (by simp); omega
  · omega
  · obtain ⟨_, ⟨l0, l1⟩, ⟨l2, l3⟩, l4, l5⟩ := (fr_new X w t a0 ht ah).1 h
    rw [List.length_drop] at l2
    have hb := body_back (tz t) t a0 ht (Nat.le_refl _)
    refine ⟨by omega, l1, l3, lz_tz t a0 ht, l4, ?_, by rw [l5, hb], ah⟩
    rw [l5]
    intro hz
    rw [hz] at hb
    omega
end P
end Go.Proofs.YteohlkpejdjenaaDoor
