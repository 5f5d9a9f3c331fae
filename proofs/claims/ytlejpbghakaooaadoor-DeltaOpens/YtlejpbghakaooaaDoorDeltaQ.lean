/- Plain: how bits are read as times: heads, changes, lists. -/
import Derived.Test.YtlejpbghakaooaaDoorDsgn
namespace Go.Proofs.YtlejpbghakaooaaDoor
namespace P
open Go.RowKit (wrap64)
theorem ofVal_of : ∀ (Y : List Bool) (n : Nat), Y.length = n → ofVal (val Y) n = Y
  | Y, 0, h => by rw [List.length_eq_zero_iff.1 h]; rfl
  | Y, n + 1, h => by
    have hne : Y ≠ [] := by intro e; rw [e] at h; cases h
    have e := List.dropLast_concat_getLast hne
    have ih := ofVal_of Y.dropLast n (by rw [List.length_dropLast]; omega)
    generalize Y.getLast hne = b at e
    generalize Y.dropLast = Z at e ih
    subst e
    rw [ofVal_succ, val_snoc]
    have e1 : (2 * val Z + b.toNat) / 2 = val Z := by cases b <;> simp <;> omega
    have e2 : decide ((2 * val Z + b.toNat) % 2 = 1) = b := by cases b <;> simp <;> omega
    rw [e1, e2, ih]
/-- The head of a change of class k stands at the front. -/
def Head (X : List Bool) (k : Nat) : Prop := k ≤ 4 ∧ X.take (hb k) = ofVal (hv k) (hb k)
theorem head_zero (X : List Bool) (j : Nat) (hj : j < 4) (hX : X.take j = List.replicate j true) (hl : j < X.length) (hb0 : bit X j = 0) : Head X j := by
  have e : X.take (j + 1) = List.replicate j true ++ [false] := by
    rw [List.take_succ_eq_append_getElem hl, hX]
    unfold bit at hb0
    rw [List.getD_eq_getElem?_getD, List.getElem?_eq_getElem hl, Option.getD_some] at hb0
    have : X[j] = false := by cases h : X[j] <;> simp_all
    rw [this]
  match j, hj with
  | 0, _ => exact ⟨by decide, e⟩
  | 1, _ => exact ⟨by decide, e⟩
  | 2, _ => exact ⟨by decide, e⟩
  | 3, _ => exact ⟨by decide, e⟩
theorem head_four (X : List Bool) (hX : X.take 4 = List.replicate 4 true) : Head X 4 := ⟨by decide, hX⟩
theorem ones_next (X : List Bool) (j : Nat) (hX : X.take j = List.replicate j true) (hl : j < X.length) (hb1 : bit X j ≠ 0) : X.take (j + 1) = List.replicate (j + 1) true := by
  rw [List.take_succ_eq_append_getElem hl, hX]
  unfold bit at hb1
  rw [List.getD_eq_getElem?_getD, List.getElem?_eq_getElem hl, Option.getD_some] at hb1
  have : X[j] = true := by cases h : X[j] <;> simp_all
  rw [this, List.replicate_succ']
theorem no_head (X : List Bool) (j : Nat) (hj : j < 4) (hX : X.take j = List.replicate j true) (hl : X.length ≤ j) (k : Nat) : ¬ Head X k := by
  rintro ⟨hk, h⟩
  rw [List.take_of_length_le hl] at hX
  subst hX
  have h2 := congrArg List.length h
  rw [ofVal_len, List.length_take, List.length_replicate] at h2
  have hh : hb k ≤ j := by omega
  match k, hk with
  | 0, _ => match j, hj with
    | 0, _ => simp [hb] at hh
    | 1, _ => simp [hb, hv] at h; revert h; decide
    | 2, _ => simp [hb, hv] at h; revert h; decide
    | 3, _ => simp [hb, hv] at h; revert h; decide
  | 1, _ => match j, hj with
    | 0, _ => simp [hb] at hh
    | 1, _ => simp [hb] at hh
    | 2, _ => simp [hb, hv] at h; revert h; decide
    | 3, _ => simp [hb, hv] at h; revert h; decide
  | 2, _ => match j, hj with
    | 0, _ => simp [hb] at hh
    | 1, _ => simp [hb] at hh
    | 2, _ => simp [hb] at hh
    | 3, _ => simp [hb, hv] at h; revert h; decide
  | 3, _ => simp [hb] at hh; omega
  | 4, _ => simp [hb] at hh; omega
def headOf : List Bool → Nat
  | false :: _ => 0
  | true :: false :: _ => 1
  | true :: true :: false :: _ => 2
  | true :: true :: true :: false :: _ => 3
  | _ => 4
theorem head_of (X : List Bool) (k : Nat) (h : Head X k) : headOf X = k := by
  obtain ⟨hk, h⟩ := h
  match k, hk, h with
  | 0, _, h =>
    have h : X.take 1 = [false] := h
    match X, h with
    | x0 :: X, h => simp at h; subst h; rfl
  | 1, _, h =>
    have h : X.take 2 = [true, false] := h
    match X, h with
    | x0 :: x1 :: X, h => simp at h; obtain ⟨rfl, rfl⟩ := h; rfl
  | 2, _, h =>
    have h : X.take 3 = [true, true, false] := h
    match X, h with
    | x0 :: x1 :: x2 :: X, h => simp at h; obtain ⟨rfl, rfl, rfl⟩ := h; rfl
  | 3, _, h =>
    have h : X.take 4 = [true, true, true, false] := h
    match X, h with
    | x0 :: x1 :: x2 :: x3 :: X, h => simp at h; obtain ⟨rfl, rfl, rfl, rfl⟩ := h; rfl
  | 4, _, h =>
    have h : X.take 4 = [true, true, true, true] := h
    match X, h with
    | x0 :: x1 :: x2 :: x3 :: X, h => simp at h; obtain ⟨rfl, rfl, rfl, rfl⟩ := h; rfl
theorem head_one (X : List Bool) (k k' : Nat) (h : Head X k) (h' : Head X k') : k = k' := (head_of X k h).symm.trans (head_of X k' h')
theorem sgn_mod (x : Nat) (k : Nat) (hk : k ≤ 4) : sgn ((x % 2 ^ wd k : Nat) : Int) (wd k) = sgn (x : Int) (wd k) := by
  match k, hk with
  | 0, _ => show sgn _ 0 = sgn _ 0; rw [sgn0, sgn0]
  | 1, _ => show sgn ((x % 2 ^ 7 : Nat) : Int) 7 = sgn _ 7; rw [sgn7, sgn7]; omega
  | 2, _ => show sgn ((x % 2 ^ 9 : Nat) : Int) 9 = sgn _ 9; rw [sgn9, sgn9]; omega
  | 3, _ => show sgn ((x % 2 ^ 12 : Nat) : Int) 12 = sgn _ 12; rw [sgn12, sgn12]; omega
  | 4, _ => show sgn ((x % 2 ^ 64 : Nat) : Int) 64 = sgn _ 64; rw [sgn64, sgn64]; unfold wrap64; omega
theorem sgn_low (v : Nat) (k : Nat) (hk : k ≤ 4) (hv : v < 2 ^ wd k) : u64 (sgn (v : Int) (wd k)) % 2 ^ wd k = v := by
  unfold u64
  match k, hk, hv with
  | 0, _, hv => show (sgn (v : Int) 0 % _).toNat % 2 ^ 0 = v; have hv : v < 2 ^ 0 := hv; rw [sgn0]; omega
  | 1, _, hv => show (sgn (v : Int) 7 % _).toNat % 2 ^ 7 = v; have hv : v < 2 ^ 7 := hv; rw [sgn7]; omega
  | 2, _, hv => show (sgn (v : Int) 9 % _).toNat % 2 ^ 9 = v; have hv : v < 2 ^ 9 := hv; rw [sgn9]; omega
  | 3, _, hv => show (sgn (v : Int) 12 % _).toNat % 2 ^ 12 = v; have hv : v < 2 ^ 12 := hv; rw [sgn12]; omega
  | 4, _, hv => show (sgn (v : Int) 64 % _).toNat % 2 ^ 64 = v; have hv : v < 2 ^ 64 := hv; rw [sgn64]; unfold wrap64; omega
theorem sgn_lo (v : Nat) (k : Nat) (hk : k ≤ 4) : -9223372036854775808 ≤ sgn (v : Int) (wd k) ∧ sgn (v : Int) (wd k) ≤ 9223372036854775807 := by
  match k, hk with
  | 0, _ => show _ ≤ sgn _ 0 ∧ sgn _ 0 ≤ _; rw [sgn0]; decide
  | 1, _ => show _ ≤ sgn _ 7 ∧ sgn _ 7 ≤ _; rw [sgn7]; omega
  | 2, _ => show _ ≤ sgn _ 9 ∧ sgn _ 9 ≤ _; rw [sgn9]; omega
  | 3, _ => show _ ≤ sgn _ 12 ∧ sgn _ 12 ≤ _; rw [sgn12]; omega
  | 4, _ => show _ ≤ sgn _ 64 ∧ sgn _ 64 ≤ _; rw [sgn64]; exact ⟨wrap64_lo _, wrap64_hi _⟩
/-- xs stands at the front of X. -/
def Fr (X xs : List Bool) : Prop := X.take xs.length = xs
theorem Fr.len {X xs : List Bool} (h : Fr X xs) : xs.length ≤ X.length := by
  have := congrArg List.length h
  rw [List.length_take] at this; omega
theorem fr_app {X xs ys : List Bool} : Fr X (xs ++ ys) ↔ Fr X xs ∧ Fr (X.drop xs.length) ys := by
  unfold Fr
  rw [List.length_append, List.take_add]
  constructor
  · intro h
    have hl := congrArg List.length h
    simp only [List.length_append, List.length_take, List.length_drop] at hl
    exact List.append_inj h (by rw [List.length_take]; omega)
  · rintro ⟨h1, h2⟩; rw [h1, h2]
/-- What is read as a change. -/
theorem read_sound (X : List Bool) (k : Nat) (hh : Head X k) (hl : hb k + wd k ≤ X.length) (c : Int) (hc : c = sgn (val ((X.drop (hb k)).take (wd k)) : Nat) (wd k)) (hcls : cls c = k) : Fr X (chg c) := by
  have hyl : ((X.drop (hb k)).take (wd k)).length = wd k := by rw [List.length_take, List.length_drop]; omega
  have hv := val_lt ((X.drop (hb k)).take (wd k))
  rw [hyl] at hv
  have hy := ofVal_of _ _ hyl
  unfold Fr chg chgK
  rw [hcls, List.length_append, ofVal_len, ofVal_len, List.take_add, hh.2, hc, sgn_low _ _ hh.1 hv, hy]
theorem read_full (X : List Bool) (c : Int) (h0 : -9223372036854775808 ≤ c) (h1 : c ≤ 9223372036854775807) (h : Fr X (chg c)) :
    Head X (cls c) ∧ hb (cls c) + wd (cls c) ≤ X.length ∧ sgn (val ((X.drop (hb (cls c))).take (wd (cls c))) : Nat) (wd (cls c)) = c := by
  have hl := h.len
  rw [chg_len] at hl
  unfold chg chgK at h
  rw [fr_app] at h
  obtain ⟨ha, hb'⟩ := h
  unfold Fr at ha hb'
  rw [ofVal_len] at ha hb'
  rw [ofVal_len] at hb'
  refine ⟨⟨cls_le c, ha⟩, hl, ?_⟩
  rw [hb', val_ofVal _ _ (Nat.mod_lt _ (Nat.pow_pos (by decide))), sgn_mod _ _ (cls_le c)]
  have e : ((u64 c : Nat) : Int) = IntKind.u64.wrap c := by rw [IntKind.wrap_u64]; unfold u64; omega
  rw [e]
  exact sgn_eq c h0 h1
theorem chg_one (X : List Bool) (c c' : Int) (h0 : -9223372036854775808 ≤ c) (h1 : c ≤ 9223372036854775807) (h0' : -9223372036854775808 ≤ c') (h1' : c' ≤ 9223372036854775807) (h : Fr X (chg c)) (h' : Fr X (chg c')) : c = c' := by
  obtain ⟨a1, _, a3⟩ := read_full X c h0 h1 h
  obtain ⟨b1, _, b3⟩ := read_full X c' h0' h1' h'
  have e := head_one X _ _ a1 b1
  rw [← a3, ← b3, e]
end P
end Go.Proofs.YtlejpbghakaooaaDoor
