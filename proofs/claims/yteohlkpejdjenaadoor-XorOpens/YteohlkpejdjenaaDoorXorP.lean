/- Plain: measures as bits: turns, windows, and what Pack makes of a list. -/
import Derived.Test.YteohlkpejdjenaaDoorXlen
import Derived.Test.YteohlkpejdjenaaDoorBitP
namespace Go.Proofs.YteohlkpejdjenaaDoor
namespace P
theorem lt_bitLenAux : ∀ (f x : Nat), x < 2 ^ f → x < 2 ^ Lib.bitLenAux f x
  | 0, x, h => by simpa [Lib.bitLenAux] using h
  | f + 1, x, h => by
    unfold Lib.bitLenAux
    split
    · omega
    · have h2 : x / 2 < 2 ^ f := by rw [Nat.pow_succ] at h; omega
      have := lt_bitLenAux f (x / 2) h2
      rw [Nat.add_comm, Nat.pow_succ]; omega
theorem lz_ge (t a : Nat) (ht : t < 18446744073709551616) (ha : a ≤ 64) : a ≤ lz t ↔ t < 2 ^ (64 - a) := by
  have hb : Lib.bitLen t ≤ 64 := bitLen_le64 t ht
  unfold lz
  constructor
  · intro h
    have h1 : t < 2 ^ Lib.bitLen t := lt_bitLenAux 64 t (by simpa using ht)
    exact Nat.lt_of_lt_of_le h1 (Nat.pow_le_pow_right (by decide) (by omega))
  · intro h
    have := Lib.bitLen_le t (64 - a) (by omega) h
    omega
theorem lz_le (t : Nat) (ht : t < 18446744073709551616) (h0 : t ≠ 0) : lz t ≤ 63 := by
  have h := lz_ge t 64 ht (by decide)
  simp at h
  omega
theorem tz_spec (t : Nat) (h0 : t ≠ 0) (ht : t < 18446744073709551616) : ∃ m, t = 2 ^ tz t * (2 * m + 1) ∧ tz t < 64 := by
  have h := Lib.ctzFrom_spec 64 t (by omega) (by simpa using ht)
  have e : tz t = Lib.ctzFrom 64 t := by simp [tz, Lib.ctz, h0]
  rw [e]; exact h
theorem tz_ge (t b : Nat) (h0 : t ≠ 0) (ht : t < 18446744073709551616) : b ≤ tz t ↔ t % 2 ^ b = 0 := by
  obtain ⟨m, hm, hk⟩ := tz_spec t h0 ht
  generalize tz t = k at hm hk ⊢
  constructor
  · intro h
    have : 2 ^ b ∣ 2 ^ k := Nat.pow_dvd_pow 2 h
    rw [hm]
    exact Nat.mod_eq_zero_of_dvd (Nat.dvd_mul_right_of_dvd this _)
  · intro h
    refine Nat.le_of_not_lt fun hlt => ?_
    have h1 : 2 ^ (k + 1) ∣ t := Nat.dvd_trans (Nat.pow_dvd_pow 2 hlt) (Nat.dvd_of_mod_eq_zero h)
    rw [hm, Nat.pow_succ] at h1
    have h2 := Nat.dvd_of_mul_dvd_mul_left (Nat.pow_pos (by decide)) h1
    omega
theorem lz_tz (t : Nat) (h0 : t ≠ 0) (ht : t < 18446744073709551616) : lz t + tz t ≤ 63 := by
  have h1 := lz_le t ht h0
  have h2 := (lz_ge t (lz t) ht (by omega)).1 (Nat.le_refl _)
  obtain ⟨m, hm, hk⟩ := tz_spec t h0 ht
  have h3 : 2 ^ tz t ≤ t := by
    have h4 : 2 ^ tz t ≤ 2 ^ tz t * (2 * m + 1) := Nat.le_mul_of_pos_right _ (by omega)
    omega
  have h5 : 2 ^ tz t < 2 ^ (64 - lz t) := Nat.lt_of_le_of_lt h3 h2
  have := (Nat.pow_lt_pow_iff_right (by decide)).1 h5
  omega
def nw (w : Nat × Nat) (t : Nat) : Nat × Nat := if t = 0 then w else if w.1 ≤ lz t ∧ w.2 ≤ tz t then w else (lz t, tz t)
def body (a b t : Nat) : List Bool := ofVal (t / 2 ^ b) (64 - a - b)
/-- The bits of a turn where there is this window. -/
def tbits (w : Nat × Nat) (t : Nat) : List Bool :=
  if t = 0 then ofVal 0 1 else if w.1 ≤ lz t ∧ w.2 ≤ tz t then ofVal 2 2 ++ body w.1 w.2 t
  else ofVal 3 2 ++ (ofVal (lz t) 6 ++ (ofVal (63 - lz t - tz t) 6 ++ body (lz t) (tz t) t))
/-- A window that is none, or one. -/
def Win (w : Nat × Nat) : Prop := w.1 = 64 ∧ w.2 = 64 ∨ w.1 + w.2 ≤ 63
theorem win_nw {w : Nat × Nat} (h : Win w) (t : Nat) (ht : t < 18446744073709551616) : Win (nw w t) := by
  unfold nw
  split
  · exact h
  · rename_i h0
    split
    · exact h
    · exact .inr (lz_tz t h0 ht)
/-- A window that holds a turn is one. -/
theorem win_holds {w : Nat × Nat} (h : Win w) (t : Nat) (h0 : t ≠ 0) (ht : t < 18446744073709551616) (h1 : w.1 ≤ lz t) : w.1 + w.2 ≤ 63 := by
  have := lz_le t ht h0
  rcases h with h | h <;> omega
theorem body_lt (a b t : Nat) (h0 : t ≠ 0) (ht : t < 18446744073709551616) (ha : a ≤ lz t) (hb : b ≤ tz t) : t / 2 ^ b < 2 ^ (64 - a - b) := by
  have h := lz_tz t h0 ht
  have h1 := (lz_ge t a ht (by omega)).1 ha
  apply Nat.div_lt_of_lt_mul
  rw [← Nat.pow_add]
  have e : b + (64 - a - b) = 64 - a := by omega
  rw [e]; exact h1
theorem body_back (b t : Nat) (h0 : t ≠ 0) (ht : t < 18446744073709551616) (hb : b ≤ tz t) : t / 2 ^ b * 2 ^ b = t := Nat.div_mul_cancel (Nat.dvd_of_mod_eq_zero ((tz_ge t b h0 ht).1 hb))
theorem body_len (a b t : Nat) : (body a b t).length = 64 - a - b := ofVal_len _ _
theorem tbits_le (w : Nat × Nat) (t : Nat) : (tbits w t).length ≤ 78 := by
  unfold tbits
  split
  · simp [ofVal_len]
  · split <;> simp [ofVal_len, body_len] <;> omega
theorem tbits_pos (w : Nat × Nat) (t : Nat) : 1 ≤ (tbits w t).length := by
  unfold tbits
  split
  · simp [ofVal_len]
  · split <;> simp [ofVal_len, body_len] <;> omega
/-- What a value in a window's bits is as a turn. -/
theorem turn_of (a b x : Nat) (hab : a + b ≤ 63) (hx : x < 2 ^ (64 - a - b)) (h0 : x ≠ 0) : x * 2 ^ b ≠ 0 ∧ x * 2 ^ b < 18446744073709551616 ∧ a ≤ lz (x * 2 ^ b) ∧ b ≤ tz (x * 2 ^ b) ∧ x * 2 ^ b / 2 ^ b = x := by
  have hp : 0 < 2 ^ b := Nat.pow_pos (by decide)
  have h1 : x * 2 ^ b < 2 ^ (64 - a) := by
    have e : 64 - a = (64 - a - b) + b := by omega
    rw [e, Nat.pow_add]
    exact Nat.mul_lt_mul_of_pos_right hx hp
  have h2 : x * 2 ^ b < 18446744073709551616 := Nat.lt_of_lt_of_le h1 (by
    have : (2 : Nat) ^ (64 - a) ≤ 2 ^ 64 := Nat.pow_le_pow_right (by decide) (by omega)
    simpa using this)
  have h3 : x * 2 ^ b ≠ 0 := Nat.mul_ne_zero h0 (by omega)
  exact ⟨h3, h2, (lz_ge _ a h2 (by omega)).2 h1, (tz_ge _ b h3 h2).2 (Nat.mul_mod_left _ _), Nat.mul_div_cancel _ hp⟩

def tn (l : List Int) (j : Nat) : Nat := (l.getD j 0).toNat ^^^ (l.getD (j - 1) 0).toNat
def win (l : List Int) : Nat → Nat × Nat
  | 0 => (64, 64)
  | j + 1 => if j = 0 then (64, 64) else nw (win l j) (tn l j)
def lst (l : List Int) (j : Nat) : Int := if j = 0 then 0 else l.getD (j - 1) 0
/-- The bits of the number at j. -/
def tb (l : List Int) (j : Nat) : List Bool := if j = 0 then ofVal (l.getD 0 0).toNat 64 else tbits (win l j) (tn l j)
def front (l : List Int) (n j : Nat) : List Bool := ofVal n 16 ++ (List.range j).flatMap (tb l)
def packT (l : List Int) : List Bool := front l l.length l.length
def U64 (l : List Int) : Prop := ∀ x ∈ l, 0 ≤ x ∧ x ≤ 18446744073709551615
theorem U64.at {l : List Int} (h : U64 l) (j : Nat) : 0 ≤ l.getD j 0 ∧ l.getD j 0 ≤ 18446744073709551615 := by
  by_cases hj : j < l.length
  · have := h l[j] (List.getElem_mem hj)
    simpa [List.getD_eq_getElem?_getD, List.getElem?_eq_getElem hj] using this
  · simp [List.getD_eq_getElem?_getD, List.getElem?_eq_none (Nat.le_of_not_lt hj)]
theorem xor_lt (a b : Nat) (ha : a < 18446744073709551616) (hb : b < 18446744073709551616) : a ^^^ b < 18446744073709551616 := by
  have h := Nat.xor_lt_two_pow (x := a) (y := b) (n := 64) (by simpa using ha) (by simpa using hb)
  simpa using h
theorem tn_lt {l : List Int} (h : U64 l) (j : Nat) : tn l j < 18446744073709551616 := by
  have h1 := h.at j
  have h2 := h.at (j - 1)
  exact xor_lt _ _ (by omega) (by omega)
theorem win_ok {l : List Int} (h : U64 l) : ∀ j, Win (win l j)
  | 0 => .inl ⟨rfl, rfl⟩
  | j + 1 => by
    unfold win
    split
    · exact .inl ⟨rfl, rfl⟩
    · exact win_nw (win_ok h j) _ (tn_lt h j)
theorem front_zero (l : List Int) (n : Nat) : front l n 0 = ofVal n 16 := by simp [front]
theorem front_succ (l : List Int) (n j : Nat) : front l n (j + 1) = front l n j ++ tb l j := by
  unfold front; rw [List.range_succ, List.flatMap_append]; simp
theorem tb_le (l : List Int) (j : Nat) : (tb l j).length ≤ 78 := by
  unfold tb; split
  · rw [ofVal_len]; omega
  · exact tbits_le _ _
theorem front_le (l : List Int) (n j : Nat) : (front l n j).length ≤ 16 + 78 * j := by
  induction j with
  | zero => rw [front_zero, ofVal_len]; omega
  | succ j ih => rw [front_succ, List.length_append]; have := tb_le l j; omega
theorem front_ge (l : List Int) (n j : Nat) : 16 ≤ (front l n j).length := by
  unfold front; rw [List.length_append, ofVal_len]; omega
theorem getD_app (acc r : List Int) (i : Nat) (h : i < acc.length) : (acc ++ r).getD i 0 = acc.getD i 0 := by
  rw [List.getD_eq_getElem?_getD, List.getD_eq_getElem?_getD, List.getElem?_append_left h]
/-- What stands further behind is no matter. -/
theorem tn_app (l m : List Int) (j : Nat) (h : j < l.length) : tn (l ++ m) j = tn l j := by
  unfold tn; rw [getD_app l m j h, getD_app l m (j - 1) (by omega)]
theorem win_app (l m : List Int) : ∀ (j : Nat), j ≤ l.length → win (l ++ m) j = win l j
  | 0, _ => rfl
  | j + 1, h => by
    unfold win
    rw [win_app l m j (by omega), tn_app l m j (by omega)]
theorem tb_app (l m : List Int) (j : Nat) (h : j < l.length) : tb (l ++ m) j = tb l j := by
  unfold tb
  rw [win_app l m j (by omega), tn_app l m j h, getD_app l m 0 (by omega)]
theorem front_app (l m : List Int) (n j : Nat) (h : j ≤ l.length) : front (l ++ m) n j = front l n j := by
  induction j with
  | zero => rw [front_zero, front_zero]
  | succ j ih => rw [front_succ, front_succ, ih (by omega), tb_app l m j (by omega)]
end P
end Go.Proofs.YteohlkpejdjenaaDoor
