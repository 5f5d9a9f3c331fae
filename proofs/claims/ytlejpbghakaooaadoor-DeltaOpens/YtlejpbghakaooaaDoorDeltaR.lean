/- Plain: how bits are read as a list of times, one behind the other. -/
import Derived.Test.YtlejpbghakaooaaDoorDeltaQ
namespace Go.Proofs.YtlejpbghakaooaaDoor
namespace P
open Go.RowKit (wrap64)
theorem fr_front (bs : List Bool) (l : List Int) (n j : Nat) : Fr bs (front l n (j + 1)) ↔ Fr bs (front l n j) ∧ Fr (bs.drop (front l n j).length) (tb l j) := by
  rw [front_succ, fr_app]
theorem fr_mono (bs : List Bool) (l : List Int) (n j k : Nat) (h : j ≤ k) (hf : Fr bs (front l n k)) : Fr bs (front l n j) := by
  induction k with
  | zero => obtain rfl : j = 0 := by omega
            exact hf
  | succ k ih =>
    rcases Nat.lt_or_ge j (k + 1) with h1 | h1
    · exact ih (by omega) ((fr_front bs l n k).1 hf).1
    · obtain rfl : j = k + 1 := by omega
      exact hf
/-- A list that Pack takes stands at the front. -/
def Is (bs : List Bool) (m : List Int) : Prop := m.length ≤ 1000 ∧ I64 m ∧ Fr bs (packT m)
theorem Is.count {bs : List Bool} {m : List Int} (h : Is bs m) : 16 ≤ bs.length ∧ val (bs.take 16) = m.length := by
  obtain ⟨h1, h2, h3⟩ := h
  have h4 := fr_mono bs m m.length 0 m.length (by omega) h3
  rw [front_zero] at h4
  have hl := h4.len
  rw [ofVal_len] at hl
  unfold Fr at h4
  rw [ofVal_len] at h4
  exact ⟨hl, by rw [h4, val_ofVal _ _ (by omega)]⟩
theorem take_app {m acc : List Int} {j : Nat} (h : m.take j = acc) : m = acc ++ m.drop j := by rw [← h, List.take_append_drop]
theorem getD_app (acc r : List Int) (i : Nat) (h : i < acc.length) : (acc ++ r).getD i 0 = acc.getD i 0 := by
  rw [List.getD_eq_getElem?_getD, List.getD_eq_getElem?_getD, List.getElem?_append_left h]
theorem lst_app (acc r : List Int) : lst (acc ++ r) acc.length = lst acc acc.length := by
  unfold lst; split
  · rfl
  · exact getD_app acc r _ (by omega)
theorem stp_app (acc r : List Int) : stp (acc ++ r) acc.length = stp acc acc.length := by
  unfold stp; split
  · rfl
  · rw [getD_app acc r _ (by omega), getD_app acc r _ (by omega)]
theorem Is.at {bs : List Bool} {m acc : List Int} (h : Is bs m) (ha : m.take acc.length = acc) (hl : acc.length < m.length) : Fr (bs.drop (front acc m.length acc.length).length) (tb m acc.length) := by
  have h4 := fr_mono bs m m.length (acc.length + 1) m.length (by omega) h.2.2
  rw [fr_front] at h4
  have e : front m m.length acc.length = front acc m.length acc.length := by
    have := front_app acc (m.drop acc.length) m.length acc.length (Nat.le_refl _)
    rw [← take_app ha] at this
    exact this
  rw [e] at h4
  exact h4.2
theorem u64_wrap64 (f : Nat) (h : f < 18446744073709551616) : u64 (wrap64 f) = f := by unfold u64 wrap64; omega
theorem wrap64_u64 (x : Int) (h0 : -9223372036854775808 ≤ x) (h1 : x ≤ 9223372036854775807) : wrap64 (u64 x) = x := by unfold u64 wrap64; omega
theorem tb_zero (l : List Int) : tb l 0 = ofVal (u64 (l.getD 0 0)) 64 := by unfold tb; rw [if_pos rfl]
theorem getD_one (y : Int) : ([] ++ [y]).getD 0 0 = y := rfl
theorem first_sound (X : List Bool) (h : 64 ≤ X.length) : Fr X (tb ([] ++ [wrap64 (val (X.take 64) : Nat)]) 0) := by
  have hl : (X.take 64).length = 64 := by rw [List.length_take]; omega
  have hv := val_lt (X.take 64)
  rw [hl] at hv
  have hv : val (X.take 64) < 18446744073709551616 := by omega
  rw [tb_zero, getD_one, u64_wrap64 _ hv, ofVal_of _ _ hl]
  unfold Fr; rw [hl]
theorem first_full (X : List Bool) (m : List Int) (hi : I64 m) (h : Fr X (tb m 0)) : 64 ≤ X.length ∧ m.getD 0 0 = wrap64 (val (X.take 64) : Nat) := by
  rw [tb_zero] at h
  have hl := h.len
  rw [ofVal_len] at hl
  unfold Fr at h
  rw [ofVal_len] at h
  have hb := hi.at 0
  exact ⟨hl, by rw [h, val_ofVal _ _ (by have := u64_lt (m.getD 0 0); omega), wrap64_u64 _ hb.1 hb.2]⟩
/-- The number behind acc, its change being c. -/
def nxt (acc : List Int) (c : Int) : Int := wrap64 (lst acc acc.length + wrap64 (stp acc acc.length + c))
theorem getD_new (acc : List Int) (y : Int) : (acc ++ [y]).getD acc.length 0 = y := by
  rw [List.getD_eq_getElem?_getD, List.getElem?_append_right (Nat.le_refl _)]; simp
theorem getD_pred (acc r : List Int) (h : 0 < acc.length) : (acc ++ r).getD (acc.length - 1) 0 = lst acc acc.length := by
  unfold lst; rw [if_neg (by omega), getD_app acc r _ (by omega)]
theorem tb_next (acc : List Int) (c : Int) (h0 : -9223372036854775808 ≤ c) (h1 : c ≤ 9223372036854775807) (hp : 0 < acc.length) : tb (acc ++ [nxt acc c]) acc.length = chg c := by
  unfold tb
  rw [if_neg (by omega)]
  unfold cg
  rw [getD_new, getD_pred acc _ hp, stp_app]
  unfold nxt
  congr 1
  unfold wrap64; omega
theorem lst_new (acc : List Int) (y : Int) : lst (acc ++ [y]) (acc.length + 1) = y := by
  unfold lst; rw [if_neg (by omega), Nat.add_sub_cancel, getD_new]
theorem stp_new (acc : List Int) (c : Int) (hp : 0 < acc.length) : stp (acc ++ [nxt acc c]) (acc.length + 1) = wrap64 (stp acc acc.length + c) := by
  have e : stp (acc ++ [nxt acc c]) (acc.length + 1) = wrap64 ((acc ++ [nxt acc c]).getD acc.length 0 - (acc ++ [nxt acc c]).getD (acc.length - 1) 0) := by
    unfold stp; rw [if_neg (by omega)]; congr 2
  rw [e, getD_new, getD_pred acc _ hp]
  unfold nxt wrap64; omega
theorem next_full (m acc : List Int) (hi : I64 m) (ha : m.take acc.length = acc) (hp : 0 < acc.length) (c : Int) (h0 : -9223372036854775808 ≤ c) (h1 : c ≤ 9223372036854775807) (X : List Bool) (hf : Fr X (chg c)) (hm : Fr X (tb m acc.length)) : m.getD acc.length 0 = nxt acc c := by
  unfold tb at hm
  rw [if_neg (by omega)] at hm
  have e := chg_one X c (cg m acc.length) h0 h1 (wrap64_lo _) (wrap64_hi _) hf hm
  have e1 : m.getD (acc.length - 1) 0 = lst acc acc.length := by
    have := getD_pred acc (m.drop acc.length) hp
    rw [← take_app ha] at this
    exact this
  have e2 : stp m acc.length = stp acc acc.length := by
    have := stp_app acc (m.drop acc.length)
    rw [← take_app ha] at this
    exact this
  have hb := hi.at acc.length
  unfold cg at e
  rw [e1, e2] at e
  unfold nxt
  rw [e]
  generalize m.getD acc.length 0 = x at hb
  unfold wrap64; omega
theorem take_next (m acc : List Int) (ha : m.take acc.length = acc) (hl : acc.length < m.length) : m.take (acc.length + 1) = acc ++ [m.getD acc.length 0] := by
  rw [List.take_succ_eq_append_getElem hl, ha]
  simp [List.getD_eq_getElem?_getD, hl]
theorem i64_snoc {acc : List Int} {y : Int} (h : I64 acc) (h0 : -9223372036854775808 ≤ y) (h1 : y ≤ 9223372036854775807) : I64 (acc ++ [y]) := by
  intro x hx
  rcases List.mem_append.1 hx with h2 | h2
  · exact h x h2
  · simp at h2; subst h2; exact ⟨h0, h1⟩
/-- One step: a number more is read. -/
theorem read_step (bs : List Bool) (acc : List Int) (n : Nat) (y : Int) (hf : Fr bs (front acc n acc.length)) (ht : Fr (bs.drop (front acc n acc.length).length) (tb (acc ++ [y]) acc.length)) : Fr bs (front (acc ++ [y]) n (acc.length + 1)) ∧ (front (acc ++ [y]) n (acc.length + 1)).length = (front acc n acc.length).length + (tb (acc ++ [y]) acc.length).length := by
  have e := front_app acc [y] n acc.length (Nat.le_refl _)
  refine ⟨(fr_front bs _ n _).2 ⟨by rw [e]; exact hf, by rw [e]; exact ht⟩, ?_⟩
  rw [front_succ, e, List.length_append]
end P
end Go.Proofs.YtlejpbghakaooaaDoor
