/- Plain: how bits are read as a list of measures, one behind the other. -/
import Derived.Test.YteohlkpejdjenaaDoorXtany
namespace Go.Proofs.YteohlkpejdjenaaDoor
theorem Tryd.info40 : (Tryd.prog.info? 40).map (fun i => (i.zero, i.size, i.bytes)) = some (some (.int .u64 0), 1, 8) := by kernel_rfl
theorem cells40 : Tryd.prog.cellsOf 40 = 1 := by kernel_rfl
theorem bytes40 : Tryd.prog.bytesOf 40 = 8 := by kernel_rfl
namespace P
theorem fr_front (bs : List Bool) (l : List Int) (n j : Nat) : Fr bs (front l n (j + 1)) ↔ Fr bs (front l n j) ∧ Fr (bs.drop (front l n j).length) (tb l j) := by
  rw [front_succ, fr_app]
theorem fr_mono (bs : List Bool) (l : List Int) (n j k : Nat) (h : j ≤ k) (hf : Fr bs (front l n k)) : Fr bs (front l n j) := by
  induction k with
  | zero => obtain rfl : j = 0 := by omega
            exact hf
  | succ k ih =>
    rcases Nat.lt_or_ge j (k + 1) with h1 | h1
    · exact ih (by omega) ((fr_front bs l n k).1 hf).1
    · obtain rfl : j = k + 1 := by omega
      exact hf
/-- A list that Pack takes stands at the front. -/
def Is (bs : List Bool) (m : List Int) : Prop := m.length ≤ 1000 ∧ U64 m ∧ Fr bs (packT m)
theorem Is.count {bs : List Bool} {m : List Int} (h : Is bs m) : 16 ≤ bs.length ∧ val (bs.take 16) = m.length := by
  obtain ⟨h1, h2, h3⟩ := h
  have h4 := fr_mono bs m m.length 0 m.length (by omega) h3
  rw [front_zero] at h4
  exact (fr_ofVal bs m.length 16 (by omega)).1 h4
theorem take_app {m acc : List Int} {j : Nat} (h : m.take j = acc) : m = acc ++ m.drop j := by rw [← h, List.take_append_drop]
theorem Is.at {bs : List Bool} {m acc : List Int} (h : Is bs m) (ha : m.take acc.length = acc) (hl : acc.length < m.length) : Fr (bs.drop (front acc m.length acc.length).length) (tb m acc.length) := by
  have h4 := fr_mono bs m m.length (acc.length + 1) m.length (by omega) h.2.2
  rw [fr_front] at h4
  have e : front m m.length acc.length = front acc m.length acc.length := by
    have := front_app acc (m.drop acc.length) m.length acc.length (Nat.le_refl _)
    rw [← take_app ha] at this
    exact this
  rw [e] at h4
  exact h4.2
theorem win_take {m acc : List Int} (ha : m.take acc.length = acc) : win m acc.length = win acc acc.length := by
  have := win_app acc (m.drop acc.length) acc.length (Nat.le_refl _)
  rw [← take_app ha] at this
  exact this
theorem tb_zero (l : List Int) : tb l 0 = ofVal (l.getD 0 0).toNat 64 := by unfold tb; rw [if_pos rfl]
theorem first_sound (X : List Bool) (h : 64 ≤ X.length) : Fr X (tb ([] ++ [((val (X.take 64) : Nat) : Int)]) 0) ∧ (tb ([] ++ [((val (X.take 64) : Nat) : Int)]) 0).length = 64 := by
  have hv := val_take_len X 64
  rw [tb_zero]
  have e : (([] ++ [((val (X.take 64) : Nat) : Int)]).getD 0 0).toNat = val (X.take 64) := rfl
  rw [e]
  exact ⟨(fr_ofVal X _ 64 hv).2 ⟨h, rfl⟩, ofVal_len _ _⟩
theorem first_full (X : List Bool) (m : List Int) (hi : U64 m) (h : Fr X (tb m 0)) : 64 ≤ X.length ∧ m.getD 0 0 = ((val (X.take 64) : Nat) : Int) := by
  rw [tb_zero] at h
  have hb := hi.at 0
  obtain ⟨h1, h2⟩ := (fr_ofVal X _ 64 (by omega)).1 h
  exact ⟨h1, by rw [h2]; omega⟩
/-- The number behind acc, its turn being t. -/
def nxt (acc : List Int) (t : Nat) : Int := (((lst acc acc.length).toNat ^^^ t : Nat) : Int)
theorem getD_new (acc : List Int) (y : Int) : (acc ++ [y]).getD acc.length 0 = y := by
  rw [List.getD_eq_getElem?_getD, List.getElem?_append_right (Nat.le_refl _)]; simp
theorem getD_pred (acc r : List Int) (h : 0 < acc.length) : (acc ++ r).getD (acc.length - 1) 0 = lst acc acc.length := by
  unfold lst; rw [if_neg (by omega), getD_app acc r _ (by omega)]
theorem xor_back (a b : Nat) : (a ^^^ b) ^^^ a = b := by rw [Nat.xor_comm a b, Nat.xor_assoc, Nat.xor_self, Nat.xor_zero]
theorem tn_next (acc : List Int) (t : Nat) (hp : 0 < acc.length) : tn (acc ++ [nxt acc t]) acc.length = t := by
  unfold tn
  rw [getD_new, getD_pred acc _ hp]
  unfold nxt
  rw [Int.toNat_natCast, xor_back]
theorem tb_next (acc : List Int) (t : Nat) (hp : 0 < acc.length) : tb (acc ++ [nxt acc t]) acc.length = tbits (win acc acc.length) t := by
  unfold tb
  rw [if_neg (by omega), tn_next acc t hp, win_app acc _ _ (Nat.le_refl _)]
theorem lst_new (acc : List Int) (y : Int) : lst (acc ++ [y]) (acc.length + 1) = y := by
  unfold lst; rw [if_neg (by omega), Nat.add_sub_cancel, getD_new]
theorem win_new (acc : List Int) (t : Nat) (hp : 0 < acc.length) : win (acc ++ [nxt acc t]) (acc.length + 1) = nw (win acc acc.length) t := by
  rw [win_next _ _ hp, tn_next acc t hp, win_app acc _ _ (Nat.le_refl _)]
theorem next_full (m acc : List Int) (hi : U64 m) (ha : m.take acc.length = acc) (hp : 0 < acc.length) (t : Nat) (ht : t < 18446744073709551616) (X : List Bool) (hf : Fr X (tbits (win acc acc.length) t)) (hm : Fr X (tb m acc.length)) : m.getD acc.length 0 = nxt acc t := by
  unfold tb at hm
  rw [if_neg (by omega), win_take ha] at hm
  have e := turn_one X _ t (tn m acc.length) ht (tn_lt hi _) hf hm
  have e1 : m.getD (acc.length - 1) 0 = lst acc acc.length := by
    have := getD_pred acc (m.drop acc.length) hp
    rw [← take_app ha] at this
    exact this
  have hb := hi.at acc.length
  unfold tn at e
  rw [e1] at e
  unfold nxt
  rw [e, Nat.xor_comm (m.getD acc.length 0).toNat, ← Nat.xor_assoc, Nat.xor_self, Nat.zero_xor]
  omega
theorem take_next (m acc : List Int) (ha : m.take acc.length = acc) (hl : acc.length < m.length) : m.take (acc.length + 1) = acc ++ [m.getD acc.length 0] := by
  rw [List.take_succ_eq_append_getElem hl, ha]
  simp [List.getD_eq_getElem?_getD, hl]
theorem u64_snoc {acc : List Int} {y : Int} (h : U64 acc) (h0 : 0 ≤ y) (h1 : y ≤ 18446744073709551615) : U64 (acc ++ [y]) := by
  intro x hx
  rcases List.mem_append.1 hx with h2 | h2
  · exact h x h2
  · simp at h2; subst h2; exact ⟨h0, h1⟩
/-- One step: a number more is read. -/
theorem read_step (bs : List Bool) (acc : List Int) (n : Nat) (y : Int) (hf : Fr bs (front acc n acc.length)) (ht : Fr (bs.drop (front acc n acc.length).length) (tb (acc ++ [y]) acc.length)) : Fr bs (front (acc ++ [y]) n (acc.length + 1)) ∧ (front (acc ++ [y]) n (acc.length + 1)).length = (front acc n acc.length).length + (tb (acc ++ [y]) acc.length).length := by
  have e := front_app acc [y] n acc.length (Nat.le_refl _)
  refine ⟨(fr_front bs _ n _).2 ⟨by rw [e]; exact hf, by rw [e]; exact ht⟩, ?_⟩
  rw [front_succ, e, List.length_append]
/-- How it stands behind acc: read so far, or broken. -/
structure St (bs : List Bool) (n : Nat) (acc : List Int) (la a b : Int) (q : Nat) (br : Bool) : Prop where
  run : br = false → q = (front acc n acc.length).length ∧ la = lst acc acc.length ∧ a = (win acc acc.length).1 ∧ b = (win acc acc.length).2 ∧ Fr bs (front acc n acc.length) ∧ U64 acc ∧ ∀ m, Is bs m → m.take acc.length = acc
  stop : br = true → ∀ m, ¬ Is bs m
theorem St.dead {bs : List Bool} {n : Nat} {acc : List Int} {la a b : Int} {q : Nat} (h : ∀ m, ¬ Is bs m) : St bs n acc la a b q true := ⟨fun h => (by cases h), fun _ => h⟩
theorem lst_lt {acc : List Int} (h : U64 acc) : 0 ≤ lst acc acc.length ∧ lst acc acc.length ≤ 18446744073709551615 := by
  unfold lst; split
  · decide
  · exact h.at _
/-- The first number is there. -/
theorem St.first {bs : List Bool} {n : Nat} {la a b : Int} {q : Nat} (hn : val (bs.take 16) = n) (hl : 0 < n) (h : St bs n [] la a b q false) (h64 : 64 ≤ (bs.drop q).length) :
    St bs n ([] ++ [((val ((bs.drop q).take 64) : Nat) : Int)]) ((val ((bs.drop q).take 64) : Nat) : Int) a b (q + 64) false := by
  obtain ⟨h1, h2, h3, h4, h5, h6, h7⟩ := h.run rfl
  have hv := val_take_len (bs.drop q) 64
  obtain ⟨s1, s2⟩ := first_sound (bs.drop q) h64
  rw [h1] at s1 s2 hv h64 ⊢
  obtain ⟨s3, s4⟩ := read_step bs [] n _ h5 s1
  refine ⟨fun _ => ⟨?_, rfl, h3, h4, s3, u64_snoc h6 (by omega) (by omega), fun m hm => ?_⟩, fun h => by cases h⟩
  · have e : ([] ++ [((val ((bs.drop (front [] n ([] : List Int).length).length).take 64) : Nat) : Int)]).length = ([] : List Int).length + 1 := rfl
    rw [e, s4]
    exact congrArg _ s2.symm
  · have hc := hm.count.2
    have hm7 := h7 m hm
    have hlt : ([] : List Int).length < m.length := by simp; omega
    have hat := hm.at hm7 hlt
    rw [← hc, hn] at hat
    have hf := first_full _ m hm.2.1 hat
    have hnx := take_next m [] hm7 hlt
    have e : m.getD ([] : List Int).length 0 = m.getD 0 0 := rfl
    rw [e, hf.2] at hnx
    exact hnx
theorem St.first_none {bs : List Bool} {n : Nat} {la a b : Int} {q : Nat} (hn : val (bs.take 16) = n) (hl : 0 < n) (h : St bs n [] la a b q false) (h64 : (bs.drop q).length < 64) : ∀ m, ¬ Is bs m := by
  intro m hm
  obtain ⟨h1, h2, h3, h4, h5, h6, h7⟩ := h.run rfl
  have hc := hm.count.2
  have hlt : ([] : List Int).length < m.length := by simp; omega
  have hat := hm.at (h7 m hm) hlt
  rw [← hc, hn, ← h1] at hat
  have := (first_full _ m hm.2.1 hat).1
  omega
theorem St.next {bs : List Bool} {n : Nat} {acc : List Int} {la a b : Int} {q : Nat} (hn : val (bs.take 16) = n) (hp : 0 < acc.length) (hl : acc.length < n) (h : St bs n acc la a b q false) (t : Nat) (ht : t < 18446744073709551616) (hf : Fr (bs.drop q) (tbits (win acc acc.length) t)) :
    St bs n (acc ++ [nxt acc t]) (nxt acc t) (nw (win acc acc.length) t).1 (nw (win acc acc.length) t).2 (q + (tbits (win acc acc.length) t).length) false := by
  obtain ⟨h1, h2, h3, h4, h5, h6, h7⟩ := h.run rfl
  rw [h1] at hf ⊢
  have hlst := lst_lt h6
  have hx := xor_lt (lst acc acc.length).toNat t (by omega) ht
  have hy : 0 ≤ nxt acc t ∧ nxt acc t ≤ 18446744073709551615 := by unfold nxt; omega
  have hl1 : (acc ++ [nxt acc t]).length = acc.length + 1 := by simp
  obtain ⟨s3, s4⟩ := read_step bs acc n (nxt acc t) h5 (by rw [tb_next acc t hp]; exact hf)
  rw [tb_next acc t hp] at s4
  refine ⟨fun _ => ⟨?_, ?_, ?_, ?_, ?_, u64_snoc h6 hy.1 hy.2, fun m hm => ?_⟩, fun h => by cases h⟩
  · rw [hl1, s4]
  · rw [hl1, lst_new]
  · rw [hl1, win_new acc t hp]
  · rw [hl1, win_new acc t hp]
  · rw [hl1]; exact s3
  · have hc := hm.count.2
    have hm7 := h7 m hm
    have hlt : acc.length < m.length := by omega
    have hat := hm.at hm7 hlt
    rw [← hc, hn] at hat
    rw [hl1, take_next m acc hm7 hlt, next_full m acc hm.2.1 hm7 hp t ht _ hf hat]
theorem St.next_none {bs : List Bool} {n : Nat} {acc : List Int} {la a b : Int} {q : Nat} (hn : val (bs.take 16) = n) (hp : 0 < acc.length) (hl : acc.length < n) (h : St bs n acc la a b q false) (hf : NoTurn (bs.drop q) (win acc acc.length)) : ∀ m, ¬ Is bs m := by
  intro m hm
  obtain ⟨h1, h2, h3, h4, h5, h6, h7⟩ := h.run rfl
  have hc := hm.count.2
  have hm7 := h7 m hm
  have hlt : acc.length < m.length := by omega
  have hat := hm.at hm7 hlt
  rw [← hc, hn, ← h1] at hat
  unfold tb at hat
  rw [if_neg (by omega), win_take hm7] at hat
  exact hf _ (tn_lt hm.2.1 _) hat
theorem St.done {bs : List Bool} {n : Nat} {acc : List Int} {la a b : Int} {q : Nat} (hn : val (bs.take 16) = n) (hle : n ≤ 1000) (hl : acc.length = n) (h : St bs n acc la a b q false) : Is bs acc ∧ (∀ m, Is bs m → m = acc) ∧ q = (packT acc).length := by
  obtain ⟨h1, h2, h3, h4, h5, h6, h7⟩ := h.run rfl
  refine ⟨⟨by omega, h6, ?_⟩, fun m hm => ?_, ?_⟩
  · unfold packT; rw [← hl] at h5; exact h5
  · have hc := hm.count.2
    have := h7 m hm
    rw [List.take_of_length_le (by omega)] at this
    exact this
  · unfold packT; rw [h1, ← hl]
theorem St.start {bs : List Bool} {n : Nat} (h16 : 16 ≤ bs.length) (hn : val (bs.take 16) = n) (hle : n ≤ 1000) : St bs n [] 0 64 64 16 false :=
  ⟨fun _ => ⟨by rw [List.length_nil, front_zero, ofVal_len], rfl, rfl, rfl, by rw [List.length_nil, front_zero]; exact (fr_ofVal bs n 16 (by omega)).2 ⟨h16, hn⟩, fun x hx => (by cases hx), fun m _ => by simp⟩, fun h => by cases h⟩
end P
end Go.Proofs.YteohlkpejdjenaaDoor
