/- What the document's own GoodName, LabelsFault, MatchFault, begins and AsMatches answer. -/
import Derived.Test.YtlghnnmgbdjgoaaLabelG
import Derived.LoopN
namespace Go.Proofs.Ytlghnnmgbdjgoaa
open Go.RowKit
set_option linter.unusedVariables false
theorem P.good_bad {s : List UInt8} {k : Nat} (hk : k < s.length) (h : P.nmB (s.getD k 0) = false ∨ (k = 0 ∧ P.dig (s.getD 0 0) = true)) : P.goodN s = false := by
  rcases h with h | ⟨_, h⟩
  · unfold P.goodN
    have : s.all P.nmB = false := by
      rw [List.all_eq_false]
      refine ⟨s[k], List.getElem_mem hk, ?_⟩
      rw [List.getD_eq_getElem?_getD, List.getElem?_eq_getElem hk] at h
      simpa using h
    rw [this]; simp
  · exact P.good_not (.inr (.inr (by cases s <;> simpa using h)))
theorem P.good_end {s : List UInt8} (h : ∀ j, j < s.length → P.nmB (s.getD j 0) = true) (h0 : 0 < s.length → P.dig (s.getD 0 0) = false) : P.goodN s = (decide (0 < s.length) && decide (s.length ≤ 20)) := by
  have ha : s.all P.nmB = true := by
    rw [List.all_eq_true]
    intro x hx
    obtain ⟨j, hj, rfl⟩ := List.mem_iff_getElem.1 hx
    have := h j hj
    rw [List.getD_eq_getElem?_getD, List.getElem?_eq_getElem hj] at this
    exact this
  unfold P.goodN
  rw [ha]
  cases s with
  | nil => rfl
  | cons c t =>
    have := h0 (by simp)
    simp at this
    rw [Bool.eq_iff_iff]
    simp [this]
theorem P.dig_int {c : UInt8} : P.dig c = true ↔ (48 ≤ (c.toNat : Int) ∧ (c.toNat : Int) ≤ 57) := by
  unfold P.dig
  simp
  omega
set_option maxHeartbeats 2000000 in
theorem goodName_any (s : ByteArray) (w : World) (hs : s.size ≤ 9223372036854775807) : Calls Try.prog 33 #[.string s] w fun e w' => e = .returned (.bool (P.goodN (P.dl s))) ∧ w' = w := by
  go_enter Try.func33, Try.ntmps33
  go_wp2
  go_loop [8] (fun i => ∃ k : Nat, k ≤ s.size ∧ i = .int .i64 k ∧ (∀ j, j < k → P.nmB ((P.dl s).getD j 0) = true) ∧ (0 < k → P.dig ((P.dl s).getD 0 0) = false)) (fun i => s.size - (intOf i).toNat)
  case atStart => exact ⟨0, by omega, rfl, fun j hj => by omega, fun h => by omega⟩
  case round =>
    obtain ⟨k, hk, rfl, hn, hn0⟩ := hrel
    have HN := hide hn
    have HN0 := hide hn0
    clear hn hn0
    by_cases hlt : k < s.size
    · have HG := hide (P.dl_getD s k hlt)
      have hb : s[k].toNat < 256 := s[k].toNat_lt
      have hd1 : decide ((k : Int) < (s.size : Int)) = true := by simp; omega
      have HL : Hid (True → k < (P.dl s).length) := fun _ => by rw [← P.dl_size]; exact hlt
      have HGd : Hid (P.dig ((P.dl s).getD k 0) = P.dig s[k]) := congrArg _ HG.out
      have HGn : Hid (P.nmB ((P.dl s).getD k 0) = P.nmB s[k]) := congrArg _ HG.out
      have HC : Hid (P.dig s[k] = true ↔ (48 ≤ (s[k].toNat : Int) ∧ (s[k].toNat : Int) ≤ 57)) := P.dig_int
      by_cases h48 : (s[k].toNat : Int) < 48
      all_goals go_wp2
      all_goals
        try simp only [Bool.not_eq_true', Bool.not_eq_false', decide_eq_true_eq, decide_eq_false_iff_not, beq_iff_eq, beq_eq_false_iff_ne, ne_eq] at *
      all_goals first
        | (exfalso; omega)
        | (exfalso; rename_i b hb1 hb2 _ _; rw [if_pos h48] at hb1; injection hb1 with hb3; injection hb3 with hb4; exact hb2 hb4.symm)
        | (go_ret
           have hno : P.nmB ((P.dl s).getD k 0) = false ∨ (k = 0 ∧ P.dig ((P.dl s).getD 0 0) = true) := by
             cases h0 : P.dig s[k] with
             | true =>
               have h1 := HC.out.1 h0
               have hk0 : k = 0 := by omega
               have h2 := HGd.out.trans h0
               rw [hk0] at h2
               exact .inr ⟨hk0, h2⟩
             | false => exact .inl (HGn.out.trans (P.nm_no h0 (by omega)))
           exact ⟨ret_bool (P.good_bad (HL.out trivial) hno).symm, rfl⟩)
        | (have hyes : P.nmB ((P.dl s).getD k 0) = true ∧ (k = 0 → P.dig ((P.dl s).getD 0 0) = false) := by
             cases h0 : P.dig s[k] with
             | true =>
               have h1 := HC.out.1 h0
               refine ⟨HGn.out.trans (by rw [P.nmB_int, h0]; rfl), fun h => ?_⟩
               exfalso; omega
             | false =>
               have h2 : ¬ (48 ≤ (s[k].toNat : Int) ∧ (s[k].toNat : Int) ≤ 57) := fun h => by rw [HC.out.2 h] at h0; cases h0
               refine ⟨HGn.out.trans (P.nm_yes (by omega)), fun h => ?_⟩
               have h3 := HGd.out.trans h0
               rw [h] at h3
               exact h3
           go_round
           case rel =>
             refine ⟨k + 1, by omega, by go_num, fun j hj => ?_, fun _ => ?_⟩
             · rcases Nat.lt_or_ge j k with h | h
               · exact HN.out j h
               · obtain rfl : j = k := by omega
                 exact hyes.1
             · rcases Nat.eq_zero_or_pos k with h | h
               · exact hyes.2 h
               · exact HN0.out h
           case measure => simp [intOf]; omega)
    · have hd : decide ((k : Int) < (s.size : Int)) = false := by simp; omega
      have HS : Hid (P.goodN (P.dl s) = (decide (0 < (s.size : Int)) && decide ((s.size : Int) ≤ 20))) := by
        show _ = _
        rw [P.good_end (fun j hj => HN.out j (by rw [← P.dl_size] at hj; omega)) (fun h => HN0.out (by rw [← P.dl_size] at h; omega)), ← P.dl_size, Bool.eq_iff_iff]
        simp; omega
      go_wp2
      all_goals
        go_ret
        refine ⟨ret_bool ?_, rfl⟩
        rw [HS.out]
        simp_all
end Go.Proofs.Ytlghnnmgbdjgoaa
