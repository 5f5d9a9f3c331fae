/- What isDigit, nameBytes, isName and sign answer. -/
import Derived.Test.YtlghnnmgbdjgoaaKitL
namespace Go.Proofs.Ytlghnnmgbdjgoaa
open Go.RowKit
set_option linter.unusedVariables false
theorem P.dl_at (s : ByteArray) (k : Nat) (h : k < s.size) : (P.dl s)[k]? = some s[k] := by
  rw [List.getElem?_eq_getElem (by rw [← P.dl_size]; exact h)]
  rfl
theorem P.dl_getD (s : ByteArray) (k : Nat) (h : k < s.size) : (P.dl s).getD k 0 = s[k] := by
  rw [List.getD_eq_getElem?_getD, P.dl_at s k h]; rfl
theorem ret_bool {a b : Bool} (h : a = b) : Ending.returned (.bool a) = .returned (.bool b) := by rw [h]
theorem ret_str {a b : ByteArray} (h : a = b) : Ending.returned (.string a) = .returned (.string b) := by rw [h]
theorem isDigit_any (c : UInt8) (w : World) : Calls Try.prog 86 #[.int .u8 (c.toNat : Int)] w fun e w' => e = .returned (.bool (P.dig c)) ∧ w' = w := by
  have HC : Hid (P.dig c = (decide ((48 : Int) ≤ (c.toNat : Int)) && decide ((c.toNat : Int) ≤ 57))) := by
    show _ = _
    unfold P.dig
    rw [Bool.eq_iff_iff]; simp; omega
  have hc : c.toNat < 256 := c.toNat_lt
  generalize c.toNat = n at HC hc
  generalize P.dig c = d at HC
  go_enter Try.func86, Try.ntmps86
  go_wp2
  all_goals
    go_ret
    refine ⟨?_, rfl⟩
    rw [HC.out]
    simp_all
  all_goals omega
/-- How many bytes at the front may stand in a name. -/
def P.nb (s : List UInt8) : Nat := (s.takeWhile P.nmB).length
theorem P.nb_le (s : List UInt8) : P.nb s ≤ s.length := by
  unfold P.nb
  induction s with
  | nil => simp
  | cons c s ih => rw [List.takeWhile_cons]; split <;> simp <;> omega
theorem P.nb_stop {s : List UInt8} {k : Nat} (h : ∀ j, j < k → P.nmB (s.getD j 0) = true) (hk : k ≤ s.length) (he : k = s.length ∨ P.nmB (s.getD k 0) = false) : P.nb s = k := by
  unfold P.nb
  induction s generalizing k with
  | nil => simp at hk; simp [hk]
  | cons c s ih =>
    cases k with
    | zero =>
      rcases he with he | he
      · simp at he
      · simp at he; simp [he]
    | succ k =>
      have h0 := h 0 (by omega)
      simp at h0
      rw [List.takeWhile_cons, if_pos h0, List.length_cons]
      congr 1
      apply ih (fun j hj => by have := h (j + 1) (by omega); simpa using this) (by simpa using hk)
      rcases he with he | he
      · left; simpa using he
      · right; simpa using he
theorem P.nmB_int (c : UInt8) : P.nmB c = (P.dig c || ((c.toNat : Int) == 95) || (decide ((97 : Int) ≤ (c.toNat : Int)) && decide ((c.toNat : Int) ≤ 122))) := by
  unfold P.nmB P.low
  rw [Bool.eq_iff_iff]
  simp
  constructor
  · rintro (h | h | h)
    · exact .inl (.inl h)
    · exact .inl (.inr (by omega))
    · exact .inr (by omega)
  · rintro ((h | h) | h)
    · exact .inl h
    · exact .inr (.inl (by omega))
    · exact .inr (.inr (by omega))
theorem P.nm_yes {c : UInt8} (h : (c.toNat : Int) = 95 ∨ (97 ≤ (c.toNat : Int) ∧ (c.toNat : Int) ≤ 122)) : P.nmB c = true := by
  rw [P.nmB_int]; simp; omega
theorem P.nm_no {c : UInt8} (h1 : P.dig c = false) (h : ¬ ((c.toNat : Int) = 95 ∨ (97 ≤ (c.toNat : Int) ∧ (c.toNat : Int) ≤ 122))) : P.nmB c = false := by
  rw [P.nmB_int, h1]; simp; omega
set_option maxHeartbeats 1000000 in
theorem nameBytes_any (s : ByteArray) (w : World) (hs : s.size ≤ 9223372036854775807) : Calls Try.prog 87 #[.string s] w fun e w' => e = .returned (.int .i64 (P.nb (P.dl s) : Nat)) ∧ w' = w := by
  have HD := hide isDigit_any
  go_enter Try.func87, Try.ntmps87
  go_wp2
  go_loop [3] (fun i => ∃ k : Nat, k ≤ s.size ∧ i = .int .i64 k ∧ ∀ j, j < k → P.nmB ((P.dl s).getD j 0) = true) (fun i => s.size - (intOf i).toNat)
  case atStart => exact ⟨0, by omega, rfl, fun j hj => by omega⟩
  case round =>
    obtain ⟨k, hk, rfl, hn⟩ := hrel
    have HN := hide hn
    clear hn
    by_cases hlt : k < s.size
    · have HG := hide (P.dl_getD s k hlt)
      have HM := hide (P.nmB_int s[k])
      have hb : s[k].toNat < 256 := s[k].toNat_lt
      have hd1 : decide ((k : Int) < (s.size : Int)) = true := by simp; omega
      by_cases h1 : P.dig s[k] = true
      · have HR : Hid (P.nmB s[k] = true) := by show _ = _; rw [HM.out, h1]; rfl
        go_wp2_with (go_at_call 86; refine (HD.out _ _).mono ?_; rintro e w' ⟨rfl, rfl⟩)
        go_round
        case rel =>
          refine ⟨k + 1, by omega, by go_num, fun j hj => ?_⟩
          rcases Nat.lt_or_ge j k with h | h
          · exact HN.out j h
          · obtain rfl : j = k := by omega
            rw [HG.out]; exact HR.out
        case measure => simp [intOf]; omega
      · have h1' : P.dig s[k] = false := by simpa using h1
        go_wp2_with (go_at_call 86; refine (HD.out _ _).mono ?_; rintro e w' ⟨rfl, rfl⟩)
        all_goals
          try simp only [beq_iff_eq, beq_eq_false_iff_ne, ne_eq] at *
        all_goals first
          | (go_ret
             have hno : P.nmB s[k] = false := P.nm_no h1' (by omega)
             have HS : P.nb (P.dl s) = k := P.nb_stop HN.out (by rw [← P.dl_size]; omega) (.inr (by rw [HG.out]; exact hno))
             exact ⟨ret_int (by rw [HS]), rfl⟩)
          | (have hyes : P.nmB s[k] = true := P.nm_yes (by omega)
             go_round
             case rel =>
               refine ⟨k + 1, by omega, by go_num, fun j hj => ?_⟩
               rcases Nat.lt_or_ge j k with h | h
               · exact HN.out j h
               · obtain rfl : j = k := by omega
                 rw [HG.out]; exact hyes
             case measure => simp [intOf]; omega)
    · have HS : Hid (P.nb (P.dl s) = k) := P.nb_stop HN.out (by rw [← P.dl_size]; exact hk) (.inl (by rw [← P.dl_size]; omega))
      have hd1 : decide ((k : Int) < (s.size : Int)) = false := by simp; omega
      go_wp2
      go_ret
      exact ⟨ret_int (by rw [HS.out]), rfl⟩
theorem P.nb_all {s : List UInt8} : (P.nb s = s.length) = (s.all P.nmB = true) := by
  unfold P.nb
  induction s with
  | nil => simp
  | cons c s ih =>
    rw [List.takeWhile_cons]
    by_cases h : P.nmB c = true
    · simp [h] at ih ⊢; exact ih
    · simp [h]
theorem P.good_not {s : List UInt8} (h : s = [] ∨ 20 < s.length ∨ P.dig (s.headD 0) = true) : P.goodN s = false := by
  unfold P.goodN
  rcases h with h | h | h
  · simp [h]
  · simp [h]
  · rw [h]; simp
theorem P.good_else {s : List UInt8} (h : s ≠ []) (h2 : s.length ≤ 20) (h3 : P.dig (s.headD 0) = false) : P.goodN s = decide (P.nb s = s.length) := by
  unfold P.goodN
  rw [h3, Bool.eq_iff_iff, decide_eq_true_eq, P.nb_all]
  simp [h]; omega
set_option maxHeartbeats 1000000 in
theorem isName_any (s : ByteArray) (w : World) (hs : s.size ≤ 9223372036854775807) : Calls Try.prog 53 #[.string s] w fun e w' => e = .returned (.bool (P.goodN (P.dl s))) ∧ w' = w := by
  have HD := hide isDigit_any
  have HB := hide (fun w => nameBytes_any s w hs)
  have HSZ := hide (P.dl_size s)
  by_cases h0 : s.size = 0
  · have HG : Hid (P.goodN (P.dl s) = false) := P.good_not (.inl (List.length_eq_zero_iff.1 (by rw [← HSZ.out]; exact h0)))
    have hd : ((s.size : Int) == 0) = true := by rw [beq_iff_eq]; omega
    go_enter Try.func53, Try.ntmps53
    go_wp2
    go_ret
    exact ⟨ret_bool HG.out.symm, rfl⟩
  · have hd : ((s.size : Int) == 0) = false := by rw [beq_eq_false_iff_ne]; omega
    have hp : 0 < s.size := by omega
    by_cases h1 : 20 < s.size
    · have HG : Hid (P.goodN (P.dl s) = false) := P.good_not (.inr (.inl (by rw [← HSZ.out]; exact h1)))
      have hd2 : decide (20 < (s.size : Int)) = true := by simp; omega
      go_enter Try.func53, Try.ntmps53
      go_wp2
      go_ret
      exact ⟨ret_bool HG.out.symm, rfl⟩
    · have hd2 : decide (20 < (s.size : Int)) = false := by simp; omega
      have he : (P.dl s).headD 0 = s[0] := by
        have := P.dl_getD s 0 hp
        rw [← this]
        cases P.dl s <;> rfl
      by_cases h2 : P.dig s[0] = true
      · have HG : Hid (P.goodN (P.dl s) = false) := P.good_not (.inr (.inr (by rw [he]; exact h2)))
        clear he
        go_enter Try.func53, Try.ntmps53
        go_wp2_with (go_at_call 86; refine (HD.out _ _).mono ?_; rintro e w' ⟨rfl, rfl⟩)
        go_ret
        exact ⟨ret_bool HG.out.symm, rfl⟩
      · have h2' : P.dig s[0] = false := by simpa using h2
        have HG := hide (P.good_else (s := P.dl s) (fun e => by have := HSZ.out; rw [e, List.length_nil] at this; omega) (by have := HSZ.out; omega) (by rw [he]; exact h2'))
        rw [← HSZ.out] at HG
        have HL := hide (P.nb_le (P.dl s))
        clear he
        generalize P.nb (P.dl s) = n at HG HB HL
        generalize P.goodN (P.dl s) = g at HG
        go_enter Try.func53, Try.ntmps53
        go_wp2_with (first | (go_at_call 86; refine (HD.out _ _).mono ?_; rintro e w' ⟨rfl, rfl⟩) | (go_at_call 87; refine (HB.out _).mono ?_; rintro e w' ⟨rfl, rfl⟩))
        go_ret
        refine ⟨ret_bool ?_, rfl⟩
        rw [HG.out, Bool.eq_iff_iff]; simp; omega
/-- The sign of a kind. -/
def P.sgB (k : Int) : ByteArray := ⟨(P.sgK k).toArray⟩
theorem P.sgB_dl (k : Int) : P.dl (P.sgB k) = P.sgK k := rfl
theorem sign_any (k : Int) (w : World) : Calls Try.prog 80 #[.int .i64 k] w fun e w' => e = .returned (.string (P.sgB k)) ∧ w' = w := by
  by_cases h1 : k = 1
  · subst h1
    go_enter Try.func80, Try.ntmps80
    go_wp2
    go_ret
    exact ⟨rfl, rfl⟩
  by_cases h2 : k = 2
  · subst h2
    go_enter Try.func80, Try.ntmps80
    go_wp2
    go_ret
    exact ⟨rfl, rfl⟩
  by_cases h3 : k = 3
  · subst h3
    go_enter Try.func80, Try.ntmps80
    go_wp2
    go_ret
    exact ⟨rfl, rfl⟩
  by_cases h4 : k = 4
  · subst h4
    go_enter Try.func80, Try.ntmps80
    go_wp2
    go_ret
    exact ⟨rfl, rfl⟩
  have e1 : (k == 1) = false := by simp [h1]
  have e2 : (k == 2) = false := by simp [h2]
  have e3 : (k == 3) = false := by simp [h3]
  have e4 : (k == 4) = false := by simp [h4]
  have HG : Hid (P.sgB k = ⟨#[]⟩) := by show _ = _; unfold P.sgB P.sgK; rw [if_neg h1, if_neg h2, if_neg h3, if_neg h4]
  clear h1 h2 h3 h4
  go_enter Try.func80, Try.ntmps80
  go_wp2
  go_ret
  exact ⟨ret_str HG.out.symm, rfl⟩
end Go.Proofs.Ytlghnnmgbdjgoaa
