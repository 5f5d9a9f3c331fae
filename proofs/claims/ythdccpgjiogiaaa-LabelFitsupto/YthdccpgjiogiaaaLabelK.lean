/- What addQuoted and join answer. -/
import Derived.Test.YthdccpgjiogiaaaLabelJ
namespace Go.Proofs.Ythdccpgjiogiaaa
open Go.RowKit
set_option linter.unusedVariables false
theorem P.enc34 : P.enc 34 = [92, 34] := by decide
theorem P.enc92 : P.enc 92 = [92, 92] := by decide
theorem P.enc10 : P.enc 10 = [92, 110] := by decide
theorem P.encX {c : UInt8} (h1 : c ≠ 34) (h2 : c ≠ 92) (h3 : c ≠ 10) : P.enc c = [c] := by unfold P.enc; rw [if_neg h1, if_neg h2, if_neg h3]
set_option maxHeartbeats 1000000 in
theorem addQuoted_any (v : Value) (acc : List Int) (s : ByteArray) (w : World) (base : Nat) (hown : OwnB w base v acc) (hbase : base ≤ w.heap.size) (hs : s.size ≤ 1000) (ha : acc.length ≤ 1000000) :
    Calls Try.prog 43 #[v, .string s] w fun e w' => ∃ v', e = .returned v' ∧ OwnB w' base v' (acc ++ P.bi (34 :: (P.esc (P.dl s) ++ [34]))) ∧ Below base w w' ∧ w.heap.size ≤ w'.heap.size := by
  have HI := hide shielded_any
  have hbw : Below base w w := ⟨rfl, rfl, rfl, Nat.le_refl _, fun _ _ => rfl⟩
  go_enter Try.func43, Try.ntmps43
  go_wp2_with (at_builtin; go_must (refine wp_app1 rfl _ _ rfl base base w _ _ acc 34 hown hbw (Nat.le_refl _) rfl rfl (by omega) hbase ?_); intro v1 w1 hown1 hb1 hsz1 _)
  go_loopw [0, 13] (fun x i wr => ∃ (k : Nat), k ≤ s.size ∧ i = .int .i64 k ∧ OwnB wr base x (acc ++ P.bi (34 :: P.esc ((P.dl s).take k))) ∧ Below base w wr ∧ w.heap.size ≤ wr.heap.size) (fun _ i _ => s.size - (intOf i).toNat)
  case atStart => exact ⟨0, by omega, rfl, by simpa [P.bi, P.esc] using hown1, hb1, by omega⟩
  case round =>
    obtain ⟨k, hk, rfl, hown2, hb2, hsz2⟩ := hrel
    clear hown1 hb1 hsz1 hown
    have hl2 : (acc ++ P.bi (34 :: P.esc ((P.dl s).take k))).length ≤ 1003000 := by
      have := P.esc_len ((P.dl s).take k)
      have h3 : ((P.dl s).take k).length ≤ k := List.length_take_le _ _
      simp only [List.length_append, P.bi_len, List.length_cons]
      omega
    have hbw2 : base ≤ wr.heap.size := by omega
    by_cases hlt : k < s.size
    · have HT := hide (esc_take hlt)
      have hb : s[k].toNat < 256 := s[k].toNat_lt
      have hd : decide ((k : Int) < (s.size : Int)) = true := by simp; omega
      have HS : Hid (P.bi (34 :: P.esc ((P.dl s).take (k + 1))) = P.bi (34 :: P.esc ((P.dl s).take k)) ++ P.bi (P.enc s[k])) := by
        show _ = _
        rw [HT.out, ← List.cons_append, P.bi_app]
      generalize P.bi (34 :: P.esc ((P.dl s).take k)) = T at HS hown2 hl2
      have HIk := hide (fun w => HI.out s[k] w)
      by_cases c1 : s[k] = 34
      · have h0 : P.shI s[k] = 0 := by rw [c1]; decide
        rw [h0] at HIk
        have HS2 : Hid (P.bi (34 :: P.esc ((P.dl s).take (k + 1))) = T ++ [92] ++ [34]) := by
          show _ = _
          rw [HS.out, c1, P.enc34]; simp [P.bi]
        clear c1 h0 HS HT
        go_wp2_with (first
          | (go_at_call 52; refine (HIk.out _).mono ?_; rintro e w' ⟨rfl, rfl⟩)
          | (at_builtin; refine wp_app1 rfl _ _ rfl base base w _ _ (acc ++ T ++ [92]) 34 hown3 hb3 (Nat.le_refl _) rfl rfl (by simp only [List.length_append, List.length_cons, List.length_nil] at hl2 ⊢; omega) (by omega) ?_; intro v4 w4 hown4 hb4 hsz4 _)
          | (at_builtin; refine wp_app1 rfl _ _ rfl base base w _ _ (acc ++ T) 92 hown2 hb2 (Nat.le_refl _) rfl rfl (by omega) hbw2 ?_; intro v3 w3 hown3 hb3 hsz3 _))
        go_roundw
        case rel => exact ⟨k + 1, by omega, by go_num, by rw [HS2.out]; simpa using hown4, hb4, by omega⟩
        case measure => simp [intOf]; omega
      by_cases c2 : s[k] = 92
      · have h0 : P.shI s[k] = 1 := by rw [c2]; decide
        rw [h0] at HIk
        have HS2 : Hid (P.bi (34 :: P.esc ((P.dl s).take (k + 1))) = T ++ [92] ++ [92]) := by
          show _ = _
          rw [HS.out, c2, P.enc92]; simp [P.bi]
        clear c1 c2 h0 HS HT
        go_wp2_with (first
          | (go_at_call 52; refine (HIk.out _).mono ?_; rintro e w' ⟨rfl, rfl⟩)
          | (at_builtin; refine wp_app1 rfl _ _ rfl base base w _ _ (acc ++ T ++ [92]) 92 hown3 hb3 (Nat.le_refl _) rfl rfl (by simp only [List.length_append, List.length_cons, List.length_nil] at hl2 ⊢; omega) (by omega) ?_; intro v4 w4 hown4 hb4 hsz4 _)
          | (at_builtin; refine wp_app1 rfl _ _ rfl base base w _ _ (acc ++ T) 92 hown2 hb2 (Nat.le_refl _) rfl rfl (by omega) hbw2 ?_; intro v3 w3 hown3 hb3 hsz3 _))
        go_roundw
        case rel => exact ⟨k + 1, by omega, by go_num, by rw [HS2.out]; simpa using hown4, hb4, by omega⟩
        case measure => simp [intOf]; omega
      by_cases c3 : s[k] = 10
      · have h0 : P.shI s[k] = 2 := by rw [c3]; decide
        rw [h0] at HIk
        have HS2 : Hid (P.bi (34 :: P.esc ((P.dl s).take (k + 1))) = T ++ [92] ++ [110]) := by
          show _ = _
          rw [HS.out, c3, P.enc10]; simp [P.bi]
        clear c1 c2 c3 h0 HS HT
        go_wp2_with (first
          | (go_at_call 52; refine (HIk.out _).mono ?_; rintro e w' ⟨rfl, rfl⟩)
          | (at_builtin; refine wp_app1 rfl _ _ rfl base base w _ _ (acc ++ T ++ [92]) 110 hown3 hb3 (Nat.le_refl _) rfl rfl (by simp only [List.length_append, List.length_cons, List.length_nil] at hl2 ⊢; omega) (by omega) ?_; intro v4 w4 hown4 hb4 hsz4 _)
          | (at_builtin; refine wp_app1 rfl _ _ rfl base base w _ _ (acc ++ T) 92 hown2 hb2 (Nat.le_refl _) rfl rfl (by omega) hbw2 ?_; intro v3 w3 hown3 hb3 hsz3 _))
        go_roundw
        case rel => exact ⟨k + 1, by omega, by go_num, by rw [HS2.out]; simpa using hown4, hb4, by omega⟩
        case measure => simp [intOf]; omega
      have h0 : P.shI s[k] = -1 := by unfold P.shI; rw [if_neg c1, if_neg c2, if_neg c3]
      rw [h0] at HIk
      have HS2 : Hid (P.bi (34 :: P.esc ((P.dl s).take (k + 1))) = T ++ [(s[k].toNat : Int)]) := by
        show _ = _
        rw [HS.out, P.encX c1 c2 c3]; simp [P.bi]
      clear c1 c2 c3 h0 HS HT
      go_wp2_with (first
        | (go_at_call 52; refine (HIk.out _).mono ?_; rintro e w' ⟨rfl, rfl⟩)
        | (at_builtin; refine wp_app1 rfl _ _ rfl base base w _ _ (acc ++ T) (s[k].toNat : Int) hown2 hb2 (Nat.le_refl _) rfl rfl (by omega) hbw2 ?_; intro v3 w3 hown3 hb3 hsz3 _))
      go_roundw
      case rel => exact ⟨k + 1, by omega, by go_num, by rw [HS2.out]; simpa using hown3, hb3, by omega⟩
      case measure => simp [intOf]; omega
    · have hd : decide ((k : Int) < (s.size : Int)) = false := by simp; omega
      have HS : Hid (acc ++ P.bi (34 :: (P.esc (P.dl s) ++ [34])) = acc ++ P.bi (34 :: P.esc ((P.dl s).take k)) ++ [34]) := by
        show _ = _
        rw [List.take_of_length_le (by rw [← P.dl_size]; omega), ← List.cons_append, P.bi_app, List.append_assoc]; rfl
      generalize acc ++ P.bi (34 :: P.esc ((P.dl s).take k)) = T at HS hown2 hl2
      go_wp2_with (at_builtin; go_must (refine wp_app1 rfl _ _ rfl base base w _ _ T 34 hown2 hb2 (Nat.le_refl _) rfl rfl (by omega) hbw2 ?_); intro v3 w3 hown3 hb3 hsz3 _)
      go_ret
      exact ⟨v3, rfl, by rw [HS.out]; exact hown3, hb3, by omega⟩
end Go.Proofs.Ythdccpgjiogiaaa
