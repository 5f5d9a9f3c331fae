/- What Range answers. -/
import Derived.Test.YtbnolckcjimhdaaChunkC
namespace Go.Proofs.Ytbnolckcjimhdaa
open Go.RowKit
set_option linter.unusedVariables false
theorem range_bad (v : Value) (l : List (Int × Int)) (f t : Int) (w : World) (hr : RowS w v l) (hc : P.chk l ≠ 0) :
    Calls Try.prog 15 #[v, .int .i64 f, .int .i64 t] w fun e w' => e = .returned (.tuple #[.slice none 0 0, .int .i64 (P.chk l)]) ∧ Below w.heap.size w w' := by
  have HC := hide (check_any v l w hr)
  have hr0 := hr
  obtain ⟨a, cap, rfl, ⟨hlc, hmax, hnn⟩, hcase⟩ := hr
  unfold maxLen at hmax
  clear hcase
  generalize P.chk l = c at *
  have ht : (c != 0) = true := by simpa using hc
  clear hc
  go_enter Try.func15, Try.ntmps15
  go_wp2_with (go_at_call 25; go_must (refine HC.out.mono ?_); rintro e w' ⟨rfl, hb⟩)
  go_ret2
  exact ⟨rfl, hb⟩
theorem RowS.empty (w : World) (a : Option Addr) (c : Nat) (hc : c ≤ 2 ^ 63 - 1) (hn : a = none → c = 0) : RowS w (.slice a 0 c) [] := ⟨a, c, rfl, ⟨by simp, hc, hn⟩, .inl rfl⟩
set_option maxHeartbeats 1000000 in
theorem range_ok (v : Value) (l : List (Int × Int)) (f t : Int) (w : World) (hr : RowS w v l) (hc : P.chk l = 0) :
    Calls Try.prog 15 #[v, .int .i64 f, .int .i64 t] w fun e w' => ∃ v', e = .returned (.tuple #[v', .int .i64 0]) ∧ OwnS w' w.heap.size v' (P.btw l f t) ∧ Below w.heap.size w w' := by
  have HC := hide (check_any v l w hr)
  rw [hc] at HC
  obtain ⟨hn, hs⟩ := P.chk_zero hc
  have HF := hide (fun (t : Int) (w : World) (hr : RowS w v l) => from_any v l t w hr hs hn)
  have HR := hide (fun (w' : World) (hb : Below w.heap.size w w') => hr.below hb (Nat.le_refl _))
  have HB := hide (fun (b k : Nat) (hb : P.IsFrom l f b) (hk : P.IsFrom l t k) => P.btw_eq hb hk)
  clear hc hs
  obtain ⟨a, cap, rfl, ⟨hlc, hmax, hnn⟩, hcase⟩ := hr
  unfold maxLen at hmax
  clear hcase
  go_enter Try.func15, Try.ntmps15
  go_wp2_with (go_at_call 25; go_must (refine HC.out.mono ?_); rintro e w1 ⟨rfl, hb⟩)
  refine (HF.out f w1 (HR.out _ hb)).mono ?_
  rintro e w2 ⟨b, hbF, rfl, hb2⟩
  replace hb := Below.next hb hb2
  clear hb2
  go_wp2_with fail
  refine (HF.out t w2 (HR.out _ hb)).mono ?_
  rintro e w3 ⟨k, hkF, rfl, hb3⟩
  replace hb := Below.next hb hb3
  clear hb3
  have HRow := hide (HR.out _ hb)
  have hbl := hbF.1
  have hkl := hkF.1
  have e := HB.out b k hbF hkF
  clear HB HF HC hbF hkF HR
  by_cases hbk : b < k
  · rw [show max b k - b = k - b by omega] at e
    have hrow := HRow.out
    obtain ⟨a', c', hv', _, hcase⟩ := HRow.out
    simp only [Value.slice.injEq, true_and] at hv'
    obtain ⟨rfl, rfl⟩ := hv'
    rcases hcase with h | ⟨bl, off, rfl, _, _⟩
    · rw [h] at hkl; simp at hkl; omega
    have hrow2 := hrow.part b (k - b) (by omega) (off + b * 2) (cap - b) rfl rfl
    rw [← e] at hrow2
    have hlen : (P.btw l f t).length ≤ l.length := P.btw_length l f t
    have HE := hide e
    have hcb : ¬ cap = b := by omega
    clear e hrow HRow
    obtain ⟨m, hm⟩ : ∃ m, P.btw l f t = m := ⟨_, rfl⟩
    rw [hm] at hrow2 hlen
    have HM := hide hm
    clear hm
    go_wp2_with (at_builtin; go_must (refine wp_appS rfl _ _ rfl w.heap.size w.heap.size w w3 _ _ [] m (OwnS.nil _ _) hrow2 hb (Nat.le_refl _) rfl rfl (by simp; omega) hb.size ?_); intro v' w4 hown' hb' _ _)
    go_ret2
    exact ⟨v', rfl, by rw [HM.out]; exact hown', hb'⟩
  · rw [show max b k - b = 0 by omega, List.take_zero] at e
    have HE := hide e
    clear e HRow
    go_wp2_with (at_builtin; go_must (refine wp_appS rfl _ _ rfl w.heap.size w.heap.size w w3 _ _ [] [] (OwnS.nil _ _) (RowS.empty _ _ _ ?_ ?_) hb (Nat.le_refl _) rfl rfl (by simp) hb.size ?_))
    all_goals first
      | (intro h; have := hnn h; omega)
      | (intro v' w4 hown' hb' _ _
         go_wp2
         go_ret2
         exact ⟨v', rfl, by rw [HE.out]; exact hown', hb'⟩)
      | omega
end Go.Proofs.Ytbnolckcjimhdaa
