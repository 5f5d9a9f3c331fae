/- What fresh, halve and own do. -/
import Derived.Test.YtlndbmenaaiogaaKitV
namespace Go.Proofs.Ytlndbmenaaiogaa
open Go.RowKit
set_option linter.unusedVariables false
theorem fresh_any (v : Value) (l : List Int) (w : World) (hr : RowK .i64 w v l) (hl : l.length ≤ 100000) :
    Calls Try.prog 38 #[v] w fun e w' => ∃ v', e = .returned v' ∧ OwnI w' w.heap.size v' l ∧ Below w.heap.size w w' := by
  have HR := hide hr
  obtain ⟨a, cap, rfl, ⟨hlc, hmax, hnn⟩, hcase⟩ := hr
  clear hcase
  go_enter Try.func38, Try.ntmps38
  go_wp2_with (at_builtin; go_must (refine wp_appI rfl _ _ rfl w.heap.size w.heap.size w w _ _ [] l (OwnK.nil _ _ _ _) HR.out (Below.refl _ _) (Nat.le_refl _) rfl rfl (by simp; omega) (Nat.le_refl _) ?_); intro v' w' own' hb' _ _)
  go_ret
  exact ⟨_, rfl, own', hb'⟩
theorem row_new2 (w : World) (a b : Value) (la lb : List Int) (ha : RowK .i64 w a la) (hb : RowK .i64 w b lb) : RowsI (w.alloc (.cells #[a, b] 22)) (.slice (some ⟨w.heap.size, 0, none⟩) 2 2) [la, lb] := by
  have hA := (Below.refl w.heap.size w).alloc (Nat.le_refl _) (.cells #[a, b] 22)
  refine ⟨_, 2, rfl, ⟨by simp, by decide⟩, .inr ⟨w.heap.size, 0, rfl, by simp, fun j l hl => ?_⟩⟩
  match j, hl with
  | 0, hl => simp at hl; subst hl; exact ⟨a, by simp, ha.below hA (Nat.le_refl _)⟩
  | 1, hl => simp at hl; subst hl; exact ⟨b, by simp, hb.below hA (Nat.le_refl _)⟩
/-- How the loop of halve stands. -/
def HalfAt (w : World) (T : List Int) (i vh : Value) (wr : World) : Prop :=
  ∃ j : Nat, 2 * j ≤ T.length ∧ i = .int .i64 ((2 * j + 1 : Nat) : Int) ∧ OwnI wr w.heap.size vh (P.odds (T.take (2 * j))) ∧ Below w.heap.size w wr
set_option maxHeartbeats 1000000 in
theorem halve_any (va vb : Value) (a b : List Int) (w : World) (ha : RowK .i64 w va a) (hb : RowK .i64 w vb b) (hl : a.length + b.length ≤ 100000) :
    Calls Try.prog 49 #[va, vb] w fun e w' => ∃ v, e = .returned v ∧ OwnI w' w.heap.size v (P.halve a b) ∧ Below w.heap.size w w' := by
  obtain ⟨aa, ca, rfl, _, _⟩ : ∃ x y, va = .slice x a.length y ∧ True ∧ True := by obtain ⟨x, y, h, _⟩ := ha; exact ⟨x, y, h, trivial, trivial⟩
  obtain ⟨ab, cb, rfl, _, _⟩ : ∃ x y, vb = .slice x b.length y ∧ True ∧ True := by obtain ⟨x, y, h, _⟩ := hb; exact ⟨x, y, h, trivial, trivial⟩
  have HC := hide (concat_any _ [a, b] _ (by simp) (row_new2 w _ _ a b ha hb) (by simp [flt]; omega))
  have HB := hide ((Below.refl w.heap.size w).alloc (Nat.le_refl _) (.cells #[.slice aa a.length ca, .slice ab b.length cb] 22))
  have HF : Hid (P.halve a b = P.odds (P.srt (flt [a, b]))) := by show _ = _; simp [P.halve, flt]
  have hlf : (flt [a, b]).length ≤ 100000 := by simp [flt]; omega
  generalize P.halve a b = res at *
  generalize flt [a, b] = c at *
  clear ha hb hl
  go_enter Try.func49, Try.ntmps49
  go_wp2_with (first
    | (go_at_call 41; go_must (refine HC.out.mono ?_); rintro e w2 ⟨v2, rfl, own2, hb2⟩; have HB2 := hide (Below.next HB.out hb2))
    | (go_at_call 42; go_must (refine (sort_own _ _ _ c own2 (by omega)).mono ?_); rintro e w3 ⟨rfl, own3, hg3⟩))
  have hb3 : Below w.heap.size w w3 := HB2.out.grown hg3 HB2.out.size (fun k hk => by have := (own2.lt k hk).1; simp at this; omega)
  have HB3 := hide hb3
  have HSl := hide (P.srt_len c)
  have hrow := own3.row
  clear own2 hb2 hg3 hb3 own3
  generalize P.srt c = T at *
  have hT : T.length ≤ 100000 := by rw [HSl.out]; exact hlf
  obtain ⟨aT, cT, rfl, ⟨g1, g2, g3⟩, hcase⟩ := hrow
  unfold maxLen at g2
  clear g3
  go_loopw [7, 6] (fun i vh wr => HalfAt w3 T i vh wr) (fun i _ _ => T.length + 1 - (intOf i).toNat)
  case atStart => exact ⟨0, by omega, rfl, OwnK.nil _ _ _ _, Below.refl _ _⟩
  case round =>
    obtain ⟨j, hj, rfl, hown, hB⟩ := hrel
    by_cases hlt : 2 * j + 1 < T.length
    · rcases hcase with h | ⟨b0, off, rfl, hbs, hcell⟩
      · rw [h] at hlt; simp at hlt
      have g0 := (hB.cell (p := ⟨b0, off + (2 * j + 1), none⟩) hbs).trans (hcell (2 * j + 1) hlt)
      have HO := hide (P.odds_step T j hlt)
      have hol : (P.odds (T.take (2 * j))).length ≤ 100000 := by rw [P.odds_len, List.length_take]; omega
      obtain ⟨i, hi⟩ : ∃ i : Nat, i = 2 * j + 1 := ⟨_, rfl⟩
      rw [← hi] at g0 HO ⊢
      have j0 : (0 : Int) ≤ (i : Int) := by omega
      have j1 : (i : Int) < (T.length : Int) := by omega
      have HI := hide hi
      have hsz := hB.size
      generalize T.getD i 0 = y at *
      obtain ⟨ah, ch, rfl⟩ := OwnK.shape hown
      clear hcell hi
      go_wp2_with (at_builtin; go_must (refine wp_app1K rfl _ _ 22 2 .i64 8 rfl Try.underlying22 Try.info2 (by omega) w3.heap.size w3.heap.size w3 _ _ _ y hown hB (Nat.le_refl _) rfl rfl (by omega) hsz ?_); intro v' w' own' hb' _ _)
      go_roundw
      case rel => exact ⟨j + 1, by have := HI.out; omega, by have := HI.out; go_num, by rw [HO.out]; exact own', hb'⟩
      case measure => have := HI.out; simp [intOf]; omega
    · have hd : decide (((2 * j + 1 : Nat) : Int) < (T.length : Int)) = false := by simp; omega
      rw [P.odds_end T j hj (by omega)] at hown
      generalize ((2 * j + 1 : Nat) : Int) = i at *
      go_wp2
      go_ret
      exact ⟨_, rfl, by rw [HF.out]; exact OwnK.base hown HB3.out.size, Below.next HB3.out hB⟩
end Go.Proofs.Ytlndbmenaaiogaa
