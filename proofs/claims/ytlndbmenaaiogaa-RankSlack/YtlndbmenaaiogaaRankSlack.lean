/- RankSlack holds: at all inputs the law answers true and changes nothing that was there. -/
import Derived.Test.YtlndbmenaaiogaaRankT
namespace Go.Proofs.Ytlndbmenaaiogaa
open Go.ChangeShapes Go.WideShapes Go.ChangeAt Go.RowKit
set_option linter.unusedVariables false
set_option maxHeartbeats 1000000 in
theorem walk_RankSlack (k : Int) (v : Value) (l : List Int) (w : World) (_ : -9223372036854775808 ≤ k) (_ : k ≤ 9223372036854775807) (hr : RowK .i64 w v l) (_ : ∀ z ∈ l, -9223372036854775808 ≤ z ∧ z ≤ 9223372036854775807) (hln : l.length * 8 ≤ 140737488351232) :
    Calls Try.prog 8 #[.int .i64 k, v] w fun e w' => e = .returned (.bool true) ∧ Below w.heap.size w w' := by
  have HKs := hide (fun wx (hb : Below w.heap.size w wx) => ranked_any k v l wx (hr.below hb (Nat.le_refl _)))
  have HRw := hide (fun wx (hb : Below w.heap.size w wx) => hr.below hb (Nat.le_refl _))
  have hlmax : (l.length : Int) ≤ 9223372036854775807 := by omega
  obtain ⟨av, cv, rfl⟩ : ∃ a c, v = .slice a l.length c := by obtain ⟨a, c, h, _⟩ := hr; exact ⟨a, c, h⟩
  clear hr
  go_enter Try.func8, Try.ntmps8
  go_wp2_with (go_at_call 22; go_must (refine (ranks_any _).mono ?_); rintro e w1 ⟨rfl, hb1⟩)
  refine (HKs.out _ hb1).mono ?_
  rintro e w2 ⟨tv, lv, S, ok, rfl, own2, p2, p3, hb2⟩
  obtain ⟨⟨xt, yt, rfl⟩, xl, yl, rfl⟩ := own2.shapes
  have HB2 := hide (Below.next hb1 hb2)
  clear hb1 hb2
  cases ok with
  | false =>
    have hbd := p3 rfl
    clear p2 p3 own2 HKs
    by_cases k1 : k < 2
    · go_wp2
      go_ret
      exact ⟨rfl, HB2.out.alloc HB2.out.size _⟩
    · have d1 : decide (k < 2) = false := by simpa using k1
      by_cases k2 : 64 < k
      · go_wp2
        go_ret
        exact ⟨rfl, HB2.out.alloc HB2.out.size _⟩
      · have d2 : decide (64 < k) = false := by simpa using k2
        have d3 : decide (1000 < (l.length : Int)) = true := by simp; omega
        have d4 : (1000 : Int) < (l.length : Int) := by omega
        clear hbd k1 k2
        go_wp2
        go_ret
        exact ⟨rfl, HB2.out.alloc HB2.out.size _⟩
  | true =>
    obtain ⟨q1, q2, q3⟩ := p2 rfl
    clear p2 p3 HKs
    have X1 := BoxR.new w2 (.slice xt S.tail.length yt) (.slice xl S.lv.length yl) S
    have X2 : OwnV (w2.alloc (.cells #[.int .i64 S.k, .slice xt S.tail.length yt, .slice xl S.lv.length yl, .int .i64 S.n, .int .i64 S.sl] 25)) 0 (.slice xt S.tail.length yt) (.slice xl S.lv.length yl) S := own2.below ((Below.refl w2.heap.size w2).alloc (Nat.le_refl _) _) (Nat.le_refl _)
    have HB3 : Hid (Below w.heap.size w (w2.alloc (.cells #[.int .i64 S.k, .slice xt S.tail.length yt, .slice xl S.lv.length yl, .int .i64 S.n, .int .i64 S.sl] 25))) := HB2.out.alloc HB2.out.size _
    have HX1 := hide X1
    have HV := hide X2.read
    clear X1 X2 own2
    have hsk := q3.slack
    have hn := q3.n
    have hn0 : 0 ≤ S.n := by rw [hn]; omega
    have hsl0 := q2.1.sl
    have hsl1 := q2.2.2
    have hnum := q2.num
    have hk2 := q2.1.k2
    have hk64 := q2.1.k64
    have hlv := q2.2.1
    have hpot := q3.pot
    have hrep := q3.mid
    rw [q1] at hsk hk2 hk64 hnum hpot
    have hz : (l.length : Int) < k → S.sl = 0 ∧ S.lv = [] := fun hlt => by
      have h1 := P.tip_pow hrep.lv hrep.tip
      have h2 := hrep.n
      have h3 : S.lv = [] := by
        rcases h1 with h1 | h1
        · exact h1
        · have h4 : 1 * S.k.toNat ≤ 2 ^ (S.lv.length - 1) * S.k.toNat := Nat.mul_le_mul_right _ (Nat.two_pow_pos _)
          rw [q1] at h1 h4
          omega
      refine ⟨?_, h3⟩
      rw [h3] at hpot
      simp only [P.pot, Int.sub_zero] at hpot
      rcases Int.lt_trichotomy S.sl 0 with h | h | h
      · omega
      · exact h
      · exfalso
        have h5 : 4 * S.sl ≤ 2 * k * S.sl := Int.mul_le_mul_of_nonneg_right (by omega) hsl0
        simp at hpot
        omega
    have HZ := hide hz
    obtain ⟨c0, c1, c2, c3, c4⟩ := HX1.out.cells
    obtain ⟨A, hA⟩ : ∃ A, A = 2 * k * S.sl := ⟨_, rfl⟩
    have hA0 : 0 ≤ A := by rw [hA]; exact Int.mul_nonneg (by omega) hsl0
    rw [← hA] at hsk
    have hm : (S.n * (max (S.lv.length - 1) 0 : Nat) : Int) ≤ 1342177280 := by
      have h1 : (S.n * (max (S.lv.length - 1) 0 : Nat) : Int) ≤ 67108864 * 20 := Int.mul_le_mul (by omega) (by omega) (by omega) (by omega)
      omega
    have hAA := hA.symm
    have hlk : k ≤ (l.length : Int) ∨ (¬ k ≤ (l.length : Int) ∧ S.sl = 0 ∧ S.lv.length = 0) := by
      by_cases h : k ≤ (l.length : Int)
      · exact .inl h
      · have h2 := hz (by omega)
        exact .inr ⟨h, h2.1, by rw [h2.2]; rfl⟩
    obtain ⟨M, hM⟩ : ∃ M, M = max ((S.lv.length : Int) - 1) 0 := ⟨_, rfl⟩
    have hMM : ((max (S.lv.length - 1) 0 : Nat) : Int) = M := by rw [hM]; omega
    rw [hMM] at hsk hm
    obtain ⟨B, hB⟩ : ∃ B, B = S.n * M := ⟨_, rfl⟩
    rw [← hB] at hsk hm
    have hM0 : 0 ≤ M := by rw [hM]; omega
    have hM1 : M ≤ 20 := by rw [hM]; omega
    have hM' := hM.symm
    have hB' := hB.symm
    have hl20 : (S.lv.length : Int) ≤ 20 := by omega
    have hk21 : (2 : Int) * k ≤ 128 := by omega
    have hk20 : (0 : Int) ≤ 2 * k := by omega
    have hB0 : 0 ≤ B := by omega
    have hA1 : A ≤ 1342177280 := by omega
    clear q1 q2 q3 hn hnum hpot hrep hz HV HRw hA hlv hM hB hMM HZ hsl1
    rcases hlk with hk | ⟨hk, hs, hL⟩
    · go_wp2
      go_ret
      exact ⟨rfl, HB3.out⟩
    · have d1 : decide (k ≤ (l.length : Int)) = false := by simpa using hk
      have d2 : (S.sl == 0) = true := by rw [beq_iff_eq]; exact hs
      have d3 : ((S.lv.length : Int) == 0) = true := by rw [beq_iff_eq]; omega
      clear hk hs hL
      go_wp2
      go_ret
      exact ⟨rfl, HB3.out⟩

set_option maxRecDepth 100000 in
theorem lifted_RankSlack (os : Os) (started : os.Started) (H : Type) (enc : TypeId × Value → H) :
    ReturnsInHanded {} Try.checked os 8 .any (Rows.rankSlackSpec.pre6 enc Try.prog Try.f8 Rows.rankSlackRow.domain false) (Rows.rankSlackSpec.post enc Try.prog Try.f8 false true false false) := by
  refine returnsInHanded_of_change_sized (C := Try.checked) own started (by kernel_rfl) Try.func8
    (ChangeSpec.witness6 (enc := enc) (C := Try.checked) false ⟨#[], #[.int .i64 0, .slice none 0 0], []⟩ 8 (by kernel_rfl) (by kernel_rfl) (by kernel_rfl) (by kernel_rfl)) ?_
  intro W base args ds gs before hval0 hW hcnd hsz0  _
  have hsz : (DataW.weightsEach Try.prog (Try.f8.params.toList ++ Rows.rankSlackSpec.plain.varTypes Try.prog) (ds ++ gs)).all (· ≤ reachBytes) = true := hsz0
  have hval : ∀ (j : Nat) t v, Try.f8.params[j]? = some t → args[j]? = some v → Value.okWide Try.prog W .any base t v := hval0
  have hW' := hW
  obtain ⟨p, q, hA0, hV, rfl, hfz, hnd⟩ := hW
  have hA : DataW.TrodAll enc Try.prog W 0 (fun _ => true) true Try.f8.params.toList args.toList ds p := hA0
  rw [Try.params8] at hA hval hsz
  obtain ⟨v0, vs0, d0, ds0, p0, q0, hargs, rfl, rfl, h0, r0⟩ := trodAll_cons hA
  obtain ⟨v1, vs1, d1, ds1, p1, q1, rfl, rfl, rfl, h1, r1⟩ := trodAll_cons r0
  obtain ⟨rfl, rfl, rfl⟩ := trodAll_nil r1
  obtain rfl : args = #[v0, v1] := by cases args; simp_all
  obtain ⟨rfl, rfl⟩ := trodVars_none hV
  have k0 := h0
  have lt0 : ∀ x ∈ p0, x.block < W.heap.size := by obtain ⟨m, hm⟩ := k0; exact DataW.trod_lt m _ _ _ hm
  obtain ⟨a0, rfl, rfl, rfl, w0⟩ := open_int Try.underlying3 (hval 0 3 v0 rfl rfl) h0
  have b0 := bounds_i64 w0
  have k1 := h1
  have lt1 : ∀ x ∈ p1, x.block < W.heap.size := by obtain ⟨m, hm⟩ := k1; exact DataW.trod_lt m _ _ _ hm
  obtain ⟨s1, len1, cap1, rfl⟩ := okWide_slice Try.underlying22 (hval 1 22 v1 rfl rfl)
  obtain ⟨l1, row1, wf1, sh1⟩ := open_row Try.underlying22 Try.underlying2 cells2 h1
  have rc1 := row_reach hsz (j := 1) (t := 22) rfl rfl Try.underlying22 sh1
  rw [bytes2] at rc1
  clear hA0 hval0
  refine (walk_RankSlack a0 (.slice s1 len1 cap1) l1 W b0.1 b0.2 row1 (fun x hx => bounds_i64 (wf1 x hx)) rc1).mono fun e W' ⟨he, bel⟩ => ?_
  subst he
  exact ⟨_, rfl, _, _, _, [], _, [], hW', trodAll_mk1 (shut_bool Try.underlying4 _), (trodAll_cons_mk (Below.trod laidOut (by kernel_rfl) (of_decide_eq_true (by kernel_rfl)) k0 bel lt0) (trodAll_cons_mk (Below.trod laidOut (by kernel_rfl) (of_decide_eq_true (by kernel_rfl)) k1 bel lt1) trodAll_mk0)), rfl, bel.frame _, fun h => by cases h⟩

theorem proved_RankSlack : Rows.RankSlackSaid :=
  OpenClaim.holds_of_wide 8 Try.f8 rfl rfl rfl rfl rfl rfl rfl ⟨rfl, rfl, rfl, rfl, rfl⟩ rfl rfl rfl rfl rfl (by kernel_rfl) Try.func8 (by kernel_rfl)
    (of_decide_eq_true (by kernel_rfl)) (by unfold Func.isWrapper; first | (rw [if_pos (by decide +kernel)]; kernel_rfl) | (rw [if_neg (by decide +kernel)]; exact ⟨rfl, rfl⟩))
    (fun os started H enc _ => lifted_RankSlack os started H enc)
#print axioms proved_RankSlack
end Go.Proofs.Ytlndbmenaaiogaa
