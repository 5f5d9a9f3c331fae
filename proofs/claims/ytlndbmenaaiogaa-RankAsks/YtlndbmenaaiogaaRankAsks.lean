/- RankAsks holds: at all ranks, numbers and places the law answers true and changes nothing that was there. -/
import Derived.Test.YtlndbmenaaiogaaRankQ
import Derived.Test.YtlndbmenaaiogaaRefRkF
import Derived.Test.YtlndbmenaaiogaaRefRkS
import Derived.Test.YtlndbmenaaiogaaRefRkW
namespace Go.Proofs.Ytlndbmenaaiogaa
open Go.ChangeShapes Go.WideShapes Go.ChangeAt Go.RowKit
set_option linter.unusedVariables false
/-- What the loop has found among the first j numbers. -/
def AskAt (s : P.Rk) (r : Int) (K : List Int) (j : Nat) (fb : Bool) (best : Int) : Prop :=
  (fb = false ∧ ∀ i, i < j → ¬ r ≤ (P.wtR (K.getD i 0) s : Int)) ∨ (fb = true ∧ best ∈ K ∧ r ≤ (P.wtR best s : Int) ∧ ∀ i, i < j → r ≤ (P.wtR (K.getD i 0) s : Int) → best ≤ K.getD i 0)
theorem AskAt.skip {s : P.Rk} {r best : Int} {K : List Int} {j : Nat} {fb : Bool} (h : AskAt s r K j fb best) (hn : ¬ r ≤ (P.wtR (K.getD j 0) s : Int)) : AskAt s r K (j + 1) fb best := by
  rcases h with ⟨h1, h2⟩ | ⟨h1, h2, h3, h4⟩
  · refine .inl ⟨h1, fun i hi => ?_⟩
    rcases Nat.lt_or_ge i j with h | h
    · exact h2 i h
    · obtain rfl : i = j := by omega
      exact hn
  · refine .inr ⟨h1, h2, h3, fun i hi hr => ?_⟩
    rcases Nat.lt_or_ge i j with h | h
    · exact h4 i h hr
    · obtain rfl : i = j := by omega
      exact absurd hr hn
theorem AskAt.take {s : P.Rk} {r best : Int} {K : List Int} {j : Nat} {fb : Bool} (h : AskAt s r K j fb best) (hj : j < K.length) (hr : r ≤ (P.wtR (K.getD j 0) s : Int)) (hb : fb = false ∨ K.getD j 0 < best) : AskAt s r K (j + 1) true (K.getD j 0) := by
  refine .inr ⟨rfl, by rw [List.getD_eq_getElem?_getD, List.getElem?_eq_getElem hj]; simp, hr, fun i hi hr' => ?_⟩
  rcases Nat.lt_or_ge i j with h' | h'
  · rcases h with ⟨h1, h2⟩ | ⟨h1, h2, h3, h4⟩
    · exact absurd hr' (h2 i h')
    · rcases hb with hb | hb
      · rw [h1] at hb; cases hb
      · have := h4 i h' hr'; omega
  · obtain rfl : i = j := by omega
    exact Int.le_refl _
theorem AskAt.keep {s : P.Rk} {r best : Int} {K : List Int} {j : Nat} (h : AskAt s r K j true best) (hb : ¬ K.getD j 0 < best) : AskAt s r K (j + 1) true best := by
  rcases h with ⟨h1, _⟩ | ⟨h1, h2, h3, h4⟩
  · cases h1
  · refine .inr ⟨rfl, h2, h3, fun i hi hr' => ?_⟩
    rcases Nat.lt_or_ge i j with h' | h'
    · exact h4 i h' hr'
    · obtain rfl : i = j := by omega
      omega
theorem AskAt.done {s : P.Rk} {r best q : Int} {K : List Int} {fb : Bool} (h : AskAt s r K K.length fb best) (hK : ∀ v, v ∈ K ↔ v ∈ P.kept s) (hq : P.IsQ s r q) : fb = true ∧ q = best := by
  have hget : ∀ v ∈ K, ∃ i, i < K.length ∧ K.getD i 0 = v := by
    intro v hv
    obtain ⟨i, hi, rfl⟩ := List.mem_iff_getElem.1 hv
    exact ⟨i, hi, by simp [List.getD_eq_getElem?_getD, List.getElem?_eq_getElem hi]⟩
  rcases h with ⟨h1, h2⟩ | ⟨h1, h2, h3, h4⟩
  · obtain ⟨i, hi, e⟩ := hget q ((hK q).2 hq.1)
    exact absurd hq.2.1 (by rw [← e]; exact h2 i hi)
  · refine ⟨h1, hq.one ⟨(hK best).1 h2, h3, fun y hy hr => ?_⟩⟩
    obtain ⟨i, hi, e⟩ := hget y ((hK y).2 hy)
    rw [← e] at hr ⊢
    exact h4 i hi hr
theorem P.qE_cases (s : P.Rk) (r : Int) (hg : P.Good s) : (s.n = 0 ∧ P.qE s r = 7) ∨ (s.n ≠ 0 ∧ (r < 1 ∨ s.n < r) ∧ P.qE s r = 6) ∨ (s.n ≠ 0 ∧ 1 ≤ r ∧ r ≤ s.n ∧ P.qE s r = 0) := by
  by_cases h0 : s.n = 0
  · left; refine ⟨h0, ?_⟩; unfold P.qE; rw [if_neg (by simp [hg]), if_pos h0]
  · right
    by_cases h1 : r < 1 ∨ s.n < r
    · left; refine ⟨h0, h1, ?_⟩; unfold P.qE; rw [if_neg (by simp [hg]), if_neg h0, if_pos h1]
    · right; refine ⟨h0, by omega, by omega, ?_⟩; unfold P.qE; rw [if_neg (by simp [hg]), if_neg h0, if_neg h1]
set_option maxHeartbeats 2000000 in
theorem walk_RankAsks (tv lv : Value) (s : P.Rk) (x r : Int) (w : World) (hr : RkV w tv lv s) (hi : RkI s) (_ : -9223372036854775808 ≤ x) (_ : x ≤ 9223372036854775807) (_ : -9223372036854775808 ≤ r) (_ : r ≤ 9223372036854775807) :
    Calls Try.prog 5 #[aggR tv lv s, .int .i64 x, .int .i64 r] w fun e w' => e = .returned (.bool true) ∧ Below w.heap.size w w' := by
  have HB := hide ((Below.refl _ w).alloc (Nat.le_refl _) (.cells #[.int .i64 s.k, tv, lv, .int .i64 s.n, .int .i64 s.sl] 25))
  obtain ⟨b0, b1, b2, b3, b4⟩ := box5 (w := w) (c0 := .int .i64 s.k) (c1 := tv) (c2 := lv) (c3 := .int .i64 s.n) (c4 := .int .i64 s.sl) (t := 25)
  have HQ := hide (fun wx (hb : Below w.heap.size w wx) => Query_any tv lv s r wx (hr.below hb (Nat.le_refl _)))
  have HFt := hide (fun wx (hb : Below w.heap.size w wx) => rankFault_any tv lv s wx (hr.below hb (Nat.le_refl _)))
  by_cases hg : P.Good s
  · have HW := hide (fun (z : Int) wx (hb : Below w.heap.size w wx) => Weight_ok tv lv s z wx (hr.below hb (Nat.le_refl _)) hg)
    have HO := hide (fun (z : Int) wx (hb : Below w.heap.size w wx) => weightOf_any tv lv s z wx (hr.below hb (Nat.le_refl _)) hg)
    have HKp := hide (fun wx (hb : Below w.heap.size w wx) => kept_any tv lv s wx (hr.below hb (Nat.le_refl _)) hg)
    rw [P.chkR_ok hg] at HFt
    have HC := hide (P.qE_cases s r hg)
    have HOx := hide (HO.out x)
    have HWx := hide (HW.out x)
    have ex : ((P.wtR x s : Int) != (P.wtR x s : Int)) = false := by simp
    generalize P.wtR x s = wx at HOx HWx ex
    clear hr hi hg HW
    go_enter Try.func5, Try.ntmps5
    go_wp2_with fail
    refine (HWx.out _ HB.out).mono ?_
    rintro e w1 ⟨rfl, hb1⟩
    have d0 := keep_cell b0 hb1; have d1 := keep_cell b1 hb1; have d2 := keep_cell b2 hb1; have d3 := keep_cell b3 hb1; have d4 := keep_cell b4 hb1
    have HB1 := hide (Below.next HB.out hb1)
    clear hb1 b0 b1 b2 b3 b4
    go_wp2_with fail
    refine (HQ.out _ HB1.out).mono ?_
    rintro e w2 ⟨q, rfl, hq0, hq1, hb2⟩
    have e0 := keep_cell d0 hb2; have e1 := keep_cell d1 hb2; have e2 := keep_cell d2 hb2; have e3 := keep_cell d3 hb2; have e4 := keep_cell d4 hb2
    have HB2 := hide (Below.next HB1.out hb2)
    have HQ0 := hide hq0
    have HQ1 := hide hq1
    clear hb2 d0 d1 d2 d3 d4 hq0 hq1 HQ
    generalize hqe : P.qE s r = qe at *
    clear hqe
    go_wp2_with fail
    refine (HFt.out _ HB2.out).mono ?_
    rintro e w3 ⟨rfl, hb3⟩
    have f0 := keep_cell e0 hb3; have f1 := keep_cell e1 hb3; have f2 := keep_cell e2 hb3; have f3 := keep_cell e3 hb3; have f4 := keep_cell e4 hb3
    have HB3 := hide (Below.next HB2.out hb3)
    clear hb3 e0 e1 e2 e3 e4 HFt
    go_wp2_with fail
    refine (HOx.out _ HB3.out).mono ?_
    rintro e w4 ⟨rfl, hb4⟩
    have g0 := keep_cell f0 hb4; have g1 := keep_cell f1 hb4; have g2 := keep_cell f2 hb4; have g3 := keep_cell f3 hb4; have g4 := keep_cell f4 hb4
    have HB4 := hide (Below.next HB3.out hb4)
    clear hb4 f0 f1 f2 f3 f4 HOx
    rcases HC.out with ⟨hn, rfl⟩ | ⟨hn, hx, rfl⟩ | ⟨hn, hx1, hx2, rfl⟩
    · have en : (s.n == 0) = true := by rw [beq_iff_eq]; exact hn
      obtain rfl := HQ0.out (by decide)
      clear hn
      go_wp2
      go_ret
      exact ⟨rfl, HB4.out⟩
    · have en : (s.n == 0) = false := by rw [beq_eq_false_iff_ne]; exact hn
      obtain rfl := HQ0.out (by decide)
      clear hn
      by_cases hx1 : r < 1
      · clear hx
        go_wp2
        go_ret
        exact ⟨rfl, HB4.out⟩
      · have hd1 : decide (r < 1) = false := by simpa using hx1
        have hx2 : s.n < r := by omega
        clear hx hx1
        go_wp2
        go_ret
        exact ⟨rfl, HB4.out⟩
    · have en : (s.n == 0) = false := by rw [beq_eq_false_iff_ne]; exact hn
      have hd1 : decide (r < 1) = false := by simp; omega
      have hd2 : decide (s.n < r) = false := by simp; omega
      have HIQ := hide (HQ1.out rfl)
      clear hn hx1 hx2 HQ0 HQ1 HC
      go_wp2_with fail
      refine (HKp.out _ HB4.out).mono ?_
      rintro e w5 ⟨vk, rfl, own5, hb5⟩
      have hK : ∀ v, v ∈ s.tail ++ flt s.lv ↔ v ∈ P.kept s := fun v => by unfold P.kept flt; rw [List.mem_append, List.mem_append, Or.comm]
      have h0 := keep_cell g0 hb5; have h1 := keep_cell g1 hb5; have h2 := keep_cell g2 hb5; have h3 := keep_cell g3 hb5; have h4 := keep_cell g4 hb5
      have HB5 := hide (Below.next HB4.out hb5)
      generalize s.tail ++ flt s.lv = K at *
      have hrow := own5.row
      have hlt5 := own5.shape
      have HK := hide hK
      have HD := hide (fun fb best (h : AskAt s r K K.length fb best) => h.done hK HIQ.out)
      obtain ⟨ak, ck, rfl, ⟨hlc, hmax, _⟩, hcase⟩ := hrow
      unfold maxLen at hmax
      clear hb5 g0 g1 g2 g3 g4 own5 hK hlt5
      go_wp2
      go_loopw [83, 12, 13] (fun i f b wr => ∃ (j : Nat) (fb : Bool) (best : Int), j ≤ K.length ∧ i = .int .i64 j ∧ f = .bool fb ∧ b = .int .i64 best ∧ AskAt s r K j fb best ∧ Below w5.heap.size w5 wr) (fun i _ _ _ => K.length - (intOf i).toNat)
      case atStart => exact ⟨0, false, 0, by omega, rfl, rfl, rfl, .inl ⟨rfl, fun i hi => by omega⟩, Below.refl _ _⟩
      case round =>
        obtain ⟨j, fb, best, hj, rfl, rfl, rfl, hask, hB⟩ := hrel
        have HA := hide hask
        have HBr := hide (Below.next HB5.out hB)
        have HBo := hide hB
        by_cases hlt : j < K.length
        · rcases hcase with h | ⟨b, off, rfl, hbs, hcell⟩
          · rw [h] at hlt; simp at hlt
          have j0 : (0 : Int) ≤ (j : Int) := by omega
          have j1 : (j : Int) < (K.length : Int) := by omega
          have q0 := (hB.cell (p := ⟨b, off + j, none⟩) hbs).trans (hcell j hlt)
          have k0 := keep_cell h0 hB; have k1 := keep_cell h1 hB; have k2 := keep_cell h2 hB; have k3 := keep_cell h3 hB; have k4 := keep_cell h4 hB
          have HOy := hide (HO.out (K.getD j 0) wr HBr.out)
          have HT := hide (fun h1 h2 => HA.out.take (j := j) hlt h1 h2)
          have HS := hide (fun h1 => HA.out.skip (j := j) h1)
          have HKe := hide (fun (hf : fb = true) (h1 : ¬ K.getD j 0 < best) => (show AskAt s r K j true best from hf ▸ HA.out).keep h1)
          clear hcell hask hB h0 h1 h2 h3 h4
          generalize hy : K.getD j 0 = y at *
          clear hy
          generalize P.wtR y s = wy at *
          by_cases hge : r ≤ (wy : Int)
          · by_cases hf : fb = true
            · by_cases hlb : y < best
              · have HN := hide (HT.out hge (.inr hlb))
                subst hf
                go_wp2_with (go_at_call 20; go_must (refine HOy.out.mono ?_); rintro e w6 ⟨rfl, hb6⟩; have HB6 := hide (Below.next HBo.out hb6); clear hb6)
                go_roundw
                case rel => exact ⟨j + 1, true, y, by omega, by go_num, rfl, rfl, HN.out, HB6.out⟩
                case measure => simp [intOf]; omega
              · have HN := hide (HKe.out hf hlb)
                have hd3 : decide (y < best) = false := by simpa using hlb
                subst hf
                clear hlb
                go_wp2_with (go_at_call 20; go_must (refine HOy.out.mono ?_); rintro e w6 ⟨rfl, hb6⟩; have HB6 := hide (Below.next HBo.out hb6); clear hb6)
                go_roundw
                case rel => exact ⟨j + 1, true, best, by omega, by go_num, rfl, rfl, HN.out, HB6.out⟩
                case measure => simp [intOf]; omega
            · have hf' : fb = false := by simpa using hf
              have HN := hide (HT.out hge (.inl hf'))
              subst hf'
              clear hf
              go_wp2_with (go_at_call 20; go_must (refine HOy.out.mono ?_); rintro e w6 ⟨rfl, hb6⟩; have HB6 := hide (Below.next HBo.out hb6); clear hb6)
              go_roundw
              case rel => exact ⟨j + 1, true, y, by omega, by go_num, rfl, rfl, HN.out, HB6.out⟩
              case measure => simp [intOf]; omega
          · have HN := hide (HS.out hge)
            have hd3 : decide (r ≤ (wy : Int)) = false := by simpa using hge
            clear hge
            go_wp2_with (go_at_call 20; go_must (refine HOy.out.mono ?_); rintro e w6 ⟨rfl, hb6⟩; have HB6 := hide (Below.next HBo.out hb6); clear hb6)
            go_roundw
            case rel => exact ⟨j + 1, fb, best, by omega, by go_num, rfl, rfl, HN.out, HB6.out⟩
            case measure => simp [intOf]; omega
        · have hd3 : decide ((j : Int) < (K.length : Int)) = false := by simp; omega
          obtain rfl : j = K.length := by omega
          obtain ⟨rfl, rfl⟩ := HD.out fb best HA.out
          have hqq : (q == q) = true := by simp
          clear hask hB
          go_wp2
          go_ret
          exact ⟨rfl, HBr.out⟩
  · have HW := hide (fun wx (hb : Below w.heap.size w wx) => Weight_bad tv lv s x wx (hr.below hb (Nat.le_refl _)) hg)
    rw [P.chkR_not hg] at HFt
    have hq4 : P.qE s r = 4 := by unfold P.qE; rw [if_pos hg]
    rw [hq4] at HQ
    clear hr hi hg hq4
    go_enter Try.func5, Try.ntmps5
    go_wp2_with fail
    refine (HW.out _ HB.out).mono ?_
    rintro e w1 ⟨rfl, hb1⟩
    have d0 := keep_cell b0 hb1; have d1 := keep_cell b1 hb1; have d2 := keep_cell b2 hb1; have d3 := keep_cell b3 hb1; have d4 := keep_cell b4 hb1
    have HB1 := hide (Below.next HB.out hb1)
    clear hb1 b0 b1 b2 b3 b4
    go_wp2_with fail
    refine (HQ.out _ HB1.out).mono ?_
    rintro e w2 ⟨q, rfl, hq0, hq1, hb2⟩
    have e0 := keep_cell d0 hb2; have e1 := keep_cell d1 hb2; have e2 := keep_cell d2 hb2; have e3 := keep_cell d3 hb2; have e4 := keep_cell d4 hb2
    have HB2 := hide (Below.next HB1.out hb2)
    obtain rfl := hq0 (by decide)
    clear hb2 d0 d1 d2 d3 d4 hq0 hq1 HQ
    go_wp2_with fail
    refine (HFt.out _ HB2.out).mono ?_
    rintro e w3 ⟨rfl, hb3⟩
    have HB3 := hide (Below.next HB2.out hb3)
    clear hb3 e0 e1 e2 e3 e4 HFt
    go_wp2
    go_ret
    exact ⟨rfl, HB3.out⟩

set_option maxRecDepth 100000 in
theorem lifted_RankAsks (os : Os) (started : os.Started) (H : Type) (enc : TypeId × Value → H) :
    ReturnsInHanded {} Try.checked os 5 .any (Rows.rankAsksSpec.pre6 enc Try.prog Try.f5 Rows.rankAsksRow.domain false) (Rows.rankAsksSpec.post enc Try.prog Try.f5 false true false false) := by
  refine returnsInHanded_of_change_sized (C := Try.checked) own started (by kernel_rfl) Try.func5
    (ChangeSpec.witness6 (enc := enc) (C := Try.checked) false ⟨#[], #[.agg #[.int .i64 0, .slice none 0 0, .slice none 0 0, .int .i64 0, .int .i64 0], .int .i64 0, .int .i64 0], []⟩ 8 (by kernel_rfl) (by kernel_rfl) (by kernel_rfl) (by kernel_rfl)) ?_
  intro W base args ds gs before hval0 hW hcnd hsz0  _
  have hsz : (DataW.weightsEach Try.prog (Try.f5.params.toList ++ Rows.rankAsksSpec.plain.varTypes Try.prog) (ds ++ gs)).all (· ≤ reachBytes) = true := hsz0
  have hval : ∀ (j : Nat) t v, Try.f5.params[j]? = some t → args[j]? = some v → Value.okWide Try.prog W .any base t v := hval0
  have hW' := hW
  obtain ⟨p, q, hA0, hV, rfl, hfz, hnd⟩ := hW
  have hA : DataW.TrodAll enc Try.prog W 0 (fun _ => true) true Try.f5.params.toList args.toList ds p := hA0
  rw [Try.params5] at hA hval hsz
  obtain ⟨v0, vs0, d0, ds0, p0, q0, hargs, rfl, rfl, h0, r0⟩ := trodAll_cons hA
  obtain ⟨v1, vs1, d1, ds1, p1, q1, rfl, rfl, rfl, h1, r1⟩ := trodAll_cons r0
  obtain ⟨v2, vs2, d2, ds2, p2, q2, rfl, rfl, rfl, h2, r2⟩ := trodAll_cons r1
  obtain ⟨rfl, rfl, rfl⟩ := trodAll_nil r2
  obtain rfl : args = #[v0, v1, v2] := by cases args; simp_all
  obtain ⟨rfl, rfl⟩ := trodVars_none hV
  have k0 := h0
  have lt0 : ∀ x ∈ p0, x.block < W.heap.size := by obtain ⟨m, hm⟩ := k0; exact DataW.trod_lt m _ _ _ hm
  obtain ⟨tv0, lv0, x0, rfl, rk0, ri0⟩ := open_rank (hval 0 25 v0 rfl rfl) h0
  have k1 := h1
  have lt1 : ∀ x ∈ p1, x.block < W.heap.size := by obtain ⟨m, hm⟩ := k1; exact DataW.trod_lt m _ _ _ hm
  obtain ⟨a1, rfl, rfl, rfl, w1⟩ := open_int Try.underlying2 (hval 1 2 v1 rfl rfl) h1
  have b1 := bounds_i64 w1
  have k2 := h2
  have lt2 : ∀ x ∈ p2, x.block < W.heap.size := by obtain ⟨m, hm⟩ := k2; exact DataW.trod_lt m _ _ _ hm
  obtain ⟨a2, rfl, rfl, rfl, w2⟩ := open_int Try.underlying2 (hval 2 2 v2 rfl rfl) h2
  have b2 := bounds_i64 w2
  clear hA0 hval0
  refine (walk_RankAsks tv0 lv0 x0 a1 a2 W rk0 ri0 b1.1 b1.2 b2.1 b2.2).mono fun e W' ⟨he, bel⟩ => ?_
  subst he
  exact ⟨_, rfl, _, _, _, [], _, [], hW', trodAll_mk1 (shut_bool Try.underlying4 _), (trodAll_cons_mk (Below.trod laidOut (by kernel_rfl) (of_decide_eq_true (by kernel_rfl)) k0 bel lt0) (trodAll_cons_mk (Below.trod laidOut (by kernel_rfl) (of_decide_eq_true (by kernel_rfl)) k1 bel lt1) (trodAll_cons_mk (Below.trod laidOut (by kernel_rfl) (of_decide_eq_true (by kernel_rfl)) k2 bel lt2) trodAll_mk0))), rfl, bel.frame _, fun h => by cases h⟩

theorem proved_RankAsks : Rows.RankAsksSaid :=
  OpenClaim.holds_of_wide 5 Try.f5 rfl rfl rfl rfl rfl rfl rfl ⟨rfl, rfl, rfl, rfl, rfl⟩ rfl rfl rfl rfl rfl (by kernel_rfl) Try.func5 (by kernel_rfl)
    (of_decide_eq_true (by kernel_rfl)) (by unfold Func.isWrapper; first | (rw [if_pos (by decide +kernel)]; kernel_rfl) | (rw [if_neg (by decide +kernel)]; exact ⟨rfl, rfl⟩))
    (fun os started H enc _ => lifted_RankAsks os started H enc)
#print axioms proved_RankAsks
end Go.Proofs.Ytlndbmenaaiogaa
