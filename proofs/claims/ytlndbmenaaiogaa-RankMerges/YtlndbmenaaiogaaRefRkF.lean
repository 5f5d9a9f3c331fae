/- What the reference's RankFault answers: just what Check does. -/
import Derived.Test.YtlndbmenaaiogaaRefRkI
import Derived.Test.YtlndbmenaaiogaaRankK
import Derived.Deep.DeepCutAuto
namespace Go.Proofs.Ytlndbmenaaiogaa
open Go.RowKit
set_option linter.unusedVariables false
namespace P
/-- What a rank has to keep, but for its levels and N. -/
def Fore (s : Rk) : Prop := 2 ≤ s.k ∧ s.k ≤ 64 ∧ (s.tail.length : Int) < s.k ∧ s.lv.length ≤ 20 ∧ Inc s.tail ∧ 0 ≤ s.sl ∧ s.sl ≤ 1152921504606846976
open Classical in
noncomputable def foreB (s : Rk) : Bool := decide (Fore s)
theorem foreB_yes {s : Rk} (h : Fore s) : foreB s = true := by unfold foreB; simpa using h
theorem foreB_no {s : Rk} (h : ¬ Fore s) : foreB s = false := by unfold foreB; simpa using h
theorem Good.fore {s : Rk} (h : Good s) : Fore s := ⟨h.1.k2, h.1.k64, h.1.room, h.2.1, h.1.inc, h.1.sl, h.2.2⟩
/-- The loop has found nothing amiss in the first j levels. -/
structure Fine (s : Rk) (j : Nat) (n b : Int) : Prop where
  fore : Fore s
  lv : OkL s.k (s.lv.take j)
  tip : ∀ i, i < j → s.lv.getD i [] ≠ [] ∨ i + 1 < s.lv.length
  n : n = ((s.tail.length + cnt (s.lv.take j) : Nat) : Int)
  b : b = s.k * 2 ^ j
theorem Fine.start {s : Rk} (h : Fore s) : Fine s 0 s.tail.length s.k := ⟨h, fun l hl => by simp at hl, fun i hi => by omega, by simp [cnt], by simp⟩
theorem Fine.good {s : Rk} {n b : Int} (h : Fine s s.lv.length n b) (hn : n = s.n) : Good s := by
  obtain ⟨⟨h1, h2, h3, h4, h5, h6, h7⟩, hl, ht, hn', _⟩ := h
  rw [List.take_length] at hl hn'
  refine ⟨⟨h1, h2, h3, h5, (okL_lv (by omega)).1 hl, ?_, by rw [← hn, hn']; push_cast; rfl, h6⟩, h4, h7⟩
  rw [tip_iff]
  rcases Nat.eq_zero_or_pos s.lv.length with h0 | h0
  · exact .inl (List.length_eq_zero_iff.1 h0)
  · right
    rcases ht (s.lv.length - 1) (by omega) with h | h
    · exact h
    · omega
theorem Fine.bad {s : Rk} {n b : Int} (h : Fine s s.lv.length n b) (hn : ¬ n = s.n) : ¬ Good s := by
  intro hg
  have := h.n
  rw [List.take_length] at this
  have := hg.1.n
  omega
theorem pow20 {j : Nat} (h : j ≤ 20) : (1 : Int) ≤ 2 ^ j ∧ (2 : Int) ^ j ≤ 1048576 := by
  have h1 : 2 ^ j ≤ 2 ^ 20 := Nat.pow_le_pow_right (by omega) h
  have h2 : 0 < 2 ^ j := Nat.pow_pos (by omega)
  have h3 : 2 ^ j ≤ 1048576 := Nat.le_trans h1 (by decide)
  have e : (2 : Int) ^ j = ((2 ^ j : Nat) : Int) := by push_cast; rfl
  rw [e]
  generalize 2 ^ j = z at *
  omega
theorem Fine.bounds {s : Rk} {j : Nat} {n b : Int} (h : Fine s j n b) (hj : j ≤ s.lv.length) : 0 ≤ n ∧ n ≤ 67108928 ∧ 0 ≤ b ∧ b ≤ 67108864 := by
  obtain ⟨⟨h1, h2, h3, h4, h5, h6, h7⟩, hl, ht, hn, hb⟩ := h
  have hp := pow20 (show j ≤ 20 by omega)
  have hm : cnt (s.lv.take j) + 64 ≤ 2 ^ (s.lv.take j).length * 64 := cnt_max fun l hm => by have := (hl l hm).2; omega
  have hj' : (s.lv.take j).length = j := by simp; omega
  rw [hj'] at hm
  have hp2 : 2 ^ j ≤ 2 ^ 20 := Nat.pow_le_pow_right (by omega) (by omega)
  have hb1 : s.k * 2 ^ j ≤ 64 * 1048576 := Int.mul_le_mul h2 hp.2 (by omega) (by omega)
  have hb0 : 0 ≤ s.k * 2 ^ j := Int.mul_nonneg (by omega) (by omega)
  omega
theorem Fine.none {s : Rk} {j : Nat} {n b : Int} (h : Fine s j n b) (hl : s.lv[j]? = some []) (h2 : j + 1 < s.lv.length) : Fine s (j + 1) n (b * 2) := by
  refine ⟨h.fore, okL_take h.lv hl ⟨inc_nil, .inl rfl⟩, fun i hi => ?_, ?_, ?_⟩
  · rcases Nat.lt_or_ge i j with h3 | h3
    · exact h.tip i h3
    · right; omega
  · rw [h.n, cnt_take hl]; simp
  · rw [h.b, Int.pow_succ, Int.mul_assoc]
theorem Fine.list {s : Rk} {j : Nat} {n b : Int} {l : List Int} (h : Fine s j n b) (hl : s.lv[j]? = some l) (h1 : Inc l) (h2 : (l.length : Int) = s.k) : Fine s (j + 1) (n + b) (b * 2) := by
  refine ⟨h.fore, okL_take h.lv hl ⟨h1, .inr h2⟩, fun i hi => ?_, ?_, ?_⟩
  · rcases Nat.lt_or_ge i j with h3 | h3
    · exact h.tip i h3
    · obtain rfl : i = j := by omega
      left
      rw [List.getD_eq_getElem?_getD, hl]
      intro e
      simp at e
      subst e
      have := h.fore.1
      simp at h2
      omega
  · rw [h.n, h.b, cnt_take hl, ← h2]; push_cast; rw [Int.mul_comm ((2 : Int) ^ j)]; omega
  · rw [h.b, Int.pow_succ, Int.mul_assoc]
end P
/-- How the loop of RankFault stands. -/
def FaultAt (s : P.Rk) (W0 : World) (i c n b : Value) (wr : World) : Prop :=
  ∃ (j : Nat) (cb : Bool) (ni bi : Int), j ≤ s.lv.length ∧ i = .int .i64 j ∧ c = .bool cb ∧ n = .int .i64 ni ∧ b = .int .i64 bi ∧ (cb = false ∧ ¬ P.Good s ∨ cb = true ∧ P.Fine s j ni bi) ∧ ∃ q, wr = W0.drewN q
set_option maxHeartbeats 4000000 in
set_option maxRecDepth 100000 in
theorem rankFault_any (tv lv : Value) (s : P.Rk) (w : World) (hr : RkV w tv lv s) : Calls Try.prog 12 #[aggR tv lv s] w fun e w' => e = .returned (.int .i64 (P.chkR s)) ∧ Below w.heap.size w w' := by
  obtain ⟨al, cl, rfl, ⟨hlc, hmax⟩, hcase⟩ := hr.lv
  have htail := hr.tail
  obtain ⟨at', ct, rfl, htc, hmt⟩ := hr.tail.nil_of
  unfold maxLen at hmax hmt
  have HRi := hide (fun v l w h => rising_any v l w h)
  have HB := hide ((Below.refl _ w).alloc (Nat.le_refl _) (.cells #[.int .i64 s.k, .slice at' s.tail.length ct, .slice al s.lv.length cl, .int .i64 s.n, .int .i64 s.sl] 25))
  obtain ⟨b0, b1, b2, b3, b4⟩ := box5 (w := w) (c0 := .int .i64 s.k) (c1 := .slice at' s.tail.length ct) (c2 := .slice al s.lv.length cl) (c3 := .int .i64 s.n) (c4 := .int .i64 s.sl) (t := 25)
  have HRt := hide (rising_any _ s.tail _ (htail.below HB.out (Nat.le_refl _)))
  clear hr htail
  go_enter Try.func12, Try.ntmps12
  go_upto_region 1 with fail
  generalize hW0 : (w.alloc (.cells #[.int .i64 s.k, .slice at' s.tail.length ct, .slice al s.lv.length cl, .int .i64 s.n, .int .i64 s.sl] 25)) = W0 at *
  have HW0 := hide hW0
  clear hW0
  go_cut [3] from 8 to 44 (fun c wc => c = .bool (P.foreB s) ∧ ∃ q, wc = W0.drewN q)
  case first =>
    by_cases h1 : 2 ≤ s.k
    · by_cases h2 : s.k ≤ 64
      · by_cases h3 : (s.tail.length : Int) < s.k
        · by_cases h4 : s.lv.length ≤ 20
          · by_cases h5 : P.Inc s.tail
            · have HRi := HRt
              rw [P.incB_yes h5] at HRi
              have d1 : decide (2 ≤ s.k) = true := by simpa using h1
              have d2 : decide (s.k ≤ 64) = true := by simpa using h2
              have d3 : decide ((s.tail.length : Int) < s.k) = true := by simpa using h3
              have d4 : decide ((s.lv.length : Int) ≤ 20) = true := by simp; omega
              by_cases h6 : 0 ≤ s.sl
              · by_cases h7 : s.sl ≤ 1152921504606846976
                · have HF := hide (P.foreB_yes (s := s) ⟨h1, h2, h3, h4, h5, h6, h7⟩)
                  have d6 : decide (0 ≤ s.sl) = true := by simpa using h6
                  have d7 : decide (s.sl ≤ 1152921504606846976) = true := by simpa using h7
                  clear h1 h2 h3 h4 h5 h6 h7
                  go_wp2_with (go_at_call 31; go_must (refine HRi.out.mono ?_); rintro e w1 ⟨rfl, q, rfl⟩)
                  go_meet
                  exact ⟨by rw [HF.out], q, rfl⟩
                · have HF := hide (P.foreB_no (s := s) fun h => h7 h.2.2.2.2.2.2)
                  have d6 : decide (0 ≤ s.sl) = true := by simpa using h6
                  have d7 : decide (s.sl ≤ 1152921504606846976) = false := by simpa using h7
                  clear h1 h2 h3 h4 h5 h6 h7
                  go_wp2_with (go_at_call 31; go_must (refine HRi.out.mono ?_); rintro e w1 ⟨rfl, q, rfl⟩)
                  go_meet
                  exact ⟨by rw [HF.out], q, rfl⟩
              · have HF := hide (P.foreB_no (s := s) fun h => h6 h.2.2.2.2.2.1)
                have d6 : decide (0 ≤ s.sl) = false := by simpa using h6
                clear h1 h2 h3 h4 h5 h6
                go_wp2_with (go_at_call 31; go_must (refine HRi.out.mono ?_); rintro e w1 ⟨rfl, q, rfl⟩)
                go_meet
                exact ⟨by rw [HF.out], q, rfl⟩
            · have HRi := HRt
              rw [P.incB_no h5] at HRi
              have HF := hide (P.foreB_no (s := s) fun h => h5 h.2.2.2.2.1)
              have d1 : decide (2 ≤ s.k) = true := by simpa using h1
              have d2 : decide (s.k ≤ 64) = true := by simpa using h2
              have d3 : decide ((s.tail.length : Int) < s.k) = true := by simpa using h3
              have d4 : decide ((s.lv.length : Int) ≤ 20) = true := by simp; omega
              clear h1 h2 h3 h4 h5
              go_wp2_with (go_at_call 31; go_must (refine HRi.out.mono ?_); rintro e w1 ⟨rfl, q, rfl⟩)
              go_meet
              exact ⟨by rw [HF.out], q, rfl⟩
          · have HF := hide (P.foreB_no (s := s) fun h => h4 h.2.2.2.1)
            have d1 : decide (2 ≤ s.k) = true := by simpa using h1
            have d2 : decide (s.k ≤ 64) = true := by simpa using h2
            have d3 : decide ((s.tail.length : Int) < s.k) = true := by simpa using h3
            have d4 : decide ((s.lv.length : Int) ≤ 20) = false := by simp; omega
            clear h1 h2 h3 h4
            go_wp2
            go_meet
            exact ⟨by rw [HF.out], 0, rfl⟩
        · have HF := hide (P.foreB_no (s := s) fun h => h3 h.2.2.1)
          have d1 : decide (2 ≤ s.k) = true := by simpa using h1
          have d2 : decide (s.k ≤ 64) = true := by simpa using h2
          have d3 : decide ((s.tail.length : Int) < s.k) = false := by simpa using h3
          clear h1 h2 h3
          go_wp2
          go_meet
          exact ⟨by rw [HF.out], 0, rfl⟩
      · have HF := hide (P.foreB_no (s := s) fun h => h2 h.2.1)
        have d1 : decide (2 ≤ s.k) = true := by simpa using h1
        have d2 : decide (s.k ≤ 64) = false := by simpa using h2
        clear h1 h2
        go_wp2
        go_meet
        exact ⟨by rw [HF.out], 0, rfl⟩
    · have HF := hide (P.foreB_no (s := s) fun h => h1 h.1)
      have d1 : decide (2 ≤ s.k) = false := by simpa using h1
      clear h1
      go_wp2
      go_meet
      exact ⟨by rw [HF.out], 0, rfl⟩
  case rest =>
    obtain ⟨rfl, q, rfl⟩ := hcut
    have HBq := hide (below_dn HB.out q)
    have c0 : (W0.drewN q).cell? ⟨w.heap.size, 0, none⟩ = some (.int .i64 s.k) := b0
    have c1 : (W0.drewN q).cell? ⟨w.heap.size, 1, none⟩ = some (.slice at' s.tail.length ct) := b1
    have c2 : (W0.drewN q).cell? ⟨w.heap.size, 2, none⟩ = some (.slice al s.lv.length cl) := b2
    have c3 : (W0.drewN q).cell? ⟨w.heap.size, 3, none⟩ = some (.int .i64 s.n) := b3
    have c4 : (W0.drewN q).cell? ⟨w.heap.size, 4, none⟩ = some (.int .i64 s.sl) := b4
    have HSt : Hid (P.foreB s = false ∧ ¬ P.Good s ∨ P.foreB s = true ∧ P.Fine s 0 s.tail.length s.k) := by
      by_cases hf : P.Fore s
      · exact .inr ⟨P.foreB_yes hf, P.Fine.start hf⟩
      · exact .inl ⟨P.foreB_no hf, fun hg => hf hg.fore⟩
    generalize P.foreB s = fb at *
    clear b0 b1 b2 b3 b4 HRt
    generalize W0.drewN q = W1 at *
    go_wp2
    go_loopw [53, 3, 4, 5] (fun i c n b wr => FaultAt s W1 i c n b wr) (fun i _ _ _ _ => s.lv.length - (intOf i).toNat)
    case atStart => exact ⟨0, _, _, _, by omega, rfl, rfl, rfl, rfl, HSt.out, 0, rfl⟩
    case round =>
      obtain ⟨j, cb, ni, bi, hj, rfl, rfl, rfl, rfl, hst, q2, rfl⟩ := hrel
      have d0 : (W1.drewN q2).cell? ⟨w.heap.size, 0, none⟩ = some (.int .i64 s.k) := c0
      have d2 : (W1.drewN q2).cell? ⟨w.heap.size, 2, none⟩ = some (.slice al s.lv.length cl) := c2
      have d3 : (W1.drewN q2).cell? ⟨w.heap.size, 3, none⟩ = some (.int .i64 s.n) := c3
      by_cases hlt : j < s.lv.length
      · rcases hcase with h | ⟨b, off, rfl, hbs, hcell⟩
        · rw [h] at hlt; simp at hlt
        have j0 : (0 : Int) ≤ (j : Int) := by omega
        have j1 : (j : Int) < (s.lv.length : Int) := by omega
        obtain ⟨l, hx⟩ : ∃ x, s.lv[j]? = some x := ⟨_, List.getElem?_eq_getElem hlt⟩
        obtain ⟨vj, g0, hrow⟩ := hcell j l hx
        have g1 : (W1.drewN q2).cell? ⟨b, off + j, none⟩ = some vj := (HBq.out.cell (p := ⟨b, off + j, none⟩) hbs).trans g0
        have HI := hide (HRi.out vj l (W1.drewN q2) (hrow.below (below_dn HBq.out q2) (Nat.le_refl _)))
        obtain ⟨ar, cr, rfl, hlr, hmr⟩ := hrow.nil_of
        unfold maxLen at hmr
        have HX := hide hx
        clear hcell hrow g0 hx
        rcases hst with ⟨rfl, hng⟩ | ⟨rfl, hfine⟩
        · have HNG := hide hng
          clear hng HSt
          by_cases h0 : 0 < l.length
          · have hd0 : decide (0 < l.length) = true := by simpa using h0
            go_wp2
            go_roundw
            case rel => exact ⟨j + 1, false, _, _, by omega, by go_num, rfl, rfl, rfl, .inl ⟨rfl, HNG.out⟩, _, rfl⟩
            case measure => simp [intOf]; omega
          · have hd0 : decide (0 < l.length) = false := by simpa using h0
            go_wp2
            go_roundw
            case rel => exact ⟨j + 1, false, _, _, by omega, by go_num, rfl, rfl, rfl, .inl ⟨rfl, HNG.out⟩, _, rfl⟩
            case measure => simp [intOf]; omega
        · have hbd := hfine.bounds hj
          have HFi := hide hfine
          have hk := hfine.fore.1
          have hk64 := hfine.fore.2.1
          clear hfine HSt
          have m1 : bi * 2 ≤ 9223372036854775807 := by omega
          have m0 : 0 ≤ bi * 2 := by omega
          have a1 : ni + bi ≤ 9223372036854775807 := by omega
          have a0 : 0 ≤ ni + bi := by omega
          by_cases hs : P.Inc l
          · have HT := hide (P.incB_yes hs)
            rw [HT.out] at HI
            have HS := hide hs
            by_cases h0 : l = []
            · have e0 : ((l.length : Int) == 0) = true := by rw [h0]; rfl
              have hd0 : decide (0 < l.length) = false := by rw [h0]; rfl
              rw [h0] at HX
              clear h0 hs
              by_cases h1 : j + 1 < s.lv.length
              · have e1 : decide ((j : Int) + 1 < (s.lv.length : Int)) = true := by simp; omega
                go_wp2_with (go_at_call 31; go_must (refine HI.out.mono ?_); rintro e w' ⟨rfl, q3, rfl⟩)
                go_roundw
                case rel => exact ⟨j + 1, true, ni, bi * 2, by omega, by go_num, rfl, rfl, rfl, .inr ⟨rfl, HFi.out.none HX.out h1⟩, _, rfl⟩
                case measure => simp [intOf]; omega
              · have e1 : decide ((j : Int) + 1 < (s.lv.length : Int)) = false := by simp; omega
                have HNG : Hid (¬ P.Good s) := fun hg => by
                  have ht := (P.tip_iff s.lv).1 hg.1.tip
                  have hx := HX.out
                  rcases ht with ht | ht
                  · rw [ht] at hlt; simp at hlt
                  · apply ht
                    rw [show s.lv.length - 1 = j by omega, List.getD_eq_getElem?_getD, hx]; rfl
                go_wp2_with (go_at_call 31; go_must (refine HI.out.mono ?_); rintro e w' ⟨rfl, q3, rfl⟩)
                go_roundw
                case rel => exact ⟨j + 1, false, _, _, by omega, by go_num, rfl, rfl, rfl, .inl ⟨rfl, HNG.out⟩, _, rfl⟩
                case measure => simp [intOf]; omega
            · have hpos : 0 < l.length := List.length_pos_iff.2 h0
              have e0 : ((l.length : Int) == 0) = false := by rw [beq_eq_false_iff_ne]; omega
              have hd0 : decide (0 < l.length) = true := by simpa using hpos
              clear h0 hs
              by_cases h1 : (l.length : Int) = s.k
              · have e1 : ((l.length : Int) == s.k) = true := by rw [beq_iff_eq]; exact h1
                have HLk := hide h1
                clear h1
                go_wp2_with (go_at_call 31; go_must (refine HI.out.mono ?_); rintro e w' ⟨rfl, q3, rfl⟩)
                go_roundw
                case rel => exact ⟨j + 1, true, ni + bi, bi * 2, by omega, by go_num, rfl, rfl, rfl, .inr ⟨rfl, HFi.out.list HX.out HS.out HLk.out⟩, _, rfl⟩
                case measure => simp [intOf]; omega
              · have e1 : ((l.length : Int) == s.k) = false := by rw [beq_eq_false_iff_ne]; exact h1
                have HNG : Hid (¬ P.Good s) := fun hg => by
                  have := (hg.1.lv l (List.mem_of_getElem? HX.out)).2
                  omega
                clear h1
                go_wp2_with (go_at_call 31; go_must (refine HI.out.mono ?_); rintro e w' ⟨rfl, q3, rfl⟩)
                go_roundw
                case rel => exact ⟨j + 1, false, _, _, by omega, by go_num, rfl, rfl, rfl, .inl ⟨rfl, HNG.out⟩, _, rfl⟩
                case measure => simp [intOf]; omega
          · have HT := hide (P.incB_no hs)
            rw [HT.out] at HI
            have HNG : Hid (¬ P.Good s) := fun hg => hs (hg.1.lv l (List.mem_of_getElem? HX.out)).1
            clear hs
            by_cases h0 : 0 < l.length
            · have hd0 : decide (0 < l.length) = true := by simpa using h0
              go_wp2_with (go_at_call 31; go_must (refine HI.out.mono ?_); rintro e w' ⟨rfl, q3, rfl⟩)
              go_roundw
              case rel => exact ⟨j + 1, false, _, _, by omega, by go_num, rfl, rfl, rfl, .inl ⟨rfl, HNG.out⟩, _, rfl⟩
              case measure => simp [intOf]; omega
            · have hd0 : decide (0 < l.length) = false := by simpa using h0
              go_wp2_with (go_at_call 31; go_must (refine HI.out.mono ?_); rintro e w' ⟨rfl, q3, rfl⟩)
              go_roundw
              case rel => exact ⟨j + 1, false, _, _, by omega, by go_num, rfl, rfl, rfl, .inl ⟨rfl, HNG.out⟩, _, rfl⟩
              case measure => simp [intOf]; omega
      · have hd2 : decide ((j : Int) < (s.lv.length : Int)) = false := by simp; omega
        obtain rfl : j = s.lv.length := by omega
        rcases hst with ⟨rfl, hng⟩ | ⟨rfl, hfine⟩
        · have HE := hide (P.chkR_not hng)
          clear hng HSt
          go_wp2
          go_ret
          exact ⟨by rw [HE.out]; rfl, below_dn HBq.out _⟩
        · by_cases hn : ni = s.n
          · have HE := hide (P.chkR_ok (hfine.good hn))
            have e1 : (ni != s.n) = false := by rw [bne_eq_false_iff_eq]; exact hn
            clear hfine hn HSt
            go_wp2
            go_ret
            exact ⟨by rw [HE.out]; rfl, below_dn HBq.out _⟩
          · have HE := hide (P.chkR_not (hfine.bad hn))
            have e1 : (ni != s.n) = true := by rw [bne_iff_ne]; exact hn
            clear hfine hn HSt
            go_wp2
            go_ret
            exact ⟨by rw [HE.out]; rfl, below_dn HBq.out _⟩
end Go.Proofs.Ytlndbmenaaiogaa
