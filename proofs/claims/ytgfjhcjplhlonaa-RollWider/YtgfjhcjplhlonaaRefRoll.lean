/- What the document's own calls on windows answer: their faults, one window a sample, where one begins, two together, whether they are the same. -/
import Derived.Test.YtgfjhcjplhlonaaRollN
namespace Go.Proofs.Ytgfjhcjplhlonaa
open Go.RowKit
set_option linter.unusedVariables false
theorem samplesFault_any (v : Value) (l : List (Int × Int)) (w : World) (hr : RowS w v l) : Calls Try.prog 10 #[v] w fun e w' => e = .returned (.int .i64 (P.chk l)) ∧ Below w.heap.size w w' := by
  obtain ⟨a, cap, rfl, ⟨hlc, hmax, hnn⟩, hcase⟩ := hr
  unfold maxLen at hmax
  by_cases hn : 1000 < l.length
  · have hd : decide (1000 < (l.length : Int)) = true := by simp; omega
    have HC := hide (P.chk_large hn)
    go_enter Try.func10, Try.ntmps10
    go_wp2
    go_ret
    exact ⟨ret_int HC.out.symm, Below.refl _ _⟩
  · have hd : decide (1000 < (l.length : Int)) = false := by simp; omega
    have hn' : l.length ≤ 1000 := by omega
    clear hn
    go_enter Try.func10, Try.ntmps10
    go_wp2
    go_loopw [9] (fun i wr => ∃ (k : Nat), k ≤ l.length ∧ i = .int .i64 k ∧ (∀ j, j + 1 < k → (l.getD j (0, 0)).1 < (l.getD (j + 1) (0, 0)).1) ∧ ∃ q, wr = w.drewN q) (fun i _ => l.length - (intOf i).toNat)
    case atStart => exact ⟨0, by omega, rfl, fun j hj => by omega, 0, rfl⟩
    case round =>
      obtain ⟨k, hk, rfl, heq, q, rfl⟩ := hrel
      have HE := hide heq
      clear heq
      by_cases hlt : k < l.length
      · rcases hcase with h | ⟨b, off, rfl, hbs, hcell⟩
        · rw [h] at hlt; simp at hlt
        have j0 : (0 : Int) ≤ (k : Int) := by omega
        have j1 : (k : Int) < (l.length : Int) := by omega
        by_cases hk0 : 0 < k
        · obtain ⟨i, hi⟩ : ∃ i, i + 1 = k := ⟨k - 1, by omega⟩
          have g1 := (hcell k hlt).1
          have g0 := (hcell i (by omega)).1
          clear hcell
          have HT := hide (show (∀ x y, (l.getD i (0, 0)).1 = x → (l.getD k (0, 0)).1 = y → y ≤ x → P.chk l = 5) from fun x y hx hy h => P.chk_order hn' (i := i) (by omega) (by rw [hi, hx, hy]; exact h))
          generalize hx : (l.getD i (0, 0)).1 = x at g0
          generalize hy : (l.getD k (0, 0)).1 = y at g1
          have HXx := hide hx
          have HYy := hide hy
          clear hx hy
          have ei : IntKind.i64.wrap ((k : Int) - 1) = (i : Int) := by rw [IntKind.wrap_i64]; omega
          have HI := hide hi
          clear hi hk
          have j2 : (i : Int) < (l.length : Int) := by have := HI.out; omega
          have j3 : (0 : Int) ≤ (i : Int) := by omega
          have j4 : (0 : Int) < (k : Int) := by omega
          by_cases hxy : y ≤ x
          · go_wp2
            go_quiet (fail)
            go_wp2
            go_ret
            exact ⟨ret_int (HT.out x y HXx.out HYy.out hxy).symm, below_dn (below_dn (Below.refl _ _) _) _⟩
          · have ht : decide (y ≤ x) = false := by simpa using hxy
            go_wp2
            go_quiet (fail)
            go_wp2
            go_roundw
            case rel =>
              refine ⟨k + 1, by omega, by go_num, fun j hj => ?_, q + nq, rfl⟩
              rcases Nat.lt_or_ge (j + 1) k with h | h
              · exact HE.out j h
              · have := HI.out
                obtain rfl : j = i := by omega
                rw [this, HXx.out, HYy.out]; omega
            case measure => simp [intOf]; omega
        · clear hcell
          obtain rfl : k = 0 := by omega
          go_wp2
          go_quiet (fail)
          go_wp2
          go_roundw
          case rel => exact ⟨1, by omega, by go_num, fun j hj => by omega, q + nq, rfl⟩
          case measure => simp [intOf]; omega
      · have hd : decide ((k : Int) < (l.length : Int)) = false := by simp; omega
        have HC : Hid (P.chk l = 0) := P.chk_ok hn' (P.ris_of_steps l fun i hi => HE.out i (by omega))
        go_wp2
        go_ret
        exact ⟨ret_int HC.out.symm, below_dn (Below.refl _ _) _⟩
set_option maxHeartbeats 1000000 in
/-- OnePer. -/
theorem onePer_any (v : Value) (l : List (Int × Int)) (w : World) (hr : RowS w v l) (hln : l.length ≤ 1000) : Calls Try.prog 12 #[v] w fun e w' => ∃ v', e = .returned v' ∧ OwnW w' w.heap.size v' (P.ones l) ∧ Below w.heap.size w w' := by
  obtain ⟨a, cap, rfl, ⟨hlc, hmax, hnn⟩, hcase⟩ := hr
  unfold maxLen at hmax
  clear hnn
  go_enter Try.func12, Try.ntmps12
  go_wp2
  go_loopw [8, 3] (fun i vo wr => RolAt w l i vo wr) (fun i _ _ => l.length - (intOf i).toNat)
  case atStart => exact ⟨0, by omega, rfl, OwnW.nil _ _, Below.refl _ _⟩
  case round =>
    obtain ⟨k, hk, rfl, hown, hB⟩ := hrel
    have hsz := hB.size
    by_cases hlt : k < l.length
    · rcases hcase with h | ⟨b, off, rfl, hbs, hcell⟩
      · rw [h] at hlt; simp at hlt
      have j0 : (0 : Int) ≤ (k : Int) := by omega
      have j1 : (k : Int) < (l.length : Int) := by omega
      obtain ⟨g0, g1⟩ := hcell k hlt
      replace g0 := (hB.cell (p := ⟨b, off + k * 2, none⟩) hbs).trans g0
      replace g1 := (hB.cell (p := ⟨b, off + k * 2 + 1, none⟩) hbs).trans g1
      have HN := hide (P.ones_take hlt)
      have hol : (P.ones (l.take k)).length ≤ 1000 := by rw [P.ones_length]; simp; omega
      generalize l.getD k (0, 0) = s at *
      obtain ⟨s0, s1⟩ := s
      simp only at g0 g1
      clear hcell
      obtain ⟨ao, co, hvo⟩ := OwnW.shp hown
      rw [hvo] at hown ⊢
      clear hvo
      have o1 : OwnW (wr.alloc (.cells #[.int .i64 s0, .int .i64 s1] 40)) w.heap.size (.slice ao (P.ones (l.take k)).length co) (P.ones (l.take k)) := OwnX.below hown (bel_a wr (.cells #[.int .i64 s0, .int .i64 s1] 40)) (Nat.le_refl _)
      have b1 : Below w.heap.size w (wr.alloc (.cells #[.int .i64 s0, .int .i64 s1] 40)) := hB.alloc hsz _
      go_wp2_with (at_builtin; go_must (refine wp_oneW rfl _ _ rfl w.heap.size w.heap.size w _ _ _ (P.one (s0, s1)) _ rfl o1 b1 (Nat.le_refl _) rfl (by simp; rfl) (by omega) b1.size b1.size ?_); intro v3 w3 own3 hb3 _ _)
      go_roundw
      case rel => exact ⟨k + 1, by omega, by go_num, by rw [HN.out]; exact own3, hb3⟩
      case measure => simp [intOf]; omega
    · have hd : decide ((k : Int) < (l.length : Int)) = false := by simp; omega
      obtain rfl : k = l.length := by omega
      rw [List.take_length] at hown
      go_wp2
      go_ret
      exact ⟨_, rfl, hown, hB⟩
/-- SameWindows, where they are the same. -/
theorem sameWin_self (v1 v2 : Value) (l : List P.Wn) (w : World) (h1 : RowW w v1 l) (h2 : RowW w v2 l) :
    Calls Try.prog 13 #[v1, v2] w fun e w' => e = .returned (.bool true) ∧ Below w.heap.size w w' := by
  obtain ⟨a1, c1, rfl, ⟨hlc1, hm1, _⟩, hcase1⟩ := h1
  obtain ⟨a2, c2, rfl, ⟨hlc2, hm2, _⟩, hcase2⟩ := h2
  unfold maxLen at hm1 hm2
  go_enter Try.func13, Try.ntmps13
  go_wp2
  go_loopw [13] (fun i wr => ∃ (k : Nat), k ≤ l.length ∧ i = .int .i64 k ∧ ∃ q, wr = w.drewN q) (fun i _ => l.length - (intOf i).toNat)
  case atStart => exact ⟨0, by omega, rfl, 0, rfl⟩
  case round =>
    obtain ⟨k, hk, rfl, q, rfl⟩ := hrel
    by_cases hlt : k < l.length
    · rcases hcase1 with h | ⟨p1, o1, rfl, hbs1, hcell1⟩
      · rw [h] at hlt; simp at hlt
      rcases hcase2 with h | ⟨p2, o2, rfl, hbs2, hcell2⟩
      · rw [h] at hlt; simp at hlt
      obtain ⟨x, hx⟩ : ∃ x, l[k]? = some x := ⟨_, List.getElem?_eq_getElem hlt⟩
      obtain ⟨g0, g1, g2, g3, g4, g5, g6⟩ := RowW.at hcell1 hx
      obtain ⟨q0, q1, q2, q3, q4, q5, q6⟩ := RowW.at hcell2 hx
      have j0 : (0 : Int) ≤ (k : Int) := by omega
      have j1 : (k : Int) < (l.length : Int) := by omega
      clear hcell1 hcell2 hx
      obtain ⟨x0, x1, x2, x3, x4, x5, x6⟩ := x
      simp only at g0 g1 g2 g3 g4 g5 g6 q0 q1 q2 q3 q4 q5 q6
      go_wp2
      go_quiet (fail)
      go_wp2
      go_roundw
      case rel => exact ⟨k + 1, by omega, by go_num, q + nq, rfl⟩
      case measure => simp [intOf]; omega
    · have hd : decide ((k : Int) < (l.length : Int)) = false := by simp; omega
      go_wp2
      go_ret
      exact ⟨rfl, below_dn (Below.refl _ _) _⟩
/-- GoodTime. -/
theorem goodTime_any (t : Int) (w : World) : Calls Try.prog 25 #[.int .i64 t] w fun e w' => e = .returned (.bool (decide (-1152921504606846976 ≤ t) && decide (t ≤ 1152921504606846976))) ∧ w' = w := by
  by_cases h : -1152921504606846976 ≤ t
  · have h1 : decide (-1152921504606846976 ≤ t) = true := by simpa using h
    go_enter Try.func25, Try.ntmps25
    go_wp2
    go_ret
    exact ⟨by simp [h], rfl⟩
  · have h1 : decide (-1152921504606846976 ≤ t) = false := by simpa using h
    go_enter Try.func25, Try.ntmps25
    go_wp2
    go_ret
    exact ⟨by simp, rfl⟩
theorem tdiv_neg {t w : Int} (hw : 1 ≤ w) (h : t < t.tdiv w * w) : (t.tdiv w - 1) * w = P.beg w t := by
  have h1 := Int.mul_tdiv_add_tmod t w
  have h2 := Int.lt_tmod_of_pos t (show 0 < w by omega)
  rw [Int.mul_comm] at h1
  have h3 := rem_neg hw (show t.tmod w < 0 by omega)
  unfold P.beg
  rw [h3, Int.sub_mul]
  omega
theorem tdiv_pos {t w : Int} (hw : 1 ≤ w) (h : ¬ t < t.tdiv w * w) : t.tdiv w * w = P.beg w t := by
  have h1 := Int.mul_tdiv_add_tmod t w
  rw [Int.mul_comm] at h1
  have h3 := rem_pos hw (show 0 ≤ t.tmod w by omega)
  unfold P.beg
  rw [h3]
  omega
theorem tdiv_bound {t w : Int} (hw : 1 ≤ w) (h2 : w ≤ 1099511627776) (ht : -1152921504606846976 ≤ t ∧ t ≤ 1152921504606846976) : (-1152921504606846976 ≤ t.tdiv w ∧ t.tdiv w ≤ 1152921504606846976) ∧ (-2305843009213693952 ≤ t.tdiv w * w ∧ t.tdiv w * w ≤ 2305843009213693952) := by
  have h1 := Int.mul_tdiv_add_tmod t w
  rw [Int.mul_comm] at h1
  have a1 := Int.lt_tmod_of_pos t (show 0 < w by omega)
  have a2 := Int.tmod_lt_of_pos t (show 0 < w by omega)
  have pos : ∀ u : Int, 0 ≤ u → 0 ≤ u.tdiv w ∧ u.tdiv w ≤ u := fun u hu => by
    rw [Int.tdiv_eq_ediv_of_nonneg hu]
    exact ⟨Int.ediv_nonneg hu (by omega), Int.ediv_le_self _ hu⟩
  refine ⟨?_, by omega⟩
  by_cases h0 : 0 ≤ t
  · have := pos t h0; omega
  · have := pos (-t) (by omega)
    rw [Int.neg_tdiv] at this
    omega
set_option maxHeartbeats 1000000 in
/-- StartOf. -/
theorem startOf_any (t wd : Int) (w : World) (ht : -1152921504606846976 ≤ t ∧ t ≤ 1152921504606846976) (h1 : 1 ≤ wd) (h2 : wd ≤ 1099511627776) : Calls Try.prog 26 #[.int .i64 t, .int .i64 wd] w fun e w' => e = .returned (.int .i64 (P.beg wd t)) ∧ w' = w := by
  obtain ⟨⟨b1, b2⟩, b3, b4⟩ := tdiv_bound h1 h2 ht
  have hb := P.beg_le h1 t
  have HN := hide (@tdiv_neg t wd h1)
  have HP := hide (@tdiv_pos t wd h1)
  obtain ⟨q, hq⟩ : ∃ q, t.tdiv wd = q := ⟨_, rfl⟩
  obtain ⟨m, hm⟩ : ∃ m, q * wd = m := ⟨_, rfl⟩
  obtain ⟨q1, hq1⟩ : ∃ q1, q - 1 = q1 := ⟨_, rfl⟩
  obtain ⟨m1, hm1⟩ : ∃ m1, q1 * wd = m1 := ⟨_, rfl⟩
  rw [hq] at b1 b2
  rw [hq, hm] at b3 b4
  rw [hq, hm, hq1, hm1] at HN
  rw [hq, hm] at HP
  have w0 : IntKind.i64.wrap q = q := IntWalk.i64_in _ (by omega)
  have w1 : IntKind.i64.wrap m = m := IntWalk.i64_in _ (by omega)
  have w2 : IntKind.i64.wrap q1 = q1 := IntWalk.i64_in _ (by omega)
  have hwd : (wd == 0) = false := by rw [beq_eq_false_iff_ne]; omega
  by_cases hlt : t < m
  · have e1 : m1 = P.beg wd t := HN.out hlt
    have w3 : IntKind.i64.wrap m1 = m1 := IntWalk.i64_in _ (by omega)
    have n1 : ¬ t < m1 := by omega
    have HE := hide e1
    have HQ := hide hq1
    clear HN HP e1 hb
    go_enter Try.func26, Try.ntmps26
    go_wp2
    go_loopw [5] (fun x wr => wr = w ∧ (x = .int .i64 q ∨ x = .int .i64 q1)) (fun x _ => (intOf x - q1).toNat)
    case atStart => exact ⟨rfl, .inl rfl⟩
    case round =>
      obtain ⟨rfl, hx⟩ := hrel
      rcases hx with rfl | rfl
      · go_wp2
        go_roundw
        case rel => exact ⟨by first | rfl | trivial, .inr rfl⟩
        case measure => have := HQ.out; simp [intOf]; omega
      · go_wp2
        go_ret
        exact ⟨ret_int HE.out, rfl⟩
  · have e1 : m = P.beg wd t := HP.out hlt
    have HE := hide e1
    clear HN HP e1 hb hq1 hm1 w2
    go_enter Try.func26, Try.ntmps26
    go_wp2
    go_loopw [5] (fun x wr => wr = w ∧ x = .int .i64 q) (fun x _ => 0)
    case atStart => exact ⟨rfl, rfl⟩
    case round =>
      obtain ⟨rfl, rfl⟩ := hrel
      go_wp2
      go_ret
      exact ⟨ret_int HE.out, rfl⟩
theorem top43 (w : World) (a b c d : Obj) : ((((w.alloc a).alloc b).alloc c).alloc d).heap[w.heap.size + 1 + 1]? = some c := by
  rw [heap_alloc_old _ _ (by simp)]
  exact top3 w a b c
/-- Together. -/
theorem together_any (x y : P.Wn) (w : World) : Calls Try.prog 27 #[wnV x, wnV y] w fun e w' => e = .returned (wnV (P.bo x y)) ∧ Below w.heap.size w w' := by
  go_enter Try.func27, Try.ntmps27
  go_wp2
  all_goals
    refine bodyPost_ret (results_cell_row rfl _ _ _ _ _ _ _ rfl (top43 _ _ _ _ _) Try.underlying34 rfl (by kernel_rfl)) rfl ?_
    refine ⟨ret_wn rfl ?_ ?_ ?_ ?_ rfl rfl, (((bel_a _ _).alloc (by simp) _).alloc (by simp; omega) _).alloc (by simp; omega) _⟩ <;> first | (simp only [P.bo, IntKind.wrap_i64, wrap64]; done) | (simp only [P.bo]; omega)
end Go.Proofs.Ytgfjhcjplhlonaa
