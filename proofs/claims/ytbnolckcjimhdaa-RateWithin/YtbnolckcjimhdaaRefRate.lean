/- What the document's own CounterFault, GoodTime and GrownBy answer. -/
import Derived.Test.YtbnolckcjimhdaaRateC
namespace Go.Proofs.Ytbnolckcjimhdaa
open Go.RowKit
set_option linter.unusedVariables false
theorem samplesFault_any (v : Value) (l : List (Int × Int)) (w : World) (hr : RowS w v l) : Calls Try.prog 21 #[v] w fun e w' => e = .returned (.int .i64 (P.chk l)) ∧ Below w.heap.size w w' := by
  obtain ⟨a, cap, rfl, ⟨hlc, hmax, hnn⟩, hcase⟩ := hr
  unfold maxLen at hmax
  by_cases hn : 1000 < l.length
  · have hd : decide (1000 < (l.length : Int)) = true := by simp; omega
    have HC := hide (P.chk_large hn)
    go_enter Try.func21, Try.ntmps21
    go_wp2
    go_ret
    exact ⟨ret_int HC.out.symm, Below.refl _ _⟩
  · have hd : decide (1000 < (l.length : Int)) = false := by simp; omega
    have hn' : l.length ≤ 1000 := by omega
    clear hn
    go_enter Try.func21, Try.ntmps21
    go_wp2
    go_loopw [9] (fun i wr => ∃ (k : Nat), k ≤ l.length ∧ i = .int .i64 k ∧ (∀ j, j + 1 < k → (l.getD j (0, 0)).1 < (l.getD (j + 1) (0, 0)).1) ∧ ∃ q, wr = w.drewN q) (fun i _ => l.length - (intOf i).toNat)
    case atStart => exact ⟨0, by omega, rfl, fun j hj => by omega, 0, rfl⟩
    case round =>
      obtain ⟨k, hk, rfl, heq, q, rfl⟩ := hrel
      have HE := hide heq
      clear heq
      by_cases hlt : k < l.length
      · rcases hcase with h | ⟨b, off, rfl, hbs, hcell⟩
        · rw [h] at hlt; simp at hlt
        have j0 : (0 : Int) ≤ (k : Int) := by omega
        have j1 : (k : Int) < (l.length : Int) := by omega
        by_cases hk0 : 0 < k
        · obtain ⟨i, hi⟩ : ∃ i, i + 1 = k := ⟨k - 1, by omega⟩
          have g1 := (hcell k hlt).1
          have g0 := (hcell i (by omega)).1
          clear hcell
          have HT := hide (show (∀ x y, (l.getD i (0, 0)).1 = x → (l.getD k (0, 0)).1 = y → y ≤ x → P.chk l = 5) from fun x y hx hy h => P.chk_order hn' (i := i) (by omega) (by rw [hi, hx, hy]; exact h))
          generalize hx : (l.getD i (0, 0)).1 = x at g0
          generalize hy : (l.getD k (0, 0)).1 = y at g1
          have HXx := hide hx
          have HYy := hide hy
          clear hx hy
          have ei : IntKind.i64.wrap ((k : Int) - 1) = (i : Int) := by rw [IntKind.wrap_i64]; omega
          have HI := hide hi
          clear hi hk
          have j2 : (i : Int) < (l.length : Int) := by have := HI.out; omega
          have j3 : (0 : Int) ≤ (i : Int) := by omega
          have j4 : (0 : Int) < (k : Int) := by omega
          by_cases hxy : y ≤ x
          · go_wp2
            go_quiet (fail)
            go_wp2
            go_ret
            exact ⟨ret_int (HT.out x y HXx.out HYy.out hxy).symm, below_dn (below_dn (Below.refl _ _) _) _⟩
          · have ht : decide (y ≤ x) = false := by simpa using hxy
            go_wp2
            go_quiet (fail)
            go_wp2
            go_roundw
            case rel =>
              refine ⟨k + 1, by omega, by go_num, fun j hj => ?_, q + nq, rfl⟩
              rcases Nat.lt_or_ge (j + 1) k with h | h
              · exact HE.out j h
              · have := HI.out
                obtain rfl : j = i := by omega
                rw [this, HXx.out, HYy.out]; omega
            case measure => simp [intOf]; omega
        · clear hcell
          obtain rfl : k = 0 := by omega
          go_wp2
          go_quiet (fail)
          go_wp2
          go_roundw
          case rel => exact ⟨1, by omega, by go_num, fun j hj => by omega, q + nq, rfl⟩
          case measure => simp [intOf]; omega
      · have hd : decide ((k : Int) < (l.length : Int)) = false := by simp; omega
        have HC : Hid (P.chk l = 0) := P.chk_ok hn' (P.ris_of_steps l fun i hi => HE.out i (by omega))
        go_wp2
        go_ret
        exact ⟨ret_int HC.out.symm, below_dn (Below.refl _ _) _⟩
/-- GoodTime. -/
theorem goodTime_any (t : Int) (w : World) : Calls Try.prog 19 #[.int .i64 t] w fun e w' => e = .returned (.bool (decide (-1152921504606846976 ≤ t) && decide (t ≤ 1152921504606846976))) ∧ w' = w := by
  by_cases h : -1152921504606846976 ≤ t
  · have h1 : decide (-1152921504606846976 ≤ t) = true := by simpa using h
    go_enter Try.func19, Try.ntmps19
    go_wp2
    go_ret
    exact ⟨by simp [h], rfl⟩
  · have h1 : decide (-1152921504606846976 ≤ t) = false := by simpa using h
    go_enter Try.func19, Try.ntmps19
    go_wp2
    go_ret
    exact ⟨by simp, rfl⟩
theorem fault_C (v : Value) (l : List (Int × Int)) (w : World) (hr : RowS w v l) : Calls Try.prog 11 #[v] w fun e w' => e = .returned (.int .i64 (P.chkC l)) ∧ Below w.heap.size w w' := by
  have HC := hide (samplesFault_any v l w hr)
  obtain ⟨a, cap, rfl, ⟨hlc, hmax, hnn⟩, hcase⟩ := hr
  unfold maxLen at hmax
  by_cases hc : P.chk l = 0
  · rw [hc] at HC
    have HT := hide (fun j (hj : j < l.length) (h : (l.getD j (0, 0)).2 < 0) => P.chkC_neg hc (P.neg_true hj h))
    have HF := hide (fun h => P.chkC_ok hc (P.neg_false h))
    clear hc
    generalize P.chkC l = c at *
    go_enter Try.func11, Try.ntmps11
    go_wp2_with fail
    refine HC.out.mono ?_
    rintro e w1 ⟨rfl, hb1⟩
    go_wp2
    go_loopw [13] (fun i wr => ∃ (k : Nat), k ≤ l.length ∧ i = .int .i64 k ∧ (∀ j, j < k → 0 ≤ (l.getD j (0, 0)).2) ∧ Below w.heap.size w wr) (fun i _ => l.length - (intOf i).toNat)
    case atStart => exact ⟨0, by omega, rfl, fun j hj => by omega, hb1⟩
    case round =>
      obtain ⟨k, hk, rfl, heq, hB⟩ := hrel
      have HE := hide heq
      clear heq
      have hsz := hB.size
      by_cases hlt : k < l.length
      · rcases hcase with h | ⟨b, off, rfl, hbs, hcell⟩
        · rw [h] at hlt; simp at hlt
        have j0 : (0 : Int) ≤ (k : Int) := by omega
        have j1 : (k : Int) < (l.length : Int) := by omega
        obtain ⟨g0, g1⟩ := hcell k hlt
        replace g0 := (hB.cell (p := ⟨b, off + k * 2, none⟩) hbs).trans g0
        replace g1 := (hB.cell (p := ⟨b, off + k * 2 + 1, none⟩) hbs).trans g1
        have HTk := hide (HT.out k hlt)
        obtain ⟨s, hs⟩ : ∃ s, l.getD k (0, 0) = s := ⟨_, rfl⟩
        have HS := hide hs
        rw [hs] at g0 g1 HTk
        obtain ⟨s0, s1⟩ := s
        simp only at g0 g1 HTk
        clear hcell hs HT
        have hB2 : Below w.heap.size w (wr.alloc (.cells #[.int .i64 s0, .int .i64 s1] 37)) := hB.alloc hsz _
        by_cases h0 : s1 < 0
        · have HA : Hid (c = 6) := HTk.out h0
          clear HTk
          go_wp2
          go_ret
          exact ⟨ret_int HA.out.symm, hB2⟩
        · have hd0 : decide (s1 < 0) = false := by simpa using h0
          clear HTk
          go_wp2
          go_roundw
          case rel =>
            refine ⟨k + 1, by omega, by go_num, fun j hj => ?_, hB2⟩
            rcases Nat.lt_or_ge j k with h | h
            · exact HE.out j h
            · obtain rfl : j = k := by omega
              rw [HS.out]; omega
          case measure => simp [intOf]; omega
      · have hd : decide ((k : Int) < (l.length : Int)) = false := by simp; omega
        have HA : Hid (c = 0) := HF.out fun j hj => HE.out j (by omega)
        go_wp2
        go_ret
        exact ⟨ret_int HA.out.symm, hB⟩
  · rw [P.chkC_bad hc]
    clear hcase
    generalize P.chk l = c at *
    have ht : (c != 0) = true := by simpa using hc
    clear hc
    go_enter Try.func11, Try.ntmps11
    go_wp2_with fail
    refine HC.out.mono ?_
    rintro e w1 ⟨rfl, hb1⟩
    go_wp2
    go_ret
    exact ⟨rfl, hb1⟩
/-- How the loop of GrownBy stands. -/
def GbyAt (l : List (Int × Int)) (i n x : Value) : Prop :=
  ∃ k : Nat, k ≤ l.length ∧ i = .int .i64 k ∧ n = .int .u64 (P.gro l (k - 1)) ∧ x = .int .i64 (P.ane l (k - 1))
theorem GbyAt.next {l : List (Int × Int)} {j k : Nat} (hj : j + 1 = k) (hk : k < l.length) {g a x y g' a' : Int} (hx : (l.getD j (0, 0)).2 = x) (hy : (l.getD k (0, 0)).2 = y) (hg : P.gro l j = g) (ha : P.ane l j = a) (h1 : g' = (g + P.stp x y) % 18446744073709551616) (h2 : a' = a + P.an x y) {i : Value} (hi : i = .int .i64 ((k : Int) + 1)) : GbyAt l i (.int .u64 g') (.int .i64 a') := by
  subst hj hx hy hg ha h1 h2 hi
  refine ⟨j + 1 + 1, by omega, by simp, ?_, ?_⟩
  · rw [Nat.add_sub_cancel, P.gro_succ]
  · rw [Nat.add_sub_cancel]; rfl
theorem grownBy_any (v : Value) (l : List (Int × Int)) (w : World) (hr : RowS w v l) (hi : P.I64s l) (hneg : P.neg l = false) (hln : l.length ≤ 1000) : Calls Try.prog 12 #[v] w fun e w' => e = .returned (.tuple #[.int .u64 (P.gr l), .int .i64 (P.ae l)]) ∧ Below w.heap.size w w' := by
  have HL := hide (P.neg_at hneg)
  have HI := hide hi
  obtain ⟨a, cap, rfl, ⟨hlc, hmax, hnn⟩, hcase⟩ := hr
  unfold maxLen at hmax
  clear hi hneg
  go_enter Try.func12, Try.ntmps12
  go_wp2
  go_loopw [10, 4, 5] (fun i n x wr => GbyAt l i n x ∧ Below w.heap.size w wr) (fun i _ _ _ => l.length - (intOf i).toNat)
  case atStart => exact ⟨⟨0, by omega, rfl, rfl, rfl⟩, Below.refl _ _⟩
  case round =>
    obtain ⟨⟨k, hk, rfl, rfl, rfl⟩, hB⟩ := hrel
    have hsz := hB.size
    by_cases hlt : k < l.length
    · rcases hcase with h | ⟨b, off, rfl, hbs, hcell⟩
      · rw [h] at hlt; simp at hlt
      have j0 : (0 : Int) ≤ (k : Int) := by omega
      have j1 : (k : Int) < (l.length : Int) := by omega
      obtain ⟨g0, g1⟩ := hcell k hlt
      replace g0 := (hB.cell (p := ⟨b, off + k * 2, none⟩) hbs).trans g0
      replace g1 := (hB.cell (p := ⟨b, off + k * 2 + 1, none⟩) hbs).trans g1
      by_cases hk0 : k = 0
      · have HK := hide hk0
        have j4 : ((k : Int) == 0) = true := by rw [beq_iff_eq]; omega
        clear hcell HL HI hk0
        generalize l.getD k (0, 0) = s at *
        obtain ⟨s0, s1⟩ := s
        simp only at g0 g1
        have hB2 : Below w.heap.size w (wr.alloc (.cells #[.int .i64 s0, .int .i64 s1] 37)) := hB.alloc hsz _
        go_wp2
        go_roundw
        case rel => have h0 := HK.out; subst h0; exact ⟨⟨1, by omega, by go_num, rfl, rfl⟩, hB2⟩
        case measure => simp [intOf]; omega
      · obtain ⟨j, hj⟩ : ∃ j, j + 1 = k := ⟨k - 1, by omega⟩
        rw [show k - 1 = j by omega]
        have HJ := hide hj
        have hg1 := P.gro_lo l j
        have hg2 := P.gro_hi l j
        have ha := P.ane_bound l j
        have c0 := (hB.cell (p := ⟨b, off + j * 2 + 1, none⟩) hbs).trans (hcell j (by omega)).2
        clear hcell
        have p1 := HL.out k
        have p0 := HL.out j
        have m1 := (HI.out.at k).2.2
        have m0 := (HI.out.at j).2.2
        have HN := hide (fun x y g a g' a' => GbyAt.next (x := x) (y := y) (g := g) (a := a) (g' := g') (a' := a') HJ.out hlt)
        generalize hx : (l.getD j (0, 0)).2 = x at *
        generalize l.getD k (0, 0) = s at *
        generalize hg : P.gro l j = g at *
        generalize ha' : P.ane l j = an at *
        obtain ⟨s0, y⟩ := s
        simp only at g0 g1 p1 m1 HN
        have ei : IntKind.i64.wrap ((k : Int) - 1) = (j : Int) := by rw [IntKind.wrap_i64]; omega
        clear hx hg ha' hj hk HL HI
        have j2 : (j : Int) < (l.length : Int) := by have := HJ.out; omega
        have j3 : (0 : Int) ≤ (j : Int) := by omega
        have j4 : ((k : Int) == 0) = false := by rw [beq_eq_false_iff_ne]; omega
        have hB2 : Below w.heap.size w (wr.alloc (.cells #[.int .i64 s0, .int .i64 y] 37)) := hB.alloc hsz _
        have q0 := keep_alloc c0 (.cells #[.int .i64 s0, .int .i64 y] 37)
        have q1 : (wr.alloc (.cells #[.int .i64 s0, .int .i64 y] 37)).cell? ⟨wr.heap.size, 1, none⟩ = some (.int .i64 y) := by simp
        by_cases hle : x ≤ y
        · go_wp2
          go_quiet (fail)
          go_wp2
          go_roundw
          case rel => exact ⟨HN.out x y g an _ _ rfl rfl rfl rfl (by unfold P.stp; rw [if_pos hle]; simp only [IntKind.wrap_u64] <;> omega) (by unfold P.an; rw [if_pos hle]; omega) rfl, below_dn hB2 _⟩
          case measure => simp [intOf]; omega
        · have hd : decide (x ≤ y) = false := by simpa using hle
          go_wp2
          go_quiet (fail)
          go_wp2
          go_roundw
          case rel => exact ⟨HN.out x y g an _ _ rfl rfl rfl rfl (by unfold P.stp; rw [if_neg (show ¬ x ≤ y by omega)]; simp only [IntKind.wrap_u64] <;> omega) (by unfold P.an; rw [if_neg (show ¬ x ≤ y by omega)]) rfl, below_dn hB2 _⟩
          case measure => simp [intOf]; omega
    · have hd : decide ((k : Int) < (l.length : Int)) = false := by simp; omega
      have HG : Hid (P.gr l = P.gro l (k - 1)) := by show _ = _; unfold P.gr; rw [show l.length - 1 = k - 1 by omega]
      have HA : Hid (P.ae l = P.ane l (k - 1)) := by show _ = _; unfold P.ae; rw [show l.length - 1 = k - 1 by omega]
      go_wp2
      go_ret2
      exact ⟨by rw [HG.out, HA.out]; rfl, hB⟩
end Go.Proofs.Ytbnolckcjimhdaa
