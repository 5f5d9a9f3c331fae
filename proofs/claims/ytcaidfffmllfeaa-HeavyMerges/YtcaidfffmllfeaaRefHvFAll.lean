/- Several texts in one. -/
import Derived.Test.YtcaidfffmllfeaaHeavyKAll
/- What the reference's HeavyFault answers (written by wip/mkhf.py). -/
namespace Go.Proofs.Ytcaidfffmllfeaa
open Go.RowKit
set_option linter.unusedVariables false
namespace P
/-- What is asked of a tally ahead of its list. -/
def Fore (s : Hv) : Prop := 1 ≤ s.k ∧ s.k ≤ 64 ∧ (s.l.length : Int) ≤ s.k ∧ 0 ≤ s.n ∧ s.n ≤ 1000000000 ∧ 0 ≤ s.off ∧ s.off ≤ s.n
open Classical in
noncomputable def foreB (s : Hv) : Bool := decide (Fore s)
theorem foreB_yes {s : Hv} (h : Fore s) : foreB s = true := by unfold foreB; simpa using h
theorem foreB_no {s : Hv} (h : ¬ Fore s) : foreB s = false := by unfold foreB; simpa using h
theorem offn {k o n : Int} (hk : 0 ≤ k) (ho : 0 ≤ o) (h : (k + 1) * o ≤ n) : o ≤ n := by
  have : k * o ≥ 0 := Int.mul_nonneg hk ho
  have e : (k + 1) * o = k * o + o := by rw [Int.add_mul]; omega
  omega
theorem Good.fore {s : Hv} (h : Good s) : Fore s := by
  have h1 := tot_nonneg h.ok.pos
  have h2 := h.acc
  have h3 := h.k1
  exact ⟨h.k1, h.k2, h.len, h.n0, h.n1, h.o0, offn (k := s.k) (by omega) h.o0 (n := s.n) (by omega)⟩
/-- So far nothing is wrong: what is left of all that came. -/
structure Fine (s : Hv) (j : Nat) (lf : Int) : Prop where
  fore : Fore s
  sts : ∀ i, i < j → stO s.l i
  left : lf = s.n - tot (s.l.take j)
  pos : 0 ≤ lf
theorem Fine.start {s : Hv} (h : Fore s) : Fine s 0 s.n := ⟨h, fun i hi => by omega, by simp [tot], h.2.2.2.1⟩
theorem Fine.next {s : Hv} {j : Nat} {left : Int} (h : Fine s j left) {x : Ct} (hx : s.l[j]? = some x) (h1 : x.1.size ≤ 40) (h2 : 0 < x.2) (h3 : j = 0 ∨ kl (s.l.getD (j - 1) d0).1 x.1 = true) (h4 : x.2 ≤ left) : Fine s (j + 1) (left - x.2) := by
  have hn := h.fore.2.2.2.2.1
  have hl := h.left
  have ht : 0 ≤ tot (s.l.take j) := by
    refine tot_nonneg fun y hy => ?_
    obtain ⟨i, hi, rfl⟩ := List.getElem_of_mem hy
    have hi2 : i < j := by simp at hi; omega
    have := (h.sts i hi2).1.2.1
    rw [List.getElem_take]
    rwa [at_get (List.getElem?_eq_getElem (by simp at hi; omega))] at this
  refine ⟨h.fore, fun i hi => ?_, by rw [tot_take hx]; omega, by omega⟩
  rcases Nat.lt_or_ge i j with h5 | h5
  · exact h.sts i h5
  · obtain rfl : i = j := by omega
    rw [stO, at_get hx]
    exact ⟨⟨h1, h2, by omega⟩, h3⟩
theorem Good.left {s : Hv} (h : Good s) {j : Nat} {left : Int} (hf : Fine s j left) {x : Ct} (hx : s.l[j]? = some x) : x.2 ≤ left := by
  have h1 := hf.left
  have h2 := tot_take hx
  have h3 := tot_append (s.l.take (j + 1)) (s.l.drop (j + 1))
  rw [List.take_append_drop] at h3
  have h4 := tot_nonneg (l := s.l.drop (j + 1)) (fun y hy => h.ok.pos y (List.mem_of_mem_drop hy))
  have h5 := h.acc
  have h6 : 0 ≤ (s.k + 1) * s.off := Int.mul_nonneg (by have := h.k1; omega) h.o0
  omega
theorem Fine.good {s : Hv} {left : Int} (h : Fine s s.l.length left) (h1 : s.off * (s.k + 1) ≤ left) : Good s := by
  obtain ⟨f1, f2, f3, f4, f5, f6, f7⟩ := h.fore
  have h2 := h.left
  rw [List.take_length] at h2
  refine ⟨f1, f2, f3, okC_of h.sts, f4, f5, f6, by omega, ?_⟩
  rw [Int.mul_comm]; omega
theorem Fine.bad {s : Hv} {left : Int} (h : Fine s s.l.length left) (h1 : ¬ s.off * (s.k + 1) ≤ left) : ¬ Good s := fun hg => by
  have h2 := h.left
  rw [List.take_length] at h2
  have h3 := hg.acc
  rw [Int.mul_comm] at h3
  omega
end P
/-- How the loop of HeavyFault stands. -/
def FaultAt (s : P.Hv) (W0 : World) (i c n : Value) (wr : World) : Prop :=
  ∃ (j : Nat) (cb : Bool) (left : Int), j ≤ s.l.length ∧ i = .int .i64 j ∧ c = .bool cb ∧ n = .int .i64 left ∧ (cb = false ∧ ¬ P.Good s ∧ (-9223372036854775808 ≤ left ∧ left ≤ 9223372036854775807) ∨ cb = true ∧ P.Fine s j left) ∧ Below W0.heap.size W0 wr
set_option maxHeartbeats 4000000 in
set_option maxRecDepth 100000 in
theorem heavyFault_any (v : Value) (s : P.Hv) (w : World) (hr : RowC w v s.l) (hi : HvI s) : Calls Try.prog 13 #[aggH v s] w fun e w' => e = .returned (.int .i64 (P.chkH s)) ∧ Below w.heap.size w w' := by
  obtain ⟨a, cap, rfl, ⟨hlc, hmax, hnn⟩, hcase⟩ := hr
  unfold maxLen at hmax
  have HB := hide ((Below.refl _ w).alloc (Nat.le_refl _) (.cells #[.int .i64 s.k, .slice a s.l.length cap, .int .i64 s.n, .int .i64 s.off] 24))
  obtain ⟨b0, b1, b2, b3⟩ := box4 (w := w) (c0 := .int .i64 s.k) (c1 := .slice a s.l.length cap) (c2 := .int .i64 s.n) (c3 := .int .i64 s.off) (t := 24)
  have hl := hi.l
  have hi1 := hi.n
  clear hi
  go_enter Try.func13, Try.ntmps13
  go_upto_region 1 with fail
  generalize (w.alloc (.cells #[.int .i64 s.k, .slice a s.l.length cap, .int .i64 s.n, .int .i64 s.off] 24)) = W0 at *
  go_cut [3] from 7 to 44 (fun c wc => c = .bool (P.foreB s) ∧ wc = W0)
  case first =>
    by_cases h1 : 1 ≤ s.k
    · have d1 : decide (1 ≤ s.k) = true := by simpa using h1
      by_cases h2 : s.k ≤ 64
      · have d2 : decide (s.k ≤ 64) = true := by simpa using h2
        by_cases h3 : (s.l.length : Int) ≤ s.k
        · have d3 : decide ((s.l.length : Int) ≤ s.k) = true := by simpa using h3
          by_cases h4 : 0 ≤ s.n
          · have d4 : decide (0 ≤ s.n) = true := by simpa using h4
            by_cases h5 : s.n ≤ 1000000000
            · have d5 : decide (s.n ≤ 1000000000) = true := by simpa using h5
              by_cases h6 : 0 ≤ s.off
              · have d6 : decide (0 ≤ s.off) = true := by simpa using h6
                by_cases h7 : s.off ≤ s.n
                · have d7 : decide (s.off ≤ s.n) = true := by simpa using h7
                  have HF := hide (P.foreB_yes (s := s) ⟨h1, h2, h3, h4, h5, h6, h7⟩)
                  clear h1 h2 h3 h4 h5 h6 h7
                  go_wp2
                  go_meet
                  exact ⟨by rw [HF.out], rfl⟩
                · have HF := hide (P.foreB_no (s := s) fun h => h7 h.2.2.2.2.2.2)
                  have d7 : decide (s.off ≤ s.n) = false := by simpa using h7
                  clear h1 h2 h3 h4 h5 h6 h7
                  go_wp2
                  go_meet
                  exact ⟨by rw [HF.out], rfl⟩
              · have HF := hide (P.foreB_no (s := s) fun h => h6 h.2.2.2.2.2.1)
                have d6 : decide (0 ≤ s.off) = false := by simpa using h6
                clear h1 h2 h3 h4 h5 h6
                go_wp2
                go_meet
                exact ⟨by rw [HF.out], rfl⟩
            · have HF := hide (P.foreB_no (s := s) fun h => h5 h.2.2.2.2.1)
              have d5 : decide (s.n ≤ 1000000000) = false := by simpa using h5
              clear h1 h2 h3 h4 h5
              go_wp2
              go_meet
              exact ⟨by rw [HF.out], rfl⟩
          · have HF := hide (P.foreB_no (s := s) fun h => h4 h.2.2.2.1)
            have d4 : decide (0 ≤ s.n) = false := by simpa using h4
            clear h1 h2 h3 h4
            go_wp2
            go_meet
            exact ⟨by rw [HF.out], rfl⟩
        · have HF := hide (P.foreB_no (s := s) fun h => h3 h.2.2.1)
          have d3 : decide ((s.l.length : Int) ≤ s.k) = false := by simpa using h3
          clear h1 h2 h3
          go_wp2
          go_meet
          exact ⟨by rw [HF.out], rfl⟩
      · have HF := hide (P.foreB_no (s := s) fun h => h2 h.2.1)
        have d2 : decide (s.k ≤ 64) = false := by simpa using h2
        clear h1 h2
        go_wp2
        go_meet
        exact ⟨by rw [HF.out], rfl⟩
    · have HF := hide (P.foreB_no (s := s) fun h => h1 h.1)
      have d1 : decide (1 ≤ s.k) = false := by simpa using h1
      clear h1
      go_wp2
      go_meet
      exact ⟨by rw [HF.out], rfl⟩
  case rest =>
    obtain ⟨rfl, rfl⟩ := hcut
    have HSt : Hid (P.foreB s = false ∧ ¬ P.Good s ∧ (-9223372036854775808 ≤ s.n ∧ s.n ≤ 9223372036854775807) ∨ P.foreB s = true ∧ P.Fine s 0 s.n) := by
      by_cases hf : P.Fore s
      · exact .inr ⟨P.foreB_yes hf, P.Fine.start hf⟩
      · exact .inl ⟨P.foreB_no hf, (fun hg => hf hg.fore), hi1⟩
    generalize P.foreB s = fb at *
    go_wp2
    go_loopw [50, 3, 4] (fun i c n wr => FaultAt s wc i c n wr) (fun i _ _ _ => s.l.length - (intOf i).toNat)
    case atStart => exact ⟨0, _, _, by omega, rfl, rfl, rfl, HSt.out, Below.refl _ _⟩
    case round =>
      obtain ⟨j, cb, left, hj, rfl, rfl, rfl, hst, hB⟩ := hrel
      have c0 := keep_cell b0 hB
      have c1 := keep_cell b1 hB
      have c3 := keep_cell b3 hB
      have hBw := Below.next HB.out hB
      by_cases hlt : j < s.l.length
      · rcases hcase with h | ⟨b, off, rfl, hbs, hcell⟩
        · rw [h] at hlt; simp at hlt
        have j0 : (0 : Int) ≤ (j : Int) := by omega
        have j1 : (j : Int) < (s.l.length : Int) := by omega
        obtain ⟨x, hx⟩ : ∃ x, s.l[j]? = some x := ⟨_, List.getElem?_eq_getElem hlt⟩
        obtain ⟨g0, g1⟩ := RowC.at hcell hx
        have q0 := (hBw.cell (p := ⟨b, off + j * 2, none⟩) hbs).trans g0
        have q1 := (hBw.cell (p := ⟨b, off + j * 2 + 1, none⟩) hbs).trans g1
        have hw := hl x (List.mem_of_getElem? hx)
        have HX := hide hx
        have HQ : Hid (∀ i y, s.l[i]? = some y → wr.cell? ⟨b, off + i * 2, none⟩ = some (.string y.1)) := fun i y hy => (hBw.cell (p := ⟨b, off + i * 2, none⟩) hbs).trans (RowC.at hcell hy).1
        obtain ⟨xk, xn⟩ := x
        obtain ⟨hw0, hw1⟩ := hw
        simp only at q0 q1 hw0 hw1
        clear hcell g0 g1 hx
        have hBW := hB.alloc hB.size (.cells #[.string xk, .int .i64 xn] 50)
        have qb : (wr.alloc (.cells #[.string xk, .int .i64 xn] 50)).cell? ⟨wr.heap.size, 0, none⟩ = some (.string xk) := by simp
        have qb1 : (wr.alloc (.cells #[.string xk, .int .i64 xn] 50)).cell? ⟨wr.heap.size, 1, none⟩ = some (.int .i64 xn) := by simp
        have e0 := keep_alloc c0 (.cells #[.string xk, .int .i64 xn] 50)
        have e1 := keep_alloc c1 (.cells #[.string xk, .int .i64 xn] 50)
        have e3 := keep_alloc c3 (.cells #[.string xk, .int .i64 xn] 50)
        rcases hst with ⟨rfl, hng, hleft⟩ | ⟨rfl, hfine⟩
        · have HNG := hide hng
          have HLb := hide hleft
          clear hng hleft HSt HQ HX
          go_wp2
          generalize (wr.alloc (.cells #[.string xk, .int .i64 xn] 50)) = W at *
          go_quiet (fail)
          go_wp2
          go_roundw
          case rel => exact ⟨j + 1, false, left, by omega, by go_num, rfl, rfl, .inl ⟨rfl, HNG.out, HLb.out⟩, below_dn hBW _⟩
          case measure => simp [intOf]; omega
        · have HFi := hide hfine
          have hl0 := hfine.pos
          have hl1 : left ≤ 1000000000 := by
            have h1 := hfine.left
            have h2 := hfine.fore.2.2.2.2.1
            have h3 : 0 ≤ P.tot (s.l.take j) := by
              refine P.tot_nonneg fun y hy => ?_
              obtain ⟨i, hi, rfl⟩ := List.getElem_of_mem hy
              have hi2 : i < j := by simp at hi; omega
              have := (hfine.sts i hi2).1.2.1
              rw [List.getElem_take]
              rwa [P.at_get (List.getElem?_eq_getElem (by simp at hi; omega))] at this
            omega
          have HLb : Hid (-9223372036854775808 ≤ left ∧ left ≤ 9223372036854775807) := ⟨by omega, by omega⟩
          have HGat : Hid (P.Good s → P.stO s.l j) := fun hg => P.okC_at hg.ok j hlt
          clear hfine HSt
          by_cases h1 : xk.size ≤ 40
          · have d1 : decide ((xk.size : Int) ≤ 40) = true := by simp; omega
            by_cases h2 : 0 < xn
            · have d2 : decide (0 < xn) = true := by simpa using h2
              by_cases hk0 : j = 0
              · have HJ0 := hide hk0
                have dk : ((j : Int) == 0) = true := by rw [beq_iff_eq]; omega
                clear hk0 HQ
                by_cases h4 : xn ≤ left
                · have d4 : decide (xn ≤ left) = true := by simpa using h4
                  have HN := hide (HFi.out.next HX.out h1 h2 (.inl HJ0.out) h4)
                  simp only at HN
                  have s0 : 0 ≤ left - xn := by omega
                  have s1 : left - xn ≤ 1000000000 := by omega
                  clear HGat h1 h2
                  go_wp2
                  generalize (wr.alloc (.cells #[.string xk, .int .i64 xn] 50)) = W at *
                  go_quiet (fail)
                  replace qb1 : (W.drewN nq).cell? ⟨wr.heap.size, 1, none⟩ = some (.int .i64 xn) := qb1
                  go_wp2
                  go_roundw
                  case rel => exact ⟨j + 1, true, left - xn, by omega, by go_num, rfl, rfl, .inr ⟨rfl, HN.out⟩, below_dn hBW _⟩
                  case measure => simp [intOf]; omega
                · have d4 : decide (xn ≤ left) = false := by simpa using h4
                  have HNG : Hid (¬ P.Good s) := fun hg => h4 (hg.left HFi.out HX.out)
                  clear HGat h1 h2 h4
                  go_wp2
                  generalize (wr.alloc (.cells #[.string xk, .int .i64 xn] 50)) = W at *
                  go_quiet (fail)
                  go_wp2
                  go_roundw
                  case rel => exact ⟨j + 1, false, left, by omega, by go_num, rfl, rfl, .inl ⟨rfl, HNG.out, HLb.out⟩, below_dn hBW _⟩
                  case measure => simp [intOf]; omega
              · obtain ⟨i, hi⟩ : ∃ i, i + 1 = j := ⟨j - 1, by omega⟩
                have hil : i < s.l.length := by omega
                obtain ⟨y, hy⟩ : ∃ y, s.l[i]? = some y := ⟨_, List.getElem?_eq_getElem hil⟩
                have q2 := HQ.out i y hy
                have HY : Hid (s.l.getD (j - 1) P.d0 = y) := by show _ = _; rw [show j - 1 = i by omega]; exact P.at_get hy
                have qq := keep_alloc q2 (.cells #[.string xk, .int .i64 xn] 50)
                clear HQ hy q2
                obtain ⟨yk, yn⟩ := y
                simp only at qq
                have ei : IntKind.i64.wrap ((j : Int) - 1) = (i : Int) := by rw [IntKind.wrap_i64]; omega
                have j2 : (i : Int) < (s.l.length : Int) := by omega
                have j3 : (0 : Int) ≤ (i : Int) := by omega
                have dk : ((j : Int) == 0) = false := by rw [beq_eq_false_iff_ne]; omega
                have HK0 := hide hk0
                clear hi hk0
                cases hle : P.kl yk xk with
                | true =>
                  have HO : Hid (P.kl (s.l.getD (j - 1) P.d0).1 xk = true) := by show _ = _; rw [HY.out]; exact hle
                  have hle2 : Op.bytesLess yk.toList xk.toList = true := hle
                  clear hle
                  by_cases h4 : xn ≤ left
                  · have d4 : decide (xn ≤ left) = true := by simpa using h4
                    have HN := hide (HFi.out.next HX.out h1 h2 (.inr HO.out) h4)
                    simp only at HN
                    have s0 : 0 ≤ left - xn := by omega
                    have s1 : left - xn ≤ 1000000000 := by omega
                    clear HGat h1 h2
                    go_wp2
                    generalize (wr.alloc (.cells #[.string xk, .int .i64 xn] 50)) = W at *
                    go_quiet (fail)
                    replace qb1 : (W.drewN nq).cell? ⟨wr.heap.size, 1, none⟩ = some (.int .i64 xn) := qb1
                    go_wp2
                    go_roundw
                    case rel => exact ⟨j + 1, true, left - xn, by omega, by go_num, rfl, rfl, .inr ⟨rfl, HN.out⟩, below_dn hBW _⟩
                    case measure => simp [intOf]; omega
                  · have d4 : decide (xn ≤ left) = false := by simpa using h4
                    have HNG : Hid (¬ P.Good s) := fun hg => h4 (hg.left HFi.out HX.out)
                    clear HGat h1 h2 h4
                    go_wp2
                    generalize (wr.alloc (.cells #[.string xk, .int .i64 xn] 50)) = W at *
                    go_quiet (fail)
                    go_wp2
                    go_roundw
                    case rel => exact ⟨j + 1, false, left, by omega, by go_num, rfl, rfl, .inl ⟨rfl, HNG.out, HLb.out⟩, below_dn hBW _⟩
                    case measure => simp [intOf]; omega
                | false =>
                  have hle2 : Op.bytesLess yk.toList xk.toList = false := hle
                  have HNG : Hid (¬ P.Good s) := fun hg => by
                    rcases (HGat.out hg).2 with h | h
                    · exact HK0.out h
                    · rw [HY.out, P.at_get HX.out] at h; simp only at h; rw [hle] at h; cases h
                  clear HGat h1 h2 hle
                  go_wp2
                  generalize (wr.alloc (.cells #[.string xk, .int .i64 xn] 50)) = W at *
                  go_quiet (fail)
                  go_wp2
                  go_roundw
                  case rel => exact ⟨j + 1, false, left, by omega, by go_num, rfl, rfl, .inl ⟨rfl, HNG.out, HLb.out⟩, below_dn hBW _⟩
                  case measure => simp [intOf]; omega
            · have d2 : decide (0 < xn) = false := by simpa using h2
              have HNG : Hid (¬ P.Good s) := fun hg => h2 (by have := (HGat.out hg).1.2.1; rw [P.at_get HX.out] at this; exact this)
              clear HGat h1 h2 HQ
              go_wp2
              generalize (wr.alloc (.cells #[.string xk, .int .i64 xn] 50)) = W at *
              go_quiet (fail)
              go_wp2
              go_roundw
              case rel => exact ⟨j + 1, false, left, by omega, by go_num, rfl, rfl, .inl ⟨rfl, HNG.out, HLb.out⟩, below_dn hBW _⟩
              case measure => simp [intOf]; omega
          · have d1 : decide ((xk.size : Int) ≤ 40) = false := by simp; omega
            have HNG : Hid (¬ P.Good s) := fun hg => h1 (by have := (HGat.out hg).1.1; rw [P.at_get HX.out] at this; exact this)
            clear HGat h1 HQ
            go_wp2
            generalize (wr.alloc (.cells #[.string xk, .int .i64 xn] 50)) = W at *
            go_quiet (fail)
            go_wp2
            go_roundw
            case rel => exact ⟨j + 1, false, left, by omega, by go_num, rfl, rfl, .inl ⟨rfl, HNG.out, HLb.out⟩, below_dn hBW _⟩
            case measure => simp [intOf]; omega
      · have hd2 : decide ((j : Int) < (s.l.length : Int)) = false := by simp; omega
        obtain rfl : j = s.l.length := by omega
        rcases hst with ⟨rfl, hng, hleft⟩ | ⟨rfl, hfine⟩
        · have HE := hide (P.chkH_not hng)
          clear hng HSt
          go_wp2
          go_ret
          exact ⟨by rw [HE.out]; rfl, hBw⟩
        · have f1 := hfine.fore.1
          have f2 := hfine.fore.2.1
          have f3 := hfine.fore.2.2.2.2.2.1
          have f4 : s.off ≤ 1000000000 := by have := hfine.fore.2.2.2.2.1; have := hfine.fore.2.2.2.2.2.2; omega
          have hm0 : IntKind.i64.wrap (s.k + 1) = s.k + 1 := by rw [IntKind.wrap_i64]; omega
          have p0 : 0 ≤ s.off * (s.k + 1) := Int.mul_nonneg f3 (by omega)
          have p1 : s.off * (s.k + 1) ≤ 1000000000 * 65 := Int.mul_le_mul f4 (by omega) (by omega) (by omega)
          by_cases hn : s.off * (s.k + 1) ≤ left
          · have HE := hide (P.chkH_ok (hfine.good hn))
            generalize hpr : s.off * (s.k + 1) = pr at *
            have e5 : decide (left < pr) = false := by simpa using hn
            clear hfine hn HSt
            go_wp2
            go_ret
            exact ⟨by rw [HE.out]; rfl, hBw⟩
          · have HE := hide (P.chkH_not (hfine.bad hn))
            generalize hpr : s.off * (s.k + 1) = pr at *
            have e5 : decide (left < pr) = true := by simp; omega
            clear hfine hn HSt
            go_wp2
            go_ret
            exact ⟨by rw [HE.out]; rfl, hBw⟩
end Go.Proofs.Ytcaidfffmllfeaa
