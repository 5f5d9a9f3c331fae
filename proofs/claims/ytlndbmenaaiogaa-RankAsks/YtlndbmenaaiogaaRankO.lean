/- What Query answers. -/
import Derived.Test.YtlndbmenaaiogaaRankW
import Derived.Test.YtlndbmenaaiogaaKitA
namespace Go.Proofs.Ytlndbmenaaiogaa
open Go.RowKit
set_option linter.unusedVariables false
namespace P
open Classical in
/-- The error that Query tells. -/
noncomputable def qE (s : Rk) (r : Int) : Int := if ¬ Good s then 4 else if s.n = 0 then 7 else if r < 1 ∨ s.n < r then 6 else 0
theorem qE_ok {s : Rk} {r : Int} (hg : Good s) (h1 : 1 ≤ r) (h2 : r ≤ s.n) : qE s r = 0 := by
  unfold qE; rw [if_neg (by simp [hg]), if_neg (by omega), if_neg (by omega)]
theorem qE_zero {s : Rk} {r : Int} (h : qE s r = 0) : Good s ∧ 1 ≤ r ∧ r ≤ s.n := by
  unfold qE at h
  split at h
  · cases h
  · rename_i hg
    split at h
    · cases h
    · split at h
      · cases h
      · exact ⟨by simpa using hg, by omega, by omega⟩
/-- The first number of those in order that weighs so much is what stands at the rank. -/
theorem isQ_at {s : Rk} (hs : Mid s) {r : Int} {k : Nat} (hk : k < (srt (kept s)).length) (h0 : ∀ j, j < k → ¬ r ≤ wtR ((srt (kept s)).getD j 0) s) (h1 : r ≤ wtR ((srt (kept s)).getD k 0) s) : IsQ s r ((srt (kept s)).getD k 0) := by
  have hm : (srt (kept s)).getD k 0 ∈ kept s := by
    rw [← mem_srt, List.getD_eq_getElem?_getD, List.getElem?_eq_getElem hk]; simp
  refine ⟨hm, h1, fun y hy hr => ?_⟩
  obtain ⟨j, hj, rfl⟩ := List.mem_iff_getElem.1 (mem_srt.2 hy)
  have e : (srt (kept s)).getD j 0 = (srt (kept s))[j] := by simp [List.getD_eq_getElem?_getD, List.getElem?_eq_getElem hj]
  rcases Nat.lt_or_ge j k with h | h
  · exact absurd (by rw [e]; exact hr) (h0 j h)
  · rw [← e]
    rcases Nat.lt_or_ge k j with h2 | h2
    · exact inc_at (srt_inc _) h2 hj
    · obtain rfl : j = k := by omega
      exact Int.le_refl _
theorem kept_len {s : Rk} (hg : Good s) : (kept s).length ≤ 2000 := by
  have h1 : ∀ (L : List (List Int)), (∀ l ∈ L, l.length ≤ 64) → L.flatten.length ≤ L.length * 64 := by
    intro L
    induction L with
    | nil => intro _; simp
    | cons l r ih =>
      intro h
      have := ih fun m hm => h m (by simp [hm])
      have := h l (by simp)
      rw [List.flatten_cons, List.length_append, List.length_cons]; omega
  have h2 := h1 s.lv fun l hl => by have := (hg.1.lv l hl).2; have := hg.1.k64; omega
  have h3 := hg.1.room
  have h4 := hg.1.k64
  have h5 := hg.2.1
  unfold kept; rw [List.length_append]; omega
/-- Some number of those that are kept weighs all. -/
theorem some_all {s : Rk} (hs : Mid s) {r : Int} (h1 : 1 ≤ r) (h2 : r ≤ s.n) : ∃ y ∈ kept s, r ≤ wtR y s := by
  obtain ⟨y, hy⟩ : ∃ y, ∀ v ∈ kept s, v ≤ y := by
    by_cases h : kept s = []
    · exact ⟨0, fun v hv => by rw [h] at hv; cases hv⟩
    · obtain ⟨m, _, hm⟩ := list_max _ h; exact ⟨m, hm⟩
  have h3 := wtR_all hs (x := y) hy
  obtain ⟨z, hz1, _, hz3⟩ := wtR_kept (s := s) (z := y) (by omega)
  exact ⟨z, hz1, by omega⟩
end P

set_option maxHeartbeats 1000000 in
/-- The closure of Query. -/
theorem query1 (tv lv nv : Value) (s : P.Rk) (nums : List Int) (r : Int) (i b1 b2 b3 : Nat) (w : World) (hr : RkV w tv lv s) (hg : P.Good s) (hn : RowK .i64 w nv nums) (hi : i < nums.length)
    (h0 : w.cell? ⟨b1, 0, none⟩ = some (.int .i64 s.k)) (h1 : w.cell? ⟨b1, 1, none⟩ = some tv) (h2 : w.cell? ⟨b1, 2, none⟩ = some lv) (h3 : w.cell? ⟨b1, 3, none⟩ = some (.int .i64 s.n)) (h4 : w.cell? ⟨b1, 4, none⟩ = some (.int .i64 s.sl))
    (h5 : w.cell? ⟨b2, 0, none⟩ = some nv) (h6 : w.cell? ⟨b3, 0, none⟩ = some (.int .i64 r)) :
    Calls Try.prog 44 #[.int .i64 i, .pointer (some ⟨b1, 0, none⟩), .pointer (some ⟨b2, 0, none⟩), .pointer (some ⟨b3, 0, none⟩)] w fun e w' => e = .returned (.bool (decide (r ≤ (P.wtR (nums.getD i 0) s : Nat)))) ∧ Below w.heap.size w w' := by
  have HW := hide (fun wx (hb : Below w.heap.size w wx) => weight_any tv lv s (nums.getD i 0) wx (hr.below hb (Nat.le_refl _)) hg)
  obtain ⟨a, cap, rfl, ⟨hlc, hmax, hnn⟩, hcase⟩ := hn
  unfold maxLen at hmax
  rcases hcase with h | ⟨b, off, rfl, hbs, hcell⟩
  · rw [h] at hi; simp at hi
  have h7 := hcell i hi
  clear hcell
  generalize nums.getD i 0 = x at *
  generalize P.wtR x s = u at *
  have j0 : (0 : Int) ≤ (i : Int) := by omega
  have j1 : (i : Int) < (nums.length : Int) := by omega
  have hB0 := (Below.refl w.heap.size w).drew
  clear hr hg hnn
  obtain ⟨k, t, L, n, sl⟩ := s
  simp only at *
  have x0 : w.drew.cell? ⟨b1, 0, none⟩ = some (.int .i64 k) := h0
  have x1 : w.drew.cell? ⟨b1, 1, none⟩ = some tv := h1
  have x2 : w.drew.cell? ⟨b1, 2, none⟩ = some lv := h2
  have x3 : w.drew.cell? ⟨b1, 3, none⟩ = some (.int .i64 n) := h3
  have x4 : w.drew.cell? ⟨b1, 4, none⟩ = some (.int .i64 sl) := h4
  have x5 : w.drew.cell? ⟨b2, 0, none⟩ = some (.slice (some ⟨b, off, none⟩) nums.length cap) := h5
  have x6 : w.drew.cell? ⟨b3, 0, none⟩ = some (.int .i64 r) := h6
  have x7 : w.drew.cell? ⟨b, off + i, none⟩ = some (.int .i64 x) := h7
  go_enter Try.func44, Try.ntmps44
  go_wp2
  go_region_held3 (fun wx => wx.cell? ⟨b1, 0, none⟩ = some (.int .i64 k) ∧ wx.cell? ⟨b1, 1, none⟩ = some tv ∧ wx.cell? ⟨b1, 2, none⟩ = some lv ∧ wx.cell? ⟨b1, 3, none⟩ = some (.int .i64 n) ∧ wx.cell? ⟨b1, 4, none⟩ = some (.int .i64 sl) ∧ wx.cell? ⟨b2, 0, none⟩ = some (.slice (some ⟨b, off, none⟩) nums.length cap) ∧ wx.cell? ⟨b3, 0, none⟩ = some (.int .i64 r) ∧ wx.cell? ⟨b, off + i, none⟩ = some (.int .i64 x)) (refine ⟨?_, ?_, ?_, ?_, ?_, ?_, ?_, ?_⟩ <;> with_reducible assumption) (first
    | (go_at_call 40; refine (HW.out _ hB0).mono ?_; rintro e w2 ⟨rfl, hb2⟩; have hB2 := Below.next hB0 hb2; have y0 := keep_cell x0 hb2; have y1 := keep_cell x1 hb2; have y2 := keep_cell x2 hb2; have y3 := keep_cell x3 hb2; have y4 := keep_cell x4 hb2; have y5 := keep_cell x5 hb2; have y6 := keep_cell x6 hb2; have y7 := keep_cell x7 hb2; clear hb2))
  go_wp2
  go_ret
  exact ⟨rfl, hB2⟩
theorem Query_err (tv lv : Value) (s : P.Rk) (r : Int) (w : World) (hr : RkV w tv lv s) (h : P.qE s r ≠ 0) :
    Calls Try.prog 19 #[aggR tv lv s, .int .i64 r] w fun e w' => e = .returned (.tuple #[.int .i64 0, .int .i64 (P.qE s r)]) ∧ Below w.heap.size w w' := by
  have HK := hide (fun wx (hb : Below w.heap.size w wx) => check_any tv lv s wx (hr.below hb (Nat.le_refl _)))
  have HB : Hid (Below w.heap.size w ((w.alloc (.cells #[.int .i64 s.k, tv, lv, .int .i64 s.n, .int .i64 s.sl] 25)).alloc (.cells #[.int .i64 r] 2))) := ((Below.refl _ w).alloc (Nat.le_refl _) _).alloc (by simp) _
  obtain ⟨b0, b1, b2, b3, b4⟩ := box5 (w := w) (c0 := .int .i64 s.k) (c1 := tv) (c2 := lv) (c3 := .int .i64 s.n) (c4 := .int .i64 s.sl) (t := 25)
  replace b3 := keep_alloc b3 (.cells #[.int .i64 r] 2)
  have b5 : ((w.alloc (.cells #[.int .i64 s.k, tv, lv, .int .i64 s.n, .int .i64 s.sl] 25)).alloc (.cells #[.int .i64 r] 2)).cell? ⟨w.heap.size + 1, 0, none⟩ = some (.int .i64 r) := by simp
  by_cases hg : P.Good s
  · rw [P.chkR_ok hg] at HK
    by_cases hn : s.n = 0
    · have e : P.qE s r = 7 := by unfold P.qE; rw [if_neg (by simp [hg]), if_pos hn]
      rw [e]
      have hd : (s.n == 0) = true := by rw [beq_iff_eq]; exact hn
      clear hr h hg hn e
      go_enter Try.func19, Try.ntmps19
      go_wp2_with (go_at_call 13; go_must (refine (HK.out _ HB.out).mono ?_); rintro e w1 ⟨rfl, hb1⟩; have HB1 := hide (Below.next HB.out hb1); have d3 := keep_cell b3 hb1; have d5 := keep_cell b5 hb1; clear hb1)
      go_ret2
      exact ⟨rfl, HB1.out⟩
    · have hr6 : r < 1 ∨ s.n < r := Classical.byContradiction fun hc => h (P.qE_ok hg (by omega) (by omega))
      have e : P.qE s r = 6 := by unfold P.qE; rw [if_neg (by simp [hg]), if_neg hn, if_pos hr6]
      rw [e]
      have hd : (s.n == 0) = false := by rw [beq_eq_false_iff_ne]; exact hn
      clear hr h hg hn e
      by_cases h1 : r < 1
      · clear hr6
        go_enter Try.func19, Try.ntmps19
        go_wp2_with (go_at_call 13; go_must (refine (HK.out _ HB.out).mono ?_); rintro e w1 ⟨rfl, hb1⟩; have HB1 := hide (Below.next HB.out hb1); have d3 := keep_cell b3 hb1; have d5 := keep_cell b5 hb1; clear hb1)
        go_ret2
        exact ⟨rfl, HB1.out⟩
      · have hd1 : decide (r < 1) = false := by simpa using h1
        have hd2 : decide (s.n < r) = true := by simp; omega
        clear hr6 h1
        go_enter Try.func19, Try.ntmps19
        go_wp2_with (go_at_call 13; go_must (refine (HK.out _ HB.out).mono ?_); rintro e w1 ⟨rfl, hb1⟩; have HB1 := hide (Below.next HB.out hb1); have d3 := keep_cell b3 hb1; have d5 := keep_cell b5 hb1; clear hb1)
        go_ret2
        exact ⟨rfl, HB1.out⟩
  · rw [P.chkR_not hg] at HK
    have e : P.qE s r = 4 := by unfold P.qE; rw [if_pos hg]
    rw [e]
    clear hr h hg e
    go_enter Try.func19, Try.ntmps19
    go_wp2_with (go_at_call 13; go_must (refine (HK.out _ HB.out).mono ?_); rintro e w1 ⟨rfl, hb1⟩; have HB1 := hide (Below.next HB.out hb1); have d3 := keep_cell b3 hb1; have d5 := keep_cell b5 hb1; clear hb1)
    go_ret2
    exact ⟨rfl, HB1.out⟩
end Go.Proofs.Ytlndbmenaaiogaa
