/- What Merge answers. -/
import Derived.Test.YtlndbmenaaiogaaRankD
namespace Go.Proofs.Ytlndbmenaaiogaa
open Go.RowKit
set_option linter.unusedVariables false
namespace P
/-- How far merging has come, and what is left of it. -/
structure MgR (a b s : Rk) (left : Int) : Prop where
  rel : ∃ N f p, Rel s N f (a.sl + b.sl) p (fun _ => True) ∧ 0 ≤ p ∧ N + left ≤ a.n + b.n
  k : s.k = a.k
theorem MgR.bounds {a b s : Rk} {left : Int} (h : MgR a b s left) (ha : Good a) (hb : Good b) (hk : a.k = b.k) (h0 : 0 ≤ left) : s.lv.length ≤ 21 ∧ s.sl ≤ 2305843009234665472 ∧ s.n ≤ 2097152 * 64 ∧ Mid s := by
  obtain ⟨N, f, p, hr, hp, hN⟩ := h.rel
  have h1 := ha.num
  have h2 := hb.num
  have h3 := ha.1.k64
  have h4 := ha.1.k2
  have h5 := ha.2.2
  have h6 := hb.2.2
  have hsk := h.k
  have hn := hr.n
  have hlv := hr.mid.levels (e := 21) (by rw [hsk, show (2 : Int) ^ 21 = 2097152 by decide]; rw [← hk] at h2; omega)
  have hsl := hr.grown hp hlv (by rw [hsk]; rw [← hk] at h2; omega)
  exact ⟨hlv, by omega, by rw [← hk] at h2; omega, hr.mid⟩
theorem MgR.start {a b : Rk} (ha : Good a) (hb : Good b) : MgR a b ⟨a.k, a.tail, a.lv, a.n, a.sl + b.sl⟩ b.n := by
  refine ⟨⟨a.n, fun x => wtR x a, pot a.lv, ?_, by omega, by omega⟩, rfl⟩
  have hm := ha.1
  have hbs := hb.1.sl
  refine ⟨⟨hm.k2, hm.k64, hm.room, hm.inc, hm.lv, hm.tip, hm.n, by have := hm.sl; simp only; omega⟩, rfl, fun x => ?_, ?_, fun v _ => trivial⟩
  · unfold wtR; simp only; omega
  · simp only; rw [Int.sub_self, Int.mul_zero]; omega
theorem MgR.ca {a b s : Rk} {left : Int} (h : MgR a b s left) (l : List Int) (j : Nat) (hl : Inc l) (hn : (l.length : Int) = s.k) : MgR a b (caU s l j) (left - 2 ^ j * l.length) := by
  obtain ⟨N, f, p, hr, hp, hN⟩ := h.rel
  refine ⟨⟨_, _, _, hr.ca l j hl hn (fun _ _ => trivial), ?_, by omega⟩, h.k⟩
  have h1 : (0 : Int) ≤ (j : Int) * 2 ^ j * l.length := by
    have : ((j : Int) * 2 ^ j * l.length) = ((j * 2 ^ j * l.length : Nat) : Int) := by push_cast; rfl
    rw [this]; omega
  omega
theorem MgR.ad {a b s : Rk} {left : Int} (h : MgR a b s left) (v : Int) : MgR a b (adU s v) (left - 1) := by
  obtain ⟨N, f, p, hr, hp, hN⟩ := h.rel
  exact ⟨⟨_, _, _, hr.ad v trivial, hp, by omega⟩, by rw [adU_k]; exact h.k⟩
theorem cnt_drop {L : List (List Int)} {j : Nat} {l : List Int} (h : L[j]? = some l) : (2 ^ j * cnt (L.drop j) : Nat) = 2 ^ j * l.length + 2 ^ (j + 1) * cnt (L.drop (j + 1)) := by
  have hj : j < L.length := by
    rcases Nat.lt_or_ge j L.length with h' | h'
    · exact h'
    · rw [List.getElem?_eq_none h'] at h; cases h
  have e : L.drop j = l :: L.drop (j + 1) := by
    rw [List.drop_eq_getElem_cons hj]
    rw [List.getElem?_eq_getElem hj] at h
    simp at h; rw [h]
  rw [e, cnt, Nat.mul_add, Nat.pow_succ]
  rw [show 2 ^ j * (2 * cnt (L.drop (j + 1))) = 2 ^ j * 2 * cnt (L.drop (j + 1)) by rw [Nat.mul_assoc]]
theorem cas_drop {s : Rk} {L : List (List Int)} {j : Nat} {l : List Int} (h : L[j]? = some l) : casU s (L.drop j) j = casU (if l = [] then s else caU s l j) (L.drop (j + 1)) (j + 1) := by
  have hj : j < L.length := by
    rcases Nat.lt_or_ge j L.length with h' | h'
    · exact h'
    · rw [List.getElem?_eq_none h'] at h; cases h
  have e : L.drop j = l :: L.drop (j + 1) := by
    rw [List.drop_eq_getElem_cons hj]
    rw [List.getElem?_eq_getElem hj] at h
    simp at h; rw [h]
  rw [e, casU]
theorem ads_drop {s : Rk} {L : List Int} {j : Nat} (hj : j < L.length) : (L.drop j).foldl adU s = (L.drop (j + 1)).foldl adU (adU s (L.getD j 0)) := by
  rw [List.drop_eq_getElem_cons hj, List.foldl_cons]
  simp [List.getD_eq_getElem?_getD, List.getElem?_eq_getElem hj]
end P
/-- How merging stands in memory. -/
structure MgAt (w0 : World) (g base : Nat) (a b : P.Rk) (left : Int) (s : P.Rk) (wr : World) : Prop where
  box : ∃ tv lv, BoxR wr g tv lv s ∧ OwnV wr base tv lv s
  mg : P.MgR a b s left
  below : Below base w0 wr
  size : base ≤ wr.heap.size
theorem boxes3 (w : World) (ta la tb lb : Value) (a b : P.Rk) :
    BoxR (((w.alloc (.cells #[.int .i64 a.k, ta, la, .int .i64 a.n, .int .i64 a.sl] 25)).alloc (.cells #[.int .i64 b.k, tb, lb, .int .i64 b.n, .int .i64 b.sl] 25)).alloc (.cells #[.int .i64 0, .slice none 0 0, .slice none 0 0, .int .i64 0, .int .i64 0] 25)) w.heap.size ta la a ∧ BoxR (((w.alloc (.cells #[.int .i64 a.k, ta, la, .int .i64 a.n, .int .i64 a.sl] 25)).alloc (.cells #[.int .i64 b.k, tb, lb, .int .i64 b.n, .int .i64 b.sl] 25)).alloc (.cells #[.int .i64 0, .slice none 0 0, .slice none 0 0, .int .i64 0, .int .i64 0] 25)) (w.heap.size + 1) tb lb b ∧ BoxR (((w.alloc (.cells #[.int .i64 a.k, ta, la, .int .i64 a.n, .int .i64 a.sl] 25)).alloc (.cells #[.int .i64 b.k, tb, lb, .int .i64 b.n, .int .i64 b.sl] 25)).alloc (.cells #[.int .i64 0, .slice none 0 0, .slice none 0 0, .int .i64 0, .int .i64 0] 25)) (w.heap.size + 2) (.slice none 0 0) (.slice none 0 0) ⟨0, [], [], 0, 0⟩ ∧ Below w.heap.size w (((w.alloc (.cells #[.int .i64 a.k, ta, la, .int .i64 a.n, .int .i64 a.sl] 25)).alloc (.cells #[.int .i64 b.k, tb, lb, .int .i64 b.n, .int .i64 b.sl] 25)).alloc (.cells #[.int .i64 0, .slice none 0 0, .slice none 0 0, .int .i64 0, .int .i64 0] 25)) ∧ (((w.alloc (.cells #[.int .i64 a.k, ta, la, .int .i64 a.n, .int .i64 a.sl] 25)).alloc (.cells #[.int .i64 b.k, tb, lb, .int .i64 b.n, .int .i64 b.sl] 25)).alloc (.cells #[.int .i64 0, .slice none 0 0, .slice none 0 0, .int .i64 0, .int .i64 0] 25)).heap.size = w.heap.size + 3 := by
  have h1 := BoxR.new w ta la a
  have h2 := BoxR.new (w.alloc (.cells #[.int .i64 a.k, ta, la, .int .i64 a.n, .int .i64 a.sl] 25)) tb lb b
  have h3 := BoxR.new ((w.alloc (.cells #[.int .i64 a.k, ta, la, .int .i64 a.n, .int .i64 a.sl] 25)).alloc (.cells #[.int .i64 b.k, tb, lb, .int .i64 b.n, .int .i64 b.sl] 25)) (.slice none 0 0) (.slice none 0 0) ⟨0, [], [], 0, 0⟩
  have b2 := (Below.refl (w.alloc (.cells #[.int .i64 a.k, ta, la, .int .i64 a.n, .int .i64 a.sl] 25)).heap.size (w.alloc (.cells #[.int .i64 a.k, ta, la, .int .i64 a.n, .int .i64 a.sl] 25))).alloc (Nat.le_refl _) (.cells #[.int .i64 b.k, tb, lb, .int .i64 b.n, .int .i64 b.sl] 25)
  have b3 := (Below.refl ((w.alloc (.cells #[.int .i64 a.k, ta, la, .int .i64 a.n, .int .i64 a.sl] 25)).alloc (.cells #[.int .i64 b.k, tb, lb, .int .i64 b.n, .int .i64 b.sl] 25)).heap.size ((w.alloc (.cells #[.int .i64 a.k, ta, la, .int .i64 a.n, .int .i64 a.sl] 25)).alloc (.cells #[.int .i64 b.k, tb, lb, .int .i64 b.n, .int .i64 b.sl] 25))).alloc (Nat.le_refl _) (.cells #[.int .i64 0, .slice none 0 0, .slice none 0 0, .int .i64 0, .int .i64 0] 25)
  refine ⟨(h1.below b2).below b3, ?_, ?_, (((Below.refl _ w).alloc (Nat.le_refl _) _).alloc (by simp) _).alloc (by simp; omega) _, by simp⟩
  · have := h2.below b3; simpa using this
  · simpa using h3
open Classical in
/-- The error that Merge tells of its arguments. -/
noncomputable def P.mgE (a b : P.Rk) : Int := if ¬ P.Good a then 4 else if ¬ P.Good b then 4 else if a.k ≠ b.k then 1 else 0
theorem Merge_err (ta la tb lb : Value) (a b : P.Rk) (w : World) (ha : RkV w ta la a) (hb : RkV w tb lb b) (he : P.mgE a b ≠ 0) :
    Calls Try.prog 16 #[aggR ta la a, aggR tb lb b] w fun e w' => e = .returned (.tuple #[zeroR, .int .i64 (P.mgE a b)]) ∧ Below w.heap.size w w' := by
  have HKa := hide (fun wx (hbx : Below w.heap.size w wx) => check_any ta la a wx (ha.below hbx (Nat.le_refl _)))
  have HKb := hide (fun wx (hbx : Below w.heap.size w wx) => check_any tb lb b wx (hb.below hbx (Nat.le_refl _)))
  obtain ⟨hX1, hX2, hX3, hB, hsz⟩ := boxes3 w ta la tb lb a b
  have HX1 := hide hX1
  have HX2 := hide hX2
  have HX3 := hide hX3
  have HB := hide hB
  obtain ⟨a0, a1, a2, a3, a4⟩ := hX1.cells
  obtain ⟨b0, b1, b2, b3, b4⟩ := hX2.cells
  clear ha hb hX1 hX2 hX3 hB
  by_cases hga : P.Good a
  · rw [P.chkR_ok hga] at HKa
    by_cases hgb : P.Good b
    · rw [P.chkR_ok hgb] at HKb
      by_cases hk : a.k = b.k
      · exact absurd (by unfold P.mgE; rw [if_neg (by simp [hga]), if_neg (by simp [hgb]), if_neg (by simp [hk])]) he
      · have e : P.mgE a b = 1 := by unfold P.mgE; rw [if_neg (by simp [hga]), if_neg (by simp [hgb]), if_pos hk]
        rw [e]
        have hkb : (a.k != b.k) = true := by rw [bne_iff_ne]; exact hk
        clear hga hgb hk e he hsz
        go_enter Try.func16, Try.ntmps16
        go_wp2_with fail
        refine (HKa.out _ HB.out).mono ?_
        rintro e w1 ⟨rfl, hb1⟩
        have y1 := HX1.out.below hb1
        have y2 := HX2.out.below hb1
        have y3 := HX3.out.below hb1
        have HB1 := hide (Below.next HB.out hb1)
        obtain ⟨p0, p1, p2, p3, p4⟩ := y1.cells
        obtain ⟨q0, q1, q2, q3, q4⟩ := y2.cells
        clear a0 a1 a2 a3 a4 b0 b1 b2 b3 b4 hb1 HX1 HX2 HX3 HB
        go_wp2_with fail
        refine (HKb.out _ HB1.out).mono ?_
        rintro e w2 ⟨rfl, hb2⟩
        obtain ⟨a0, a1, a2, a3, a4⟩ := (y1.below hb2).cells
        obtain ⟨b0, b1, b2, b3, b4⟩ := (y2.below hb2).cells
        have z1 := y3.below hb2
        obtain ⟨c0, c1, c2, c3, c4⟩ := z1.cells
        have u0 := z1.unfrozen 0
        have u1 := z1.unfrozen 1
        have u2 := z1.unfrozen 2
        have u3 := z1.unfrozen 3
        have u4 := z1.unfrozen 4
        have z2 := z1.all (.slice none 0 0) (.slice none 0 0) ⟨0, [], [], 0, 0⟩
        have b9 : Below w.heap.size w (setR w2 (w.heap.size + 2) (.slice none 0 0) (.slice none 0 0) ⟨0, [], [], 0, 0⟩) := Below.setR' (Below.next HB1.out hb2) (by omega) _ _ _
        obtain ⟨r0, r1, r2, r3, r4⟩ := z2.cells
        go_wp2
        refine bodyPost_ret (w := setR w2 (w.heap.size + 2) (.slice none 0 0) (.slice none 0 0) ⟨0, [], [], 0, 0⟩) (v := .tuple #[zeroR, .int .i64 1]) ?_ rfl ⟨rfl, b9⟩
        generalize setR w2 (w.heap.size + 2) (.slice none 0 0) (.slice none 0 0) ⟨0, [], [], 0, 0⟩ = wf at *
        simp [results, Try.results16, go_sem, r0, r1, r2, r3, r4]
    · rw [P.chkR_not hgb] at HKb
      have e : P.mgE a b = 4 := by unfold P.mgE; rw [if_neg (by simp [hga]), if_pos hgb]
      rw [e]
      clear hga hgb e he hsz
      go_enter Try.func16, Try.ntmps16
      go_wp2_with fail
      refine (HKa.out _ HB.out).mono ?_
      rintro e w1 ⟨rfl, hb1⟩
      have y1 := HX1.out.below hb1
      have y2 := HX2.out.below hb1
      have y3 := HX3.out.below hb1
      have HB1 := hide (Below.next HB.out hb1)
      obtain ⟨p0, p1, p2, p3, p4⟩ := y1.cells
      obtain ⟨q0, q1, q2, q3, q4⟩ := y2.cells
      clear a0 a1 a2 a3 a4 b0 b1 b2 b3 b4 hb1 HX1 HX2 HX3 HB
      go_wp2_with fail
      refine (HKb.out _ HB1.out).mono ?_
      rintro e w2 ⟨rfl, hb2⟩
      have z1 := y3.below hb2
      obtain ⟨c0, c1, c2, c3, c4⟩ := z1.cells
      have u0 := z1.unfrozen 0
      have u1 := z1.unfrozen 1
      have u2 := z1.unfrozen 2
      have u3 := z1.unfrozen 3
      have u4 := z1.unfrozen 4
      have z2 := z1.all (.slice none 0 0) (.slice none 0 0) ⟨0, [], [], 0, 0⟩
      have b9 : Below w.heap.size w (setR w2 (w.heap.size + 2) (.slice none 0 0) (.slice none 0 0) ⟨0, [], [], 0, 0⟩) := Below.setR' (Below.next HB1.out hb2) (by omega) _ _ _
      obtain ⟨r0, r1, r2, r3, r4⟩ := z2.cells
      go_wp2
      refine bodyPost_ret (w := setR w2 (w.heap.size + 2) (.slice none 0 0) (.slice none 0 0) ⟨0, [], [], 0, 0⟩) (v := .tuple #[zeroR, .int .i64 4]) ?_ rfl ⟨rfl, b9⟩
      generalize setR w2 (w.heap.size + 2) (.slice none 0 0) (.slice none 0 0) ⟨0, [], [], 0, 0⟩ = wf at *
      simp [results, Try.results16, go_sem, r0, r1, r2, r3, r4]
  · rw [P.chkR_not hga] at HKa
    have e : P.mgE a b = 4 := by unfold P.mgE; rw [if_pos hga]
    rw [e]
    clear hga e he hsz
    go_enter Try.func16, Try.ntmps16
    go_wp2_with fail
    refine (HKa.out _ HB.out).mono ?_
    rintro e w2 ⟨rfl, hb2⟩
    have z1 := HX3.out.below hb2
    obtain ⟨c0, c1, c2, c3, c4⟩ := z1.cells
    have u0 := z1.unfrozen 0
    have u1 := z1.unfrozen 1
    have u2 := z1.unfrozen 2
    have u3 := z1.unfrozen 3
    have u4 := z1.unfrozen 4
    have z2 := z1.all (.slice none 0 0) (.slice none 0 0) ⟨0, [], [], 0, 0⟩
    have b9 : Below w.heap.size w (setR w2 (w.heap.size + 2) (.slice none 0 0) (.slice none 0 0) ⟨0, [], [], 0, 0⟩) := Below.setR' (Below.next HB.out hb2) (by omega) _ _ _
    obtain ⟨r0, r1, r2, r3, r4⟩ := z2.cells
    go_wp2
    refine bodyPost_ret (w := setR w2 (w.heap.size + 2) (.slice none 0 0) (.slice none 0 0) ⟨0, [], [], 0, 0⟩) (v := .tuple #[zeroR, .int .i64 4]) ?_ rfl ⟨rfl, b9⟩
    generalize setR w2 (w.heap.size + 2) (.slice none 0 0) (.slice none 0 0) ⟨0, [], [], 0, 0⟩ = wf at *
    simp [results, Try.results16, go_sem, r0, r1, r2, r3, r4]
end Go.Proofs.Ytlndbmenaaiogaa
