/- What Query answers where nothing is wrong. -/
import Derived.Test.YtlndbmenaaiogaaRankO
namespace Go.Proofs.Ytlndbmenaaiogaa
open Go.RowKit
set_option linter.unusedVariables false
/-- A box of one slice. -/
def Bx (w : World) (p : Nat) (u : Value) : Prop := w.heap[p]? = some (.cells #[u] 22 (0, 0))
theorem Bx.cell {w : World} {p : Nat} {u : Value} (h : Bx w p u) : w.cell? ⟨p, 0, none⟩ = some u := by unfold Bx at h; simp [World.cell?, h]
theorem Bx.unfrozen {w : World} {p : Nat} {u : Value} (h : Bx w p u) : w.frozen? ⟨p, 0, none⟩ = false := by unfold Bx at h; simp [World.frozen?, h]
theorem Bx.lt {w : World} {p : Nat} {u : Value} (h : Bx w p u) : p < w.heap.size := (Array.getElem?_eq_some_iff.1 h).1
theorem Bx.new (w : World) (u : Value) : Bx (w.alloc (.cells #[u] 22)) w.heap.size u := heap_alloc_new w _
theorem Bx.newd (w : World) (u : Value) : Bx (w.alloc (.cells #[u] 22)).drew w.heap.size u := heap_alloc_new w _
theorem Bx.below {w w' : World} {p : Nat} {u : Value} (h : Bx w p u) (hb : Below w.heap.size w w') : Bx w' p u := (hb.block p h.lt).trans h
theorem Bx.grown {w w' : World} {p : Nat} {u : Value} {row : Option Nat} (h : Bx w p u) (hg : w.grownBy w' row) (hne : row ≠ some p) : Bx w' p u := (hg.block p h.lt (fun e => hne (by rw [e]))).trans h
theorem Bx.ne {w : World} {p b : Nat} {u v : Value} {l : List Int} (h : Bx w p u) (ho : OwnI w b v l) : v.ownBlock ≠ some p := by
  rcases ho.2 with ⟨rfl, _⟩ | ⟨g, cap, cur, rfl, _, hg, _⟩
  · simp [Value.ownBlock]
  · intro e
    simp [Value.ownBlock] at e
    subst e
    unfold Bx at h
    rw [h] at hg
    simp at hg
theorem Bx.set {w : World} {p : Nat} {u : Value} (h : Bx w p u) (u' : Value) : Bx (w.setCell ⟨p, 0, none⟩ u') p u' := by
  unfold Bx at h ⊢
  rw [heap_setCell_same w p 0 _ _ _ h]; simp
theorem OwnI.setBox {w : World} {p b : Nat} {u v : Value} {l : List Int} (ho : OwnI w b v l) (h : Bx w p u) (u' : Value) : OwnI (w.setCell ⟨p, 0, none⟩ u') b v l :=
  OwnK.keep ho (row := some p) ⟨rfl, rfl, rfl, by simp, fun k _ hne => heap_setCell_other w ⟨p, 0, none⟩ k u' (fun e => hne (by rw [e]))⟩ (.inr (h.ne ho))
theorem qkit {B : Nat} {w0 w1 wc w2 : World} {v2 tv : Value} {l t : List Int} (hBc : Below B w1 wc) (hBs : B ≤ wc.heap.size) (own2 : OwnI w2 wc.heap.size v2 l) (hb2 : Below wc.heap.size wc w2) (HT : ∀ wx, Below w0.heap.size w0 wx → RowK .i64 wx tv t) (HB1 : Below w0.heap.size w0 w1) (hB0 : w0.heap.size ≤ B := by omega) :
    ∀ wx, Below w2.heap.size w2 wx → OwnI wx B v2 l ∧ RowK .i64 wx tv t ∧ Below B w1 wx ∧ B ≤ wx.heap.size := by
  intro wx hb
  have h1 : Below B w1 w2 := hBc.trans (hb2.mono hBs)
  have h2 : Below B w1 wx := h1.trans (hb.mono (Nat.le_trans hBs hb2.size))
  exact ⟨(OwnK.base own2 hBs).below hb (Nat.le_refl _), HT _ (HB1.trans (h2.mono hB0)), h2, Nat.le_trans (Nat.le_trans hBs hb2.size) hb.size⟩
set_option maxRecDepth 100000 in
set_option maxHeartbeats 1000000 in
theorem Query_ok (tv lv : Value) (s : P.Rk) (r : Int) (w : World) (hr : RkV w tv lv s) (hg : P.Good s) (r1 : 1 ≤ r) (r2 : r ≤ s.n) :
    Calls Try.prog 19 #[aggR tv lv s, .int .i64 r] w fun e w' => ∃ x, e = .returned (.tuple #[.int .i64 x, .int .i64 0]) ∧ P.IsQ s r x ∧ Below w.heap.size w w' := by
  have HK := hide (fun wx (hb : Below w.heap.size w wx) => check_any tv lv s wx (hr.below hb (Nat.le_refl _)))
  rw [P.chkR_ok hg] at HK
  have hkl := P.kept_len hg
  have hfl : (flt s.lv).length + s.tail.length ≤ 2000 := by unfold flt; unfold P.kept at hkl; rw [List.length_append] at hkl; exact hkl
  have HCt := hide (fun wx (hb : Below w.heap.size w wx) => concat_any lv s.lv wx (by have := hg.2.1; omega) (hr.below hb (Nat.le_refl _)).lv (by omega))
  have HTl := hide (fun wx (hb : Below w.heap.size w wx) => (hr.below hb (Nat.le_refl _)).tail)
  have HB : Hid (Below w.heap.size w ((w.alloc (.cells #[.int .i64 s.k, tv, lv, .int .i64 s.n, .int .i64 s.sl] 25)).alloc (.cells #[.int .i64 r] 2))) := ((Below.refl _ w).alloc (Nat.le_refl _) _).alloc (by simp) _
  obtain ⟨b0, b1, b2, b3, b4⟩ := box5 (w := w) (c0 := .int .i64 s.k) (c1 := tv) (c2 := lv) (c3 := .int .i64 s.n) (c4 := .int .i64 s.sl) (t := 25)
  replace b0 := keep_alloc b0 (.cells #[.int .i64 r] 2)
  replace b1 := keep_alloc b1 (.cells #[.int .i64 r] 2)
  replace b2 := keep_alloc b2 (.cells #[.int .i64 r] 2)
  replace b3 := keep_alloc b3 (.cells #[.int .i64 r] 2)
  replace b4 := keep_alloc b4 (.cells #[.int .i64 r] 2)
  have b5 : ((w.alloc (.cells #[.int .i64 s.k, tv, lv, .int .i64 s.n, .int .i64 s.sl] 25)).alloc (.cells #[.int .i64 r] 2)).cell? ⟨w.heap.size + 1, 0, none⟩ = some (.int .i64 r) := by simp
  have hd : (s.n == 0) = false := by rw [beq_eq_false_iff_ne]; omega
  have hd1 : decide (r < 1) = false := by simp; omega
  have hd2 : decide (s.n < r) = false := by simp; omega
  have hs0 : w.heap.size + 2 ≤ ((w.alloc (.cells #[.int .i64 s.k, tv, lv, .int .i64 s.n, .int .i64 s.sl] 25)).alloc (.cells #[.int .i64 r] 2)).heap.size := by simp
  have R2 := hide r2
  clear r2 hkl
  go_enter Try.func19, Try.ntmps19
  go_wp2_with (go_at_call 13; go_must (refine (HK.out _ HB.out).mono ?_); rintro e w1 ⟨rfl, hb1⟩; have HB1 := hide (Below.next HB.out hb1); have d0 := keep_cell b0 hb1; have d1 := keep_cell b1 hb1; have d2 := keep_cell b2 hb1; have d3 := keep_cell b3 hb1; have d4 := keep_cell b4 hb1; have d5 := keep_cell b5 hb1; have hs1 : w.heap.size + 2 ≤ w1.heap.size := Nat.le_trans hs0 hb1.size; clear hb1)
  clear b0 b1 b2 b3 b4 b5 hs0
  have x1 : w1.drew.cell? ⟨w.heap.size, 1, none⟩ = some tv := d1
  have x2 : w1.drew.cell? ⟨w.heap.size, 2, none⟩ = some lv := d2
  have hB1d : Below (w.heap.size + 2) w1 w1.drew := (Below.refl _ _).drew
  obtain ⟨nums, hnums⟩ : ∃ nums, nums = flt s.lv ++ s.tail := ⟨_, rfl⟩
  have HNn := hide hnums
  clear hnums
  go_region_held3 (fun wx => wx.cell? ⟨w.heap.size, 1, none⟩ = some tv ∧ wx.cell? ⟨w.heap.size, 2, none⟩ = some lv) (first | (refine ⟨?_, ?_⟩ <;> with_reducible assumption) | (refine ⟨keep_alloc ‹_› _, keep_alloc ‹_› _⟩) | exact ⟨keep_alloc d1 _, keep_alloc d2 _⟩ | (refine ⟨(World.cell?_setCell_other _ _ _ _ (by first | (simp; done) | (simp; omega))).trans ‹_›, (World.cell?_setCell_other _ _ _ _ (by first | (simp; done) | (simp; omega))).trans ‹_›⟩)) (first
    | (refine step_appI rfl (.tmp 27) (.tmp 29) rfl (w.heap.size + 2) (w.heap.size + 2) w1 _ v2 tv (flt s.lv) s.tail (HA.out _ (by first | exact Below.refl _ _ | exact (Below.refl _ _).alloc (Nat.le_refl _) _)).1 (HA.out _ (by first | exact Below.refl _ _ | exact (Below.refl _ _).alloc (Nat.le_refl _) _)).2.1 (HA.out _ (by first | exact Below.refl _ _ | exact (Below.refl _ _).alloc (Nat.le_refl _) _)).2.2.1 (Nat.le_refl _) rfl rfl (by omega) (HA.out _ (by first | exact Below.refl _ _ | exact (Below.refl _ _).alloc (Nat.le_refl _) _)).2.2.2 ?_; intro v3 w3 own3 hb3 hs3 hg3; rw [← HNn.out] at own3; have y1 := (hb3.cell (p := ⟨w.heap.size, 1, none⟩) (show w.heap.size < w.heap.size + 2 by omega)).trans d1; have y2 := (hb3.cell (p := ⟨w.heap.size, 2, none⟩) (show w.heap.size < w.heap.size + 2 by omega)).trans d2; obtain ⟨a3, c3, rfl⟩ := OwnK.shape own3; first | (have hz := Bx.grown hbx hg3 (Bx.ne hbx own2); have z := hz.cell; have zf := hz.unfrozen) | (have hz := Bx.grown (Bx.new w2 (.slice none 0 0)) hg3 (Bx.ne (Bx.new w2 (.slice none 0 0)) (World.ownsRow.alloc own2 _)); have z := hz.cell; have zf := hz.unfrozen) | (have z := (Bx.new w3 (.slice none 0 0)).cell; have zf := (Bx.new w3 (.slice none 0 0)).unfrozen))
    | (go_at_call 41; refine (HCt.out _ (by first | exact HB1.out.drew | exact (HB1.out.alloc (by omega) _).drew)).mono ?_; rintro e w2 ⟨v2, rfl, own2, hb2⟩; have y1 := keep_cell (a := ⟨w.heap.size, 1, none⟩) (v := tv) (by first | assumption | exact keep_alloc d1 _) hb2; have y2 := keep_cell (a := ⟨w.heap.size, 2, none⟩) (v := lv) (by first | assumption | exact keep_alloc d2 _) hb2; have HA := hide (qkit (B := w.heap.size + 2) (w0 := w) (w1 := w1) (by first | exact hB1d | exact ((Below.refl (w.heap.size + 2) w1).alloc hs1 _).drew) (by first | exact hs1 | (show w.heap.size + 2 ≤ (World.alloc w1 _).heap.size; simp; omega)) own2 hb2 HTl.out HB1.out); first | have hbx := Bx.below (Bx.newd w1 (.slice none 0 0)) hb2 | skip))
  all_goals have hs3' : w.heap.size + 2 ≤ w3.heap.size := Nat.le_trans hs1 hb3.size
  all_goals first
    | (have zz : (w3.alloc (.cells #[.slice none 0 0] 22)).cell? ⟨w3.heap.size, 0, none⟩ = some (.slice none 0 0) := by with_reducible exact z
       have hBx := Bx.new w3 (.slice a3 nums.length c3); have hOw : OwnI (w3.alloc (.cells #[.slice a3 nums.length c3] 22)) (w.heap.size + 2) (.slice a3 nums.length c3) nums := World.ownsRow.alloc own3 _
       have hBe : Below (w.heap.size + 2) w1 (w3.alloc (.cells #[.slice a3 nums.length c3] 22)) := hb3.alloc hs3' _
       generalize (w3.alloc (.cells #[.slice a3 nums.length c3] 22)) = wf at *)
    | (have hzz : Bx w3 w1.heap.size (.slice none 0 0) := by with_reducible exact hz
       have hBx := hz.set (.slice a3 nums.length c3); have hOw := OwnI.setBox own3 hz (.slice a3 nums.length c3)
       have hBe : Below (w.heap.size + 2) w1 (w3.setCell ⟨w1.heap.size, 0, none⟩ (.slice a3 nums.length c3)) := hb3.setCell hs1 _
       generalize w3.setCell ⟨w1.heap.size, 0, none⟩ (.slice a3 nums.length c3) = wf at *)
    | (have hBx := hz.set (.slice a3 nums.length c3); have hOw := OwnI.setBox own3 hz (.slice a3 nums.length c3)
       have hBe : Below (w.heap.size + 2) w1 (w3.setCell ⟨w2.heap.size, 0, none⟩ (.slice a3 nums.length c3)) := hb3.setCell (HA.out _ (Below.refl _ _)).2.2.2 _
       generalize w3.setCell ⟨w2.heap.size, 0, none⟩ (.slice a3 nums.length c3) = wf at *)
  all_goals
    have hnl : nums.length ≤ 2000 := by rw [HNn.out, List.length_append]; exact hfl
    have q := hBx.cell
    have hne := hBx.ne hOw
    have HBx := hide hBx
    have HBe := hide hBe
    have HOw := hide hOw
    have hwf := Nat.le_trans hs1 hBe.size
    clear hBx hBe hOw own3 hb3 hs3 hg3 y1 y2 own2 hb2 HA hfl
    go_wp2_with (go_at_call 42; go_must (refine (sort_own _ (w.heap.size + 2) _ nums HOw.out (by omega)).mono ?_); rintro e w4 ⟨rfl, hOw4, hg4⟩; have hBx4 := HBx.out.grown hg4 hne; have q4 := hBx4.cell)
    have hBe4 : Below (w.heap.size + 2) w1 w4 := HBe.out.grown hg4 hwf (fun k hk => (HOw.out.lt k hk).1)
    have f0 := (hBe4.cell (p := ⟨w.heap.size, 0, none⟩) (show w.heap.size < w.heap.size + 2 by omega)).trans d0
    have f1 := (hBe4.cell (p := ⟨w.heap.size, 1, none⟩) (show w.heap.size < w.heap.size + 2 by omega)).trans d1
    have f2 := (hBe4.cell (p := ⟨w.heap.size, 2, none⟩) (show w.heap.size < w.heap.size + 2 by omega)).trans d2
    have f3 := (hBe4.cell (p := ⟨w.heap.size, 3, none⟩) (show w.heap.size < w.heap.size + 2 by omega)).trans d3
    have f4 := (hBe4.cell (p := ⟨w.heap.size, 4, none⟩) (show w.heap.size < w.heap.size + 2 by omega)).trans d4
    have f5 := (hBe4.cell (p := ⟨w.heap.size + 1, 0, none⟩) (show w.heap.size + 1 < w.heap.size + 2 by omega)).trans d5
    have hr4 := hr.below (HB1.out.trans (hBe4.mono (by omega))) (Nat.le_refl _)
    have hrow := hOw4.row
    have hsl := P.srt_len nums
    have HSr := hide (search_q nums.length w.heap.size _ (w.heap.size + 1) (fun i => decide (r ≤ (P.wtR ((P.srt nums).getD i 0) s : Nat))) w4 (by omega)
      (fun i hi w' hb => query1 tv lv _ s (P.srt nums) r i w.heap.size _ (w.heap.size + 1) w' (hr4.below hb (Nat.le_refl _)) hg (keep_row hrow hb) (by omega) (keep_cell f0 hb) (keep_cell f1 hb) (keep_cell f2 hb) (keep_cell f3 hb) (keep_cell f4 hb) (keep_cell q4 hb) (keep_cell f5 hb))
      (fun i j hij hj hp => by
        have hle : (P.srt nums).getD i 0 ≤ (P.srt nums).getD j 0 := by
          rcases Nat.lt_or_ge i j with h | h
          · exact P.inc_at (P.srt_inc nums) h (by omega)
          · obtain rfl : i = j := by omega
            exact Int.le_refl _
        have := P.wtR_mono hle s
        simp only [decide_eq_true_eq] at hp ⊢; omega))
    have HKd := hide hBx4
    have HBe4 := hide hBe4
    have HRow := hide hrow
    have HSl := hide hsl
    clear hrow hBx4 hBe4 hr4 hg4 hOw4 hsl f0 f1 f2 f3 f4 f5
    go_wp2_with fail
    refine HSr.out.mono ?_
    rintro e w5 ⟨k, hk, rfl, h1, h2, hb5⟩
    have hkn : k < (P.srt nums).length := by
      rcases Nat.lt_or_ge k nums.length with h | h
      · rw [HSl.out]; exact h
      · exfalso
        obtain ⟨y, hy1, hy2⟩ := P.some_all hg.1 r1 R2.out
        have hm : y ∈ P.srt nums := P.mem_srt.2 (by rw [HNn.out]; exact hy1)
        obtain ⟨j, hj, rfl⟩ := List.mem_iff_getElem.1 hm
        have := h1 j (by rw [HSl.out] at hj; omega)
        rw [decide_eq_false_iff_not, List.getD_eq_getElem?_getD, List.getElem?_eq_getElem hj] at this
        exact this hy2
    have hrow5 := keep_row HRow.out hb5
    obtain ⟨a5, c5, hv5, ⟨g1, g2, g3⟩, hcase⟩ := hrow5
    rcases hcase with h | ⟨b, off, ha, hbs, hcell⟩
    · rw [h] at hkn; simp at hkn
    rw [ha, HSl.out] at hv5
    simp only [Value.slice.injEq] at hv5
    obtain ⟨rfl, _, rfl⟩ := hv5
    have h7 := hcell k hkn
    have HQ := hide (P.isQ_at hg.1 (r := r) (k := k) (by rw [show P.kept s = nums from HNn.out.symm]; exact hkn) (fun j hj => by have := h1 j hj; rw [show P.kept s = nums from HNn.out.symm]; simpa using this) (by rw [show P.kept s = nums from HNn.out.symm]; have := h2 k (Nat.le_refl _) (by rw [HSl.out] at hkn; exact hkn); simpa using this))
    rw [show P.kept s = nums from HNn.out.symm] at HQ
    generalize (P.srt nums).getD k 0 = x at *
    have q5 := keep_cell q4 hb5
    have j0 : (0 : Int) ≤ (k : Int) := by omega
    have j1 : (k : Int) < (nums.length : Int) := by have := HSl.out; omega
    have HB5 := hide (HB1.out.trans ((HBe4.out.mono (show w.heap.size ≤ w.heap.size + 2 by omega)).trans (hb5.mono (by have := HBe4.out.size; omega))))
    clear hcell h1 h2 hb5
    go_wp2
    go_ret2
    exact ⟨x, rfl, HQ.out, HB5.out⟩
end Go.Proofs.Ytlndbmenaaiogaa
