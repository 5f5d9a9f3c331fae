/- What bounded and Add answer. -/
import Derived.Test.YtlndbmenaaiogaaRankA
import Derived.Test.YtlndbmenaaiogaaRankH
import Derived.Test.YtlndbmenaaiogaaRankE
namespace Go.Proofs.Ytlndbmenaaiogaa
open Go.RowKit
set_option linter.unusedVariables false
namespace P
theorem ad_bounds {s : Rk} (h : Good s) (v : Int) : s.n + 1 ≤ 4611686018427387904 ∧ (adU s v).sl ≤ 4611686018427387904 := by
  have h1 := h.num
  have h2 := h.1.k64
  have h3 := h.1.k2
  have h4 := h.2.2
  have hr := ((rel_self h.1).imp (M' := fun _ => True) (fun _ _ => trivial)).ad v trivial
  have hk := adU_k s v
  have h5 := hr.mid.levels (e := 21) (by rw [hr.n, hk, show (2 : Int) ^ 21 = 2097152 by decide]; omega)
  have h6 := hr.grown (by omega) h5 (by rw [hk]; omega)
  exact ⟨by omega, by omega⟩
end P
theorem bounded_ok (tv : Value) (a : Option Addr) (c : Nat) (s : P.Rk) (w : World) (h : P.bndE s = 0) (ht : ∃ x y, tv = .slice x s.tail.length y) :
    Calls Try.prog 29 #[aggR tv (.slice a s.lv.length c) s] w fun e w' => e = .returned (.tuple #[aggR tv (.slice a s.lv.length c) s, .int .i64 0]) ∧ Below w.heap.size w w' := by
  obtain ⟨x, y, rfl⟩ := ht
  have h1 : ¬ (20 < s.lv.length ∨ 1152921504606846976 < s.sl) := fun hc => by unfold P.bndE at h; rw [if_pos hc] at h; cases h
  have hd1 : decide (20 < (s.lv.length : Int)) = false := by simp; omega
  have hd2 : decide (1152921504606846976 < s.sl) = false := by simp; omega
  have HB := hide ((Below.refl _ w).alloc (Nat.le_refl _) (.cells #[.int .i64 s.k, .slice x s.tail.length y, .slice a s.lv.length c, .int .i64 s.n, .int .i64 s.sl] 25))
  clear h h1
  go_enter Try.func29, Try.ntmps29
  go_wp2
  refine bodyPost_ret (v := .tuple #[aggR (.slice x s.tail.length y) (.slice a s.lv.length c) s, .int .i64 0]) (by simp [results, Try.results29, go_sem]) rfl ⟨rfl, ?_⟩
  exact HB.out.alloc HB.out.size _
theorem bounded_bad (tv : Value) (a : Option Addr) (c : Nat) (s : P.Rk) (w : World) (h : P.bndE s ≠ 0) (ht : ∃ x y, tv = .slice x s.tail.length y) :
    Calls Try.prog 29 #[aggR tv (.slice a s.lv.length c) s] w fun e w' => e = .returned (.tuple #[zeroR, .int .i64 2]) ∧ Below w.heap.size w w' := by
  obtain ⟨x, y, rfl⟩ := ht
  have h1 : 20 < s.lv.length ∨ 1152921504606846976 < s.sl := Classical.byContradiction fun hc => by unfold P.bndE at h; rw [if_neg hc] at h; exact h rfl
  have HB := hide ((Below.refl _ w).alloc (Nat.le_refl _) (.cells #[.int .i64 s.k, .slice x s.tail.length y, .slice a s.lv.length c, .int .i64 s.n, .int .i64 s.sl] 25))
  by_cases h2 : 20 < s.lv.length
  · have hd1 : decide (20 < (s.lv.length : Int)) = true := by simp; omega
    clear h h1
    go_enter Try.func29, Try.ntmps29
    go_wp2
    refine bodyPost_ret (v := .tuple #[zeroR, .int .i64 2]) (by simp [results, Try.results29, go_sem]) rfl ⟨rfl, ?_⟩
    exact HB.out.alloc HB.out.size _
  · have hd1 : decide (20 < (s.lv.length : Int)) = false := by simp; omega
    have hd2 : decide (1152921504606846976 < s.sl) = true := by simp; omega
    clear h h1 h2
    go_enter Try.func29, Try.ntmps29
    go_wp2
    refine bodyPost_ret (v := .tuple #[zeroR, .int .i64 2]) (by simp [results, Try.results29, go_sem]) rfl ⟨rfl, ?_⟩
    exact HB.out.alloc HB.out.size _
/-- What Add and Merge answer: this rank, or that it is too large. -/
def RkPost (w : World) (s : P.Rk) (e : Ending) (w' : World) : Prop :=
  (P.bndE s = 0 → ∃ tv lv, e = .returned (.tuple #[aggR tv lv s, .int .i64 0]) ∧ OwnV w' 0 tv lv s) ∧ (P.bndE s ≠ 0 → e = .returned (.tuple #[zeroR, .int .i64 2])) ∧ Below w.heap.size w w'
theorem rkPost_ok {w w' : World} {s : P.Rk} {tv lv : Value} (h : P.bndE s = 0) (hv : OwnV w' 0 tv lv s) (hb : Below w.heap.size w w') : RkPost w s (.returned (.tuple #[aggR tv lv s, .int .i64 0])) w' := ⟨fun _ => ⟨tv, lv, rfl, hv⟩, fun hn => absurd h hn, hb⟩
theorem rkPost_bad {w w' : World} {s : P.Rk} (h : P.bndE s ≠ 0) (hb : Below w.heap.size w w') : RkPost w s (.returned (.tuple #[zeroR, .int .i64 2])) w' := ⟨fun h0 => absurd h0 h, fun _ => rfl, hb⟩
theorem zero_box (w : World) (o : Obj) : BoxR ((w.alloc o).alloc (.cells #[.int .i64 0, .slice none 0 0, .slice none 0 0, .int .i64 0, .int .i64 0] 25)) (w.heap.size + 1) (.slice none 0 0) (.slice none 0 0) ⟨0, [], [], 0, 0⟩ := by
  have := BoxR.new (w.alloc o) (.slice none 0 0) (.slice none 0 0) ⟨0, [], [], 0, 0⟩
  simpa using this
theorem Add_bad (tv lv : Value) (s : P.Rk) (v : Int) (w : World) (hr : RkV w tv lv s) (hg : ¬ P.Good s) :
    Calls Try.prog 10 #[aggR tv lv s, .int .i64 v] w fun e w' => e = .returned (.tuple #[zeroR, .int .i64 4]) ∧ Below w.heap.size w w' := by
  have HK := hide (fun wx (hb : Below w.heap.size w wx) => check_any tv lv s wx (hr.below hb (Nat.le_refl _)))
  rw [P.chkR_not hg] at HK
  have HB : Hid (Below w.heap.size w ((w.alloc (.cells #[.int .i64 s.k, tv, lv, .int .i64 s.n, .int .i64 s.sl] 25)).alloc (.cells #[.int .i64 0, .slice none 0 0, .slice none 0 0, .int .i64 0, .int .i64 0] 25))) := ((Below.refl _ w).alloc (Nat.le_refl _) _).alloc (by simp) _
  have HZ := hide (zero_box w (.cells #[.int .i64 s.k, tv, lv, .int .i64 s.n, .int .i64 s.sl] 25))
  clear hr hg
  go_enter Try.func10, Try.ntmps10
  go_wp2_with (go_at_call 13; go_must (refine (HK.out _ HB.out).mono ?_); rintro e w1 ⟨rfl, hb1⟩; have z1 := HZ.out.below hb1; obtain ⟨c0, c1, c2, c3, c4⟩ := z1.cells; have u0 := z1.unfrozen 0; have u1 := z1.unfrozen 1; have u2 := z1.unfrozen 2; have u3 := z1.unfrozen 3; have u4 := z1.unfrozen 4)
  have z2 := z1.all (.slice none 0 0) (.slice none 0 0) ⟨0, [], [], 0, 0⟩
  have b2 : Below w.heap.size w (setR w1 (w.heap.size + 1) (.slice none 0 0) (.slice none 0 0) ⟨0, [], [], 0, 0⟩) := Below.setR' (Below.next HB.out hb1) (by omega) _ _ _
  obtain ⟨r0, r1, r2, r3, r4⟩ := z2.cells
  refine bodyPost_ret (w := setR w1 (w.heap.size + 1) (.slice none 0 0) (.slice none 0 0) ⟨0, [], [], 0, 0⟩) (v := .tuple #[zeroR, .int .i64 4]) ?_ rfl ⟨rfl, b2⟩
  generalize setR w1 (w.heap.size + 1) (.slice none 0 0) (.slice none 0 0) ⟨0, [], [], 0, 0⟩ = wf at *
  simp [results, Try.results10, go_sem, r0, r1, r2, r3, r4]
set_option maxRecDepth 100000 in
set_option maxHeartbeats 2000000 in
theorem Add_ok (tv lv : Value) (s : P.Rk) (v : Int) (w : World) (hr : RkV w tv lv s) (hg : P.Good s) :
    Calls Try.prog 10 #[aggR tv lv s, .int .i64 v] w (RkPost w (P.adU s v)) := by
  have HK := hide (fun wx (hb : Below w.heap.size w wx) => check_any tv lv s wx (hr.below hb (Nat.le_refl _)))
  rw [P.chkR_ok hg] at HK
  have HOw := hide (fun wx (hb : Below w.heap.size w wx) => own_any tv lv s wx (hr.below hb (Nat.le_refl _)) hg)
  have HB : Hid (Below w.heap.size w ((w.alloc (.cells #[.int .i64 s.k, tv, lv, .int .i64 s.n, .int .i64 s.sl] 25)).alloc (.cells #[.int .i64 0, .slice none 0 0, .slice none 0 0, .int .i64 0, .int .i64 0] 25))) := ((Below.refl _ w).alloc (Nat.le_refl _) _).alloc (by simp) _
  have HZ := hide (zero_box w (.cells #[.int .i64 s.k, tv, lv, .int .i64 s.n, .int .i64 s.sl] 25))
  obtain ⟨b0, b1, b2, b3, b4⟩ := box5 (w := w) (c0 := .int .i64 s.k) (c1 := tv) (c2 := lv) (c3 := .int .i64 s.n) (c4 := .int .i64 s.sl) (t := 25)
  replace b0 := keep_alloc b0 (.cells #[.int .i64 0, .slice none 0 0, .slice none 0 0, .int .i64 0, .int .i64 0] 25)
  replace b1 := keep_alloc b1 (.cells #[.int .i64 0, .slice none 0 0, .slice none 0 0, .int .i64 0, .int .i64 0] 25)
  replace b2 := keep_alloc b2 (.cells #[.int .i64 0, .slice none 0 0, .slice none 0 0, .int .i64 0, .int .i64 0] 25)
  replace b3 := keep_alloc b3 (.cells #[.int .i64 0, .slice none 0 0, .slice none 0 0, .int .i64 0, .int .i64 0] 25)
  replace b4 := keep_alloc b4 (.cells #[.int .i64 0, .slice none 0 0, .slice none 0 0, .int .i64 0, .int .i64 0] 25)
  have hs0 : w.heap.size + 2 ≤ ((w.alloc (.cells #[.int .i64 s.k, tv, lv, .int .i64 s.n, .int .i64 s.sl] 25)).alloc (.cells #[.int .i64 0, .slice none 0 0, .slice none 0 0, .int .i64 0, .int .i64 0] 25)).heap.size := by simp
  obtain ⟨hbn, hbs⟩ := P.ad_bounds hg v
  have HA := hide (fun g base tv lvv wx hgb hx ho h7 => add_any g base tv lvv s v wx hgb hx ho hg.1 hbn hbs (by have := hg.2.1; omega) h7)
  have htl : ∀ {x y : Prop}, x → x := fun h => h
  generalize P.adU s v = R at *
  clear hr hg hbn hbs htl
  go_enter Try.func10, Try.ntmps10
  go_wp2_with (first
    | (go_at_call 13; go_must (refine (HK.out _ HB.out).mono ?_); rintro e w1 ⟨rfl, hb1⟩; have z1 := HZ.out.below hb1; have d0 := keep_cell b0 hb1; have d1 := keep_cell b1 hb1; have d2 := keep_cell b2 hb1; have d3 := keep_cell b3 hb1; have d4 := keep_cell b4 hb1; have HB1 := hide (Below.next HB.out hb1); have hs1 : w.heap.size + 2 ≤ w1.heap.size := Nat.le_trans hs0 hb1.size; clear hb1)
    | (go_at_call 27; go_must (refine (HOw.out _ HB1.out).mono ?_); rintro e w2 ⟨tv2, lv2, rfl, own2, hb2⟩; have z2 := z1.below hb2; have HB2 := hide (Below.next HB1.out hb2); have hs2 : w.heap.size + 2 ≤ w2.heap.size := Nat.le_trans hs1 hb2.size; obtain ⟨at2, ct2, rfl⟩ := OwnK.shape own2.tail; obtain ⟨al2, cl2, rfl, _⟩ := own2.shp))
  have X1 := BoxR.new w2 (.slice at2 s.tail.length ct2) (.slice al2 s.lv.length cl2) s
  have X2 : OwnV (w2.alloc (.cells #[.int .i64 s.k, .slice at2 s.tail.length ct2, .slice al2 s.lv.length cl2, .int .i64 s.n, .int .i64 s.sl] 25)) (w.heap.size + 2) (.slice at2 s.tail.length ct2) (.slice al2 s.lv.length cl2) s := (own2.base hs1).below ((Below.refl w2.heap.size w2).alloc (Nat.le_refl _) _) (Nat.le_refl _)
  have HB3 := hide (HB2.out.alloc HB2.out.size (.cells #[.int .i64 s.k, .slice at2 s.tail.length ct2, .slice al2 s.lv.length cl2, .int .i64 s.n, .int .i64 s.sl] 25))
  have z3 : BoxR (w2.alloc (.cells #[.int .i64 s.k, .slice at2 s.tail.length ct2, .slice al2 s.lv.length cl2, .int .i64 s.n, .int .i64 s.sl] 25)) (w.heap.size + 1) (.slice none 0 0) (.slice none 0 0) ⟨0, [], [], 0, 0⟩ := z2.below ((Below.refl w2.heap.size w2).alloc (Nat.le_refl _) _)
  refine (HA.out w2.heap.size (w.heap.size + 2) _ _ _ hs2 X1 X2 (by simp; omega)).mono ?_
  rintro e w4 ⟨rfl, tv4, lv4, hx4, ho4, hb4, hs4⟩
  have z4 : BoxR w4 (w.heap.size + 1) (.slice none 0 0) (.slice none 0 0) ⟨0, [], [], 0, 0⟩ := (hb4.block (w.heap.size + 1) (by omega)).trans z3
  have HB4 := hide (HB3.out.trans (hb4.mono (by omega)))
  obtain ⟨at4, ct4, rfl⟩ := OwnK.shape ho4.tail
  obtain ⟨al4, cl4, rfl, _⟩ := ho4.shp
  obtain ⟨f0, f1, f2, f3, f4⟩ := hx4.cells
  have HO4 := hide ho4
  clear z1 z2 z3 X1 X2 own2 hb2 hb4 hx4 ho4 d0 d1 d2 d3 d4 HZ HA HK HOw HB HB1 HB2 HB3
  by_cases hb0 : P.bndE R = 0
  · have HBd := hide (fun wx => bounded_ok (.slice at4 R.tail.length ct4) al4 cl4 R wx hb0 ⟨_, _, rfl⟩)
    go_wp2_with (go_at_call 29; go_must (refine (HBd.out _).mono ?_); rintro e w5 ⟨rfl, hb5⟩; have z5 := z4.below hb5; obtain ⟨c0, c1, c2, c3, c4⟩ := z5.cells; have u0 := z5.unfrozen 0; have u1 := z5.unfrozen 1; have u2 := z5.unfrozen 2; have u3 := z5.unfrozen 3; have u4 := z5.unfrozen 4)
    have z6 := z5.all (.slice at4 R.tail.length ct4) (.slice al4 R.lv.length cl4) R
    have o6 : OwnV (setR w5 (w.heap.size + 1) (.slice at4 R.tail.length ct4) (.slice al4 R.lv.length cl4) R) (w.heap.size + 2) (.slice at4 R.tail.length ct4) (.slice al4 R.lv.length cl4) R := OwnV.setR' (HO4.out.below hb5 (Nat.le_refl _)) z5
    have b6 : Below w.heap.size w (setR w5 (w.heap.size + 1) (.slice at4 R.tail.length ct4) (.slice al4 R.lv.length cl4) R) := Below.setR' (Below.next HB4.out hb5) (by omega) _ _ _
    obtain ⟨r0, r1, r2, r3, r4⟩ := z6.cells
    refine bodyPost_ret (w := setR w5 (w.heap.size + 1) (.slice at4 R.tail.length ct4) (.slice al4 R.lv.length cl4) R) (v := .tuple #[aggR (.slice at4 R.tail.length ct4) (.slice al4 R.lv.length cl4) R, .int .i64 0]) ?_ rfl (rkPost_ok hb0 (o6.base (Nat.zero_le _)) b6)
    generalize setR w5 (w.heap.size + 1) (.slice at4 R.tail.length ct4) (.slice al4 R.lv.length cl4) R = wf at *
    simp [results, Try.results10, go_sem, r0, r1, r2, r3, r4]
  · have HBd := hide (fun wx => bounded_bad (.slice at4 R.tail.length ct4) al4 cl4 R wx hb0 ⟨_, _, rfl⟩)
    go_wp2_with (go_at_call 29; go_must (refine (HBd.out _).mono ?_); rintro e w5 ⟨rfl, hb5⟩; have z5 := z4.below hb5; obtain ⟨c0, c1, c2, c3, c4⟩ := z5.cells; have u0 := z5.unfrozen 0; have u1 := z5.unfrozen 1; have u2 := z5.unfrozen 2; have u3 := z5.unfrozen 3; have u4 := z5.unfrozen 4)
    have z6 := z5.all (.slice none 0 0) (.slice none 0 0) ⟨0, [], [], 0, 0⟩
    have b6 : Below w.heap.size w (setR w5 (w.heap.size + 1) (.slice none 0 0) (.slice none 0 0) ⟨0, [], [], 0, 0⟩) := Below.setR' (Below.next HB4.out hb5) (by omega) _ _ _
    obtain ⟨r0, r1, r2, r3, r4⟩ := z6.cells
    refine bodyPost_ret (w := setR w5 (w.heap.size + 1) (.slice none 0 0) (.slice none 0 0) ⟨0, [], [], 0, 0⟩) (v := .tuple #[zeroR, .int .i64 2]) ?_ rfl (rkPost_bad hb0 b6)
    generalize setR w5 (w.heap.size + 1) (.slice none 0 0) (.slice none 0 0) ⟨0, [], [], 0, 0⟩ = wf at *
    simp [results, Try.results10, go_sem, r0, r1, r2, r3, r4]
end Go.Proofs.Ytlndbmenaaiogaa
