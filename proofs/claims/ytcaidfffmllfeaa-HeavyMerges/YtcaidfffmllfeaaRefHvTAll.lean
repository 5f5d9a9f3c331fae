/- Several texts in one. -/
import Derived.Test.YtcaidfffmllfeaaRefHvDAll
import Derived.Test.YtcaidfffmllfeaaHeavyDAll
/- What the reference's Tallied answers: a key more. -/
namespace Go.Proofs.Ytcaidfffmllfeaa
open Go.RowKit
set_option linter.unusedVariables false
namespace P
theorem les_ins_one {l : List Ct} {k : ByteArray} (h : ∀ x ∈ l, x.1 ≠ k) : les (ins l k 1) 1 = les l 1 := by
  induction l with
  | nil => simp [ins, les]
  | cons x l ih =>
    simp only [ins]
    rw [if_neg (h x (by simp))]
    split
    · rw [les_cons]; simp
    · rw [les_cons, les_cons, ih fun y hy => h y (by simp [hy])]
theorem tog_one (l : List Ct) (k : Int) (key : ByteArray) : tog l (one k key).l = ins l key 1 := rfl
theorem absent_of {l : List Ct} (ha : Asc l) (hp : Pos l) {key : ByteArray} (h : ¬ 0 < look l key) : ∀ x ∈ l, x.1 ≠ key := fun x hx e => by
  have h1 := look_mem ha hx
  have h2 := hp x hx
  rw [e] at h1
  omega
theorem present_of {l : List Ct} {key : ByteArray} (h : 0 < look l key) : ∃ x ∈ l, x.1 = key := Classical.byContradiction fun hn => by
  have := look_none (l := l) (k := key) fun x hx e => hn ⟨x, hx, e⟩
  omega
/-- A key more that is there, or for which there is room. -/
theorem adH_more {s : Hv} {key : ByteArray} (hg : Good s) (h : 0 < look s.l key ∨ (s.l.length : Int) < s.k) : adH s key = ⟨s.k, ins s.l key 1, s.n + 1, s.off⟩ := by
  have hl : ((tog s.l (one s.k key).l).length : Int) ≤ s.k := by
    rw [tog_one]
    rcases h with h | h
    · rw [ins_has hg.ok.2 (present_of h)]; exact hg.len
    · have := ins_len s.l key 1; omega
  unfold adH uni
  rw [if_pos hl, tog_one]
  simp [one]
/-- A key more where there is no room. -/
theorem adH_none {s : Hv} {key : ByteArray} (hg : Good s) (hk : key.size ≤ 40) (hn : s.n ≠ 1000000000) (h1 : ¬ 0 < look s.l key) (h2 : ¬ (s.l.length : Int) < s.k) : adH s key = ⟨s.k, les s.l 1, s.n + 1, s.off + 1⟩ := by
  have h3 := two_one hg hk hn
  have hab := absent_of hg.ok.2 hg.ok.pos h1
  have hlen := ins_new (n := 1) hab
  have hgl := hg.len
  have hl : ¬ ((tog s.l (one s.k key).l).length : Int) ≤ s.k := by rw [tog_one, hlen]; omega
  have hm : s.k.toNat + 1 = (ins s.l key 1).length := by rw [hlen]; omega
  have hpos : Pos (ins s.l key 1) := h3.pos
  have hmem : (key, (1 : Int)) ∈ ins s.l key 1 := by
    have : ∀ l : List Ct, (∀ x ∈ l, x.1 ≠ key) → (key, (1 : Int)) ∈ ins l key 1 := by
      intro l
      induction l with
      | nil => intro _; simp [ins]
      | cons x l ih =>
        intro h
        simp only [ins]
        rw [if_neg (h x (by simp))]
        split
        · simp
        · exact List.mem_cons_of_mem _ (ih fun y hy => h y (by simp [hy]))
    exact this _ hab
  have ht : thr (ins s.l key 1) (s.k.toNat + 1) = 1 := by
    rw [hm]
    have hm1 : 1 ≤ (ins s.l key 1).length := by omega
    have a1 := thr_many hm1 (Nat.le_refl _)
    have a2 : ∀ c ∈ ins s.l key 1, thr (ins s.l key 1) (ins s.l key 1).length ≤ c.2 := by
      have h4 : many (ins s.l key 1) (thr (ins s.l key 1) (ins s.l key 1).length) = (ins s.l key 1).length := Nat.le_antisymm List.countP_le_length a1
      unfold many at h4
      rw [List.countP_eq_length] at h4
      intro c hc
      simpa using h4 c hc
    have a3 := a2 _ hmem
    obtain ⟨c, hc, e⟩ := thr_mem hm1 (Nat.le_refl _)
    have a4 := hpos c hc
    simp only at a3
    omega
  unfold adH uni
  rw [if_neg hl, tog_one, ht, les_ins_one hab]
  simp [one]
end P
set_option maxRecDepth 100000 in
set_option maxHeartbeats 4000000 in
theorem refTallied_any (v : Value) (s : P.Hv) (key : ByteArray) (w : World) (hr : RowC w v s.l) (hg : P.Good s) (hk : key.size ≤ 40) (hn : s.n ≠ 1000000000) :
    Calls Try.prog 16 #[aggH v s, .string key] w fun e w' => ∃ v', e = .returned (aggH v' (P.adH s key)) ∧ OwnC w' w.heap.size v' (P.adH s key).l ∧ Below w.heap.size w w' := by
  have hlen : s.l.length ≤ 1000 := by have := hg.len; have := hg.k2; omega
  have hp : ∀ y ∈ s.l, 0 < y.2 ∧ y.2 ≤ 4000000000 := fun y hy => ⟨(hg.ok.1 y hy).2.1, by have := (hg.ok.1 y hy).2.2; omega⟩
  have HCi := hide (fun wx (hb : Below w.heap.size w wx) => countIn_any v s.l key wx (hr.below hb (Nat.le_refl _)) hg.ok.2)
  have HCt := hide (fun wx (hb : Below w.heap.size w wx) => counted_any v s.l key 1 wx (hr.below hb (Nat.le_refl _)) hg.ok.2 hlen hp ⟨by decide, by decide⟩)
  have HLs := hide (fun wx (hb : Below w.heap.size w wx) => refLessened_any v s.l 1 wx (hr.below hb (Nat.le_refl _)) hlen hp ⟨by decide, by decide⟩)
  have HB : Hid (Below w.heap.size w ((w.alloc (.cells #[.int .i64 s.k, v, .int .i64 s.n, .int .i64 s.off] 24)).alloc (.cells #[.int .i64 0, .slice none 0 0, .int .i64 0, .int .i64 0] 24))) := ((Below.refl _ w).alloc (Nat.le_refl _) _).alloc (by simp) _
  have HZ := hide (box_zero w (.cells #[.int .i64 s.k, v, .int .i64 s.n, .int .i64 s.off] 24))
  have HX := hide (box_old (w := w) (v := v) (s := s) (.cells #[.int .i64 0, .slice none 0 0, .int .i64 0, .int .i64 0] 24))
  have hn0 := hg.n0
  have hn1 := hg.n1
  have ho0 := hg.o0
  have ho1 := hg.o1
  have HMore := hide (fun h => P.adH_more (key := key) hg h)
  have HNone := hide (fun h1 h2 => P.adH_none hg hk hn h1 h2)
  obtain ⟨av, cv, e1⟩ := hr.shp
  rw [e1] at HCi HCt HLs HB HZ HX ⊢
  generalize P.adH s key = R at *
  clear hr hk hn e1 hp hg hlen
  go_enter Try.func16, Try.ntmps16
  go_upto_region 1 with fail
  generalize ((w.alloc (.cells #[.int .i64 s.k, .slice av s.l.length cv, .int .i64 s.n, .int .i64 s.off] 24)).alloc (.cells #[.int .i64 0, .slice none 0 0, .int .i64 0, .int .i64 0] 24)) = W at *
  obtain ⟨x0, x1, x2, x3⟩ := HX.out.cells
  have u2 := HX.out.unfrozen 2
  go_upto_region 2 with fail
  have HX2 : Hid (BoxH (W.setCell ⟨w.heap.size, 2, none⟩ (.int .i64 (s.n + 1))) w.heap.size (.slice av s.l.length cv) ⟨s.k, s.l, s.n + 1, s.off⟩) := HX.out.num _
  have HZ2 : Hid (BoxH (W.setCell ⟨w.heap.size, 2, none⟩ (.int .i64 (s.n + 1))) (w.heap.size + 1) (.slice none 0 0) z0) := HZ.out.other (setCell_grown W w.heap.size 2 _) (by omega)
  have HB2 : Hid (Below w.heap.size w (W.setCell ⟨w.heap.size, 2, none⟩ (.int .i64 (s.n + 1)))) := HB.out.setCell (Nat.le_refl _) _
  clear x0 x1 x2 x3 u2 HX HZ HB
  generalize W.setCell ⟨w.heap.size, 2, none⟩ (.int .i64 (s.n + 1)) = W2 at *
  obtain ⟨x0, x1, x2, x3⟩ := HX2.out.cells
  simp only at x0 x1 x2 x3
  have HCi2 := hide (HCi.out _ HB2.out)
  have HRc := hide (show ∀ b : Bool, b = decide (0 < P.look s.l key ∨ (s.l.length : Int) < s.k) → b = decide (0 < P.look s.l key ∨ (s.l.length : Int) < s.k) from fun _ h => h)
  go_cut [21] from 9 to 21 (fun c wc => c = .bool (decide (0 < P.look s.l key ∨ (s.l.length : Int) < s.k)) ∧ Below W2.heap.size W2 wc)
  case first =>
    by_cases h0 : 0 < P.look s.l key
    · have d0 : decide (0 < P.look s.l key) = true := by simpa using h0
      have HD : Hid (decide (0 < P.look s.l key ∨ (s.l.length : Int) < s.k) = true) := by show _ = _; simp [h0]
      clear h0
      go_wp2_with (go_at_call 15; go_must (refine HCi2.out.mono ?_); rintro e w3 ⟨rfl, hb3⟩; have y0 := keep_cell x0 hb3; have y1 := keep_cell x1 hb3)
      go_meet
      exact ⟨by rw [HD.out], hb3⟩
    · have d0 : decide (0 < P.look s.l key) = false := by simpa using h0
      by_cases h1 : (s.l.length : Int) < s.k
      · have d1 : decide ((s.l.length : Int) < s.k) = true := by simpa using h1
        have HD : Hid (decide (0 < P.look s.l key ∨ (s.l.length : Int) < s.k) = true) := by show _ = _; simp [h1]
        clear h0 h1
        go_wp2_with (go_at_call 15; go_must (refine HCi2.out.mono ?_); rintro e w3 ⟨rfl, hb3⟩; have y0 := keep_cell x0 hb3; have y1 := keep_cell x1 hb3)
        go_meet
        exact ⟨by rw [HD.out], hb3⟩
      · have d1 : decide ((s.l.length : Int) < s.k) = false := by simpa using h1
        have HD : Hid (decide (0 < P.look s.l key ∨ (s.l.length : Int) < s.k) = false) := by show _ = _; simp [h0, h1]
        clear h0 h1
        go_wp2_with (go_at_call 15; go_must (refine HCi2.out.mono ?_); rintro e w3 ⟨rfl, hb3⟩; have y0 := keep_cell x0 hb3; have y1 := keep_cell x1 hb3)
        go_meet
        exact ⟨by rw [HD.out], hb3⟩
  case rest =>
    obtain ⟨rfl, hbc⟩ := hcut
    have HX3 := hide (HX2.out.below hbc)
    have HZ3 := hide (HZ2.out.below hbc)
    have HB3 := hide (Below.next HB2.out hbc)
    clear x0 x1 x2 x3 HX2 HZ2 HCi2 hbc
    obtain ⟨x0, x1, x2, x3⟩ := HX3.out.cells
    simp only at x0 x1 x2 x3
    by_cases hc : 0 < P.look s.l key ∨ (s.l.length : Int) < s.k
    · have HR := hide (HMore.out hc)
      have HCt3 := hide (HCt.out _ HB3.out)
      rw [decide_eq_true hc]
      clear HMore HNone HLs HCt HCi HRc hc
      generalize P.ins s.l key 1 = L at *
      go_upto_region 4 with (go_at_call 31; go_must (refine HCt3.out.mono ?_); rintro e w4 ⟨v4, rfl, own4, hb4⟩; obtain ⟨a4, k4, hv4⟩ := own4.shp ctC_len; rw [hv4] at own4 ⊢; have y4 := HX3.out.below hb4; obtain ⟨t0, t1, t2, t3⟩ := y4.cells; have u1 := y4.unfrozen 1; clear hv4)
      have HX5 : Hid (BoxH (w4.setCell ⟨w.heap.size, 1, none⟩ (.slice a4 L.length k4)) w.heap.size (.slice a4 L.length k4) ⟨s.k, L, s.n + 1, s.off⟩) := y4.list _ L
      have hz5 : BoxH (w4.setCell ⟨w.heap.size, 1, none⟩ (.slice a4 L.length k4)) (w.heap.size + 1) (.slice none 0 0) z0 := (HZ3.out.below hb4).other (setCell_grown w4 w.heap.size 1 _) (by omega)
      have HO5 : Hid (OwnC (w4.setCell ⟨w.heap.size, 1, none⟩ (.slice a4 L.length k4)) wc.heap.size (.slice a4 L.length k4) L) := own4.box y4 (setCell_grown w4 w.heap.size 1 _)
      have HB5 : Hid (Below w.heap.size w (w4.setCell ⟨w.heap.size, 1, none⟩ (.slice a4 L.length k4))) := (Below.next HB3.out hb4).setCell (Nat.le_refl _) _
      have hs := HB3.out.size
      clear x0 x1 x2 x3 y4 own4 hb4 t0 t1 t2 t3 u1 HX3 HZ3 HB3 HCt3
      generalize w4.setCell ⟨w.heap.size, 1, none⟩ (.slice a4 L.length k4) = w6 at *
      obtain ⟨f0, f1, f2, f3⟩ := HX5.out.cells
      simp only at f0 f1 f2 f3
      obtain ⟨g0, g1, g2, g3⟩ := hz5.cells
      have u0 := hz5.unfrozen 0
      have u1 := hz5.unfrozen 1
      have u2 := hz5.unfrozen 2
      have u3 := hz5.unfrozen 3
      go_wp2
      have hg := setH_grown w6 (w.heap.size + 1) (.slice a4 L.length k4) ⟨s.k, L, s.n + 1, s.off⟩
      have hr := hz5.all (.slice a4 L.length k4) ⟨s.k, L, s.n + 1, s.off⟩
      have ho := HO5.out.box hz5 hg
      have hb := Below.setH' HB5.out (g := w.heap.size + 1) (by omega) (.slice a4 L.length k4) ⟨s.k, L, s.n + 1, s.off⟩
      obtain ⟨r0, r1, r2, r3⟩ := hr.cells
      refine bodyPost_ret (w := setH w6 (w.heap.size + 1) (.slice a4 L.length k4) ⟨s.k, L, s.n + 1, s.off⟩) (v := aggH (.slice a4 L.length k4) ⟨s.k, L, s.n + 1, s.off⟩) ?_ rfl ⟨.slice a4 L.length k4, by rw [HR.out], by rw [HR.out]; exact ho.base hs, hb⟩
      generalize setH w6 (w.heap.size + 1) (.slice a4 L.length k4) ⟨s.k, L, s.n + 1, s.off⟩ = wf at *
      simp only at r0 r1 r2 r3
      simp [results, Try.results16, go_sem, r0, r1, r2, r3]
    · have HR := hide (HNone.out (fun h => hc (.inl h)) (fun h => hc (.inr h)))
      have HLs3 := hide (HLs.out _ HB3.out)
      rw [decide_eq_false hc]
      clear HMore HNone HLs HCt HCi HRc hc
      generalize P.les s.l 1 = L at *
      go_upto_region 6 with (go_at_call 32; go_must (refine HLs3.out.mono ?_); rintro e w4 ⟨v4, rfl, own4, hb4⟩; obtain ⟨a4, k4, hv4⟩ := own4.shp ctC_len; rw [hv4] at own4 ⊢; have y4 := HX3.out.below hb4; obtain ⟨t0, t1, t2, t3⟩ := y4.cells; have u1 := y4.unfrozen 1; clear hv4)
      have HX5 : Hid (BoxH (w4.setCell ⟨w.heap.size, 1, none⟩ (.slice a4 L.length k4)) w.heap.size (.slice a4 L.length k4) ⟨s.k, L, s.n + 1, s.off⟩) := y4.list _ L
      have HZ5 : Hid (BoxH (w4.setCell ⟨w.heap.size, 1, none⟩ (.slice a4 L.length k4)) (w.heap.size + 1) (.slice none 0 0) z0) := (HZ3.out.below hb4).other (setCell_grown w4 w.heap.size 1 _) (by omega)
      have HO5 : Hid (OwnC (w4.setCell ⟨w.heap.size, 1, none⟩ (.slice a4 L.length k4)) wc.heap.size (.slice a4 L.length k4) L) := own4.box y4 (setCell_grown w4 w.heap.size 1 _)
      have HB5 : Hid (Below w.heap.size w (w4.setCell ⟨w.heap.size, 1, none⟩ (.slice a4 L.length k4))) := (Below.next HB3.out hb4).setCell (Nat.le_refl _) _
      have hs := HB3.out.size
      clear x0 x1 x2 x3 y4 own4 hb4 t0 t1 t2 t3 u1 HX3 HZ3 HB3 HLs3
      generalize w4.setCell ⟨w.heap.size, 1, none⟩ (.slice a4 L.length k4) = w6 at *
      obtain ⟨f0, f1, f2, f3⟩ := HX5.out.cells
      have u3 := HX5.out.unfrozen 3
      simp only at f0 f1 f2 f3
      go_upto_region 7 with fail
      have HX7 : Hid (BoxH (w6.setCell ⟨w.heap.size, 3, none⟩ (.int .i64 (s.off + 1))) w.heap.size (.slice a4 L.length k4) ⟨s.k, L, s.n + 1, s.off + 1⟩) := HX5.out.offs _
      have hz5 : BoxH (w6.setCell ⟨w.heap.size, 3, none⟩ (.int .i64 (s.off + 1))) (w.heap.size + 1) (.slice none 0 0) z0 := HZ5.out.other (setCell_grown w6 w.heap.size 3 _) (by omega)
      have HO7 : Hid (OwnC (w6.setCell ⟨w.heap.size, 3, none⟩ (.int .i64 (s.off + 1))) wc.heap.size (.slice a4 L.length k4) L) := HO5.out.box HX5.out (setCell_grown w6 w.heap.size 3 _)
      have HB7 : Hid (Below w.heap.size w (w6.setCell ⟨w.heap.size, 3, none⟩ (.int .i64 (s.off + 1)))) := HB5.out.setCell (Nat.le_refl _) _
      clear HX5 HZ5 HO5 HB5 f0 f1 f2 f3 u3
      generalize w6.setCell ⟨w.heap.size, 3, none⟩ (.int .i64 (s.off + 1)) = w7 at *
      obtain ⟨f0, f1, f2, f3⟩ := HX7.out.cells
      simp only at f0 f1 f2 f3
      obtain ⟨g0, g1, g2, g3⟩ := hz5.cells
      have u0 := hz5.unfrozen 0
      have u1 := hz5.unfrozen 1
      have u2 := hz5.unfrozen 2
      have u3 := hz5.unfrozen 3
      go_wp2
      have hg := setH_grown w7 (w.heap.size + 1) (.slice a4 L.length k4) ⟨s.k, L, s.n + 1, s.off + 1⟩
      have hr := hz5.all (.slice a4 L.length k4) ⟨s.k, L, s.n + 1, s.off + 1⟩
      have ho := HO7.out.box hz5 hg
      have hb := Below.setH' HB7.out (g := w.heap.size + 1) (by omega) (.slice a4 L.length k4) ⟨s.k, L, s.n + 1, s.off + 1⟩
      obtain ⟨r0, r1, r2, r3⟩ := hr.cells
      refine bodyPost_ret (w := setH w7 (w.heap.size + 1) (.slice a4 L.length k4) ⟨s.k, L, s.n + 1, s.off + 1⟩) (v := aggH (.slice a4 L.length k4) ⟨s.k, L, s.n + 1, s.off + 1⟩) ?_ rfl ⟨.slice a4 L.length k4, by rw [HR.out], by rw [HR.out]; exact ho.base hs, hb⟩
      generalize setH w7 (w.heap.size + 1) (.slice a4 L.length k4) ⟨s.k, L, s.n + 1, s.off + 1⟩ = wf at *
      simp only at r0 r1 r2 r3
      simp [results, Try.results16, go_sem, r0, r1, r2, r3]
end Go.Proofs.Ytcaidfffmllfeaa
