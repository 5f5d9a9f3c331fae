/- What xor.reader's turn answers. -/
import Derived.Test.YteohlkpejdjenaaDoorXrd
namespace Go.Proofs.YteohlkpejdjenaaDoor
open Go.RowKit
set_option linter.unusedVariables false
set_option linter.unusedSimpArgs false

/-- The two boxes of turn, made. -/
theorem two_boxes (w : World) (a b : Value) : B2 ((w.alloc (.cells #[a, b] 51)).alloc (.cells #[.int .i64 0, .int .i64 0] 51)) w.heap.size a b ∧
    B2 ((w.alloc (.cells #[a, b] 51)).alloc (.cells #[.int .i64 0, .int .i64 0] 51)) (w.heap.size + 1) (.int .i64 0) (.int .i64 0) := by
  refine ⟨(B2.new w a b _).alloc _, ?_⟩
  have h := B2.new (w.alloc (.cells #[a, b] 51)) (.int .i64 0) (.int .i64 0) 51
  simpa using h
theorem below_two (w : World) (o1 o2 : Obj) : Below w.heap.size w ((w.alloc o1).alloc o2) := ((Below.refl _ _).alloc (Nat.le_refl _) _).alloc (by simp) _

set_option maxHeartbeats 1000000 in
/-- The first bit is 0, or there is none. -/
theorem turn_zero (v : Value) (bs : List Bool) (q q1 g : Nat) (a b : Int) (br br1 : Bool) (w0 w : World) (h : Rd w0 w g v bs q br)
    (H1 : ∀ w : World, Rd w0 w g v bs q br → Calls Tryd.prog 43 #[ptr g, .int .i64 1] w fun e w' => e = .returned (.int .u64 0) ∧ Rd w0 w' g v bs q1 br1 ∧ But g w w') :
    Calls Tryd.prog 44 #[ptr g, winV a b] w fun e w' => e = .returned (.tuple #[.int .u64 0, winV a b]) ∧ Rd w0 w' g v bs q1 br1 ∧ But g w w' := by
  replace H1 := hide H1
  obtain ⟨hP, hR⟩ := two_boxes w (.int .i64 a) (.int .i64 b)
  have hb0 := below_two w (.cells #[.int .i64 a, .int .i64 b] 51) (.cells #[.int .i64 0, .int .i64 0] 51)
  have h1 := h.next hb0
  have b1 : But g w _ := But.of hb0
  have hlt := h.lt
  have hne : w.heap.size ≠ g := by omega
  have hne1 : w.heap.size + 1 ≠ g := by omega
  have hw0 : w0.heap.size ≤ w.heap.size := h.old.size
  clear h hb0
  go_enter Tryd.func44, Tryd.ntmps44
  go_wp2_with fail
  refine (H1.out _ h1).mono ?_
  rintro e w3 ⟨rfl, h3, b3⟩
  have hP3 := hP.but b3 hne
  have hR3 := hR.but b3 hne1
  have b4 := b1.trans b3
  clear hP hR h1 b1 b3 H1
  obtain ⟨p0, p1, pf0, pf1⟩ := id hP3
  obtain ⟨r0, r1, rf0, rf1⟩ := id hR3
  go_wp2_with fail
  go_region
  all_goals go_wp2
  all_goals
    have q1 := (hR3.set (.int .i64 a) (.int .i64 b)).drew
    exact bodyPost_ret (v := .tuple #[.int .u64 0, winV a b]) (by simp [results, Tryd.results44, go_sem, q1.x0, q1.x1]) rfl ⟨rfl, ((h3.other hne1 (by omega) _).other hne1 (by omega) _).drew, ((b4.setNew (by omega) 0 _).setNew (by omega) 1 _).drew⟩
set_option maxHeartbeats 1000000 in
/-- The first bit is 1, the second one 0, or there is none: a turn within the window. -/
theorem turn_hold (v : Value) (bs : List Bool) (q q1 q2 g : Nat) (a b : Int) (br br1 br2 : Bool) (w0 w : World) (PT : Nat → Nat → Bool → Prop) (h : Rd w0 w g v bs q br)
    (H1 : ∀ w : World, Rd w0 w g v bs q br → Calls Tryd.prog 43 #[ptr g, .int .i64 1] w fun e w' => e = .returned (.int .u64 1) ∧ Rd w0 w' g v bs q1 br1 ∧ But g w w')
    (H2 : ∀ w : World, Rd w0 w g v bs q1 br1 → Calls Tryd.prog 43 #[ptr g, .int .i64 1] w fun e w' => e = .returned (.int .u64 0) ∧ Rd w0 w' g v bs q2 br2 ∧ But g w w')
    (HT : ∀ w : World, Rd w0 w g v bs q2 br2 → Calls Tryd.prog 51 #[ptr g, winV a b] w fun e w' => ∃ (t q' : Nat) (br' : Bool), e = .returned (.int .u64 t) ∧ Rd w0 w' g v bs q' br' ∧ But g w w' ∧ PT t q' br') :
    Calls Tryd.prog 44 #[ptr g, winV a b] w fun e w' => ∃ (t q' : Nat) (br' : Bool), e = .returned (.tuple #[.int .u64 t, winV a b]) ∧ Rd w0 w' g v bs q' br' ∧ But g w w' ∧ PT t q' br' := by
  replace H1 := hide H1
  replace H2 := hide H2
  replace HT := hide HT
  obtain ⟨hP, hR⟩ := two_boxes w (.int .i64 a) (.int .i64 b)
  have hb0 := below_two w (.cells #[.int .i64 a, .int .i64 b] 51) (.cells #[.int .i64 0, .int .i64 0] 51)
  have h1 := h.next hb0
  have b1 : But g w _ := But.of hb0
  have hlt := h.lt
  have hne : w.heap.size ≠ g := by omega
  have hne1 : w.heap.size + 1 ≠ g := by omega
  have hw0 : w0.heap.size ≤ w.heap.size := h.old.size
  clear h hb0
  go_enter Tryd.func44, Tryd.ntmps44
  go_wp2_with fail
  refine (H1.out _ h1).mono ?_
  rintro e w3 ⟨rfl, h3, b3⟩
  have hP3 := hP.but b3 hne
  have hR3 := hR.but b3 hne1
  have b4 := b1.trans b3
  clear hP hR h1 b1 b3 H1
  go_wp2_with fail
  refine (H2.out _ h3).mono ?_
  rintro e w5 ⟨rfl, h5, b5⟩
  have hP5 := hP3.but b5 hne
  have hR5 := hR3.but b5 hne1
  have b6 := b4.trans b5
  clear hP3 hR3 h3 b4 b5 H2
  obtain ⟨p0, p1, pf0, pf1⟩ := id hP5
  obtain ⟨d0, d1, _, _⟩ := id hP5.drew
  have h5d := h5.drew
  have b6d := b6.drew
  have hP5d := hP5.drew
  have hR5d := hR5.drew
  go_wp2_with fail
  go_region_held3 (fun wx => wx.cell? ⟨w.heap.size, 0, none⟩ = some (.int .i64 a) ∧ wx.cell? ⟨w.heap.size, 1, none⟩ = some (.int .i64 b)) (refine ⟨?_, ?_⟩ <;> ((repeat (with_reducible refine (World.cell?_setCell_other _ _ _ _ (by simp)).trans ?_)); with_reducible assumption)) (first
    | (go_at_call 51; refine (HT.out _ h5d).mono ?_; rintro e w7 ⟨t, q7, br7, rfl, h7, b7, pt⟩; have Hpt := hide pt; clear pt; have hP7 := hP5d.but b7 hne; have hR7 := hR5d.but b7 hne1; have b8 := b6d.trans b7; obtain ⟨t0, t1, tf0, tf1⟩ := id hP7; obtain ⟨r0, r1, rf0, rf1⟩ := id hR7))
  go_wp2
  have q1 := hR7.set (.int .i64 a) (.int .i64 b)
  exact bodyPost_ret (v := .tuple #[.int .u64 t, winV a b]) (by simp [results, Tryd.results44, go_sem, q1.x0, q1.x1]) rfl ⟨t, q7, br7, rfl, (h7.other hne1 (by omega) _).other hne1 (by omega) _, (b8.setNew (by omega) 0 _).setNew (by omega) 1 _, Hpt.out⟩
theorem neq_win (w : World) (a b a' b' : Int) (h : ¬ (a' = a ∧ b' = b)) :
    (binOp .neq 51 (.agg #[.int .i64 a', .int .i64 b']) (.agg #[.int .i64 a, .int .i64 b])).run Tryd.prog w = .ok (.bool true) w := by
  rw [run_neq_struct, run_equalIn_struct w 9999 51 _ _ (by kernel_rfl) (by kernel_rfl)]
  have hf : (Tryd.prog.fieldsOf 51) = #[⟨"lead", 3, 0, false, "", "gaugehouse/xor", 0⟩, ⟨"tail", 3, 1, false, "", "gaugehouse/xor", 8⟩] := by kernel_rfl
  rw [hf]
  obtain ⟨D, hD⟩ : ∃ D, D + 1 = 9999 := ⟨9998, rfl⟩
  rw [← hD]
  clear hD hf
  by_cases h1 : (a' == a) = true
  · have h2 : (b' == b) = false := by
      rw [beq_eq_false_iff_ne]; intro e; exact h ⟨eq_of_beq h1, e⟩
    simp [go_sem, Tryd.underlying3, h1, h2]
  · rw [Bool.not_eq_true] at h1
    simp [go_sem, Tryd.underlying3, h1]
/-- A window that is told is not the one that Pack tells. -/
def Bad (t : Nat) (c d a b : Int) : Prop := ¬ (((P.lz t : Nat) : Int) = c ∧ ((P.tz t : Nat) : Int) = d) ∨ (a ≤ c ∧ b ≤ d)
instance (t : Nat) (c d a b : Int) : Decidable (Bad t c d a b) := by unfold Bad; infer_instance
set_option maxHeartbeats 4000000 in
/-- The first two bits are 1: a window is told. -/
theorem turn_new (v : Value) (bs : List Bool) (q q1 q2 g : Nat) (a b : Int) (br br1 br2 : Bool) (w0 w : World) (PW : Nat → Int → Nat → Bool → Prop) (PT : Nat → Int → Nat → Nat → Bool → Prop) (h : Rd w0 w g v bs q br) (ht : Tab w0)
    (H1 : ∀ w : World, Rd w0 w g v bs q br → Calls Tryd.prog 43 #[ptr g, .int .i64 1] w fun e w' => e = .returned (.int .u64 1) ∧ Rd w0 w' g v bs q1 br1 ∧ But g w w')
    (H2 : ∀ w : World, Rd w0 w g v bs q1 br1 → Calls Tryd.prog 43 #[ptr g, .int .i64 1] w fun e w' => e = .returned (.int .u64 1) ∧ Rd w0 w' g v bs q2 br2 ∧ But g w w')
    (HW : ∀ w : World, Rd w0 w g v bs q2 br2 → Calls Tryd.prog 52 #[ptr g] w fun e w' => ∃ (c : Nat) (d : Int) (q' : Nat) (br' : Bool), e = .returned (winV c d) ∧ Rd w0 w' g v bs q' br' ∧ But g w w' ∧ PW c d q' br')
    (HT : ∀ (c : Nat) (d : Int) (q3 : Nat) (br3 : Bool), PW c d q3 br3 → ∀ w : World, Rd w0 w g v bs q3 br3 → Calls Tryd.prog 51 #[ptr g, winV c d] w fun e w' => ∃ (t q' : Nat) (br' : Bool), e = .returned (.int .u64 t) ∧ t < 18446744073709551616 ∧ Rd w0 w' g v bs q' br' ∧ But g w w' ∧ PT c d t q' br') :
    Calls Tryd.prog 44 #[ptr g, winV a b] w fun e w' => ∃ (c : Nat) (d : Int) (t q' : Nat) (br' : Bool), e = .returned (.tuple #[.int .u64 t, winV c d]) ∧ Rd w0 w' g v bs q' (br' || decide (Bad t c d a b)) ∧ But g w w' ∧ PT c d t q' br' := by
  replace H1 := hide H1
  replace H2 := hide H2
  replace HW := hide HW
  replace HT := hide HT
  obtain ⟨hP, hR⟩ := two_boxes w (.int .i64 a) (.int .i64 b)
  have hb0 := below_two w (.cells #[.int .i64 a, .int .i64 b] 51) (.cells #[.int .i64 0, .int .i64 0] 51)
  have h1 := h.next hb0
  have b1 : But g w _ := But.of hb0
  have hlt := h.lt
  have hne : w.heap.size ≠ g := by omega
  have hne1 : w.heap.size + 1 ≠ g := by omega
  have hw0 : w0.heap.size ≤ w.heap.size := h.old.size
  clear h hb0
  go_enter Tryd.func44, Tryd.ntmps44
  go_wp2_with fail
  refine (H1.out _ h1).mono ?_
  rintro e w3 ⟨rfl, h3, b3⟩
  have hP3 := hP.but b3 hne
  have hR3 := hR.but b3 hne1
  have b4 := b1.trans b3
  clear hP hR h1 b1 b3 H1
  go_wp2_with fail
  refine (H2.out _ h3).mono ?_
  rintro e w5 ⟨rfl, h5, b5⟩
  have hP5 := hP3.but b5 hne
  have hR5 := hR3.but b5 hne1
  have b6 := b4.trans b5
  clear hP3 hR3 h3 b4 b5 H2
  go_wp2_with fail
  refine (HW.out _ h5).mono ?_
  rintro e w7 ⟨c, d, q7, br7, rfl, h7, b7, pw⟩
  have hP7 := hP5.but b7 hne
  have hR7 := hR5.but b7 hne1
  have b8 := b6.trans b7
  replace HT := hide (HT.out c d q7 br7 pw)
  clear hP5 hR5 h5 b6 b7 HW pw
  have hl7 := h7.lt
  have hr7 := hR7.lt
  have hne7 : w7.heap.size ≠ g := by omega
  have hT8 := B2.new w7 (.int .i64 c) (.int .i64 d) 51
  have hP8 := hP7.alloc (.cells #[.int .i64 c, .int .i64 d] 51)
  have hR8 := hR7.alloc (.cells #[.int .i64 c, .int .i64 d] 51)
  have hbx := (Below.refl w7.heap.size w7).alloc (Nat.le_refl _) (.cells #[.int .i64 c, .int .i64 d] 51)
  have h8 := h7.next hbx
  have b9 := b8.trans (But.of hbx)
  obtain ⟨z0, z1, zf0, zf1⟩ := id hT8
  go_wp2_with fail
  clear z0 z1 zf0 zf1 hbx hP7 hR7 h7 b8
  generalize World.alloc w7 _ = W8 at hT8 hP8 hR8 h8 b9 ⊢
  refine (HT.out _ h8).mono ?_
  rintro e w9 ⟨t, q9, br9, rfl, ht9, h9, b9', pt⟩
  have Hpt := hide pt
  have hT9 := hT8.but b9' hne7
  have hP9 := hP8.but b9' hne
  have hR9 := hR8.but b9' hne1
  have c9 := b9.trans b9'
  have htb : Tab w9 := ht.next h9.old
  clear pt hT8 hP8 hR8 h8 b9 b9' HT
  have HWn := hide (fun (w : World) (ht : Tab w) => windowOf_any t w ht9 ht)
  have hTd := hT9.drew
  have hPd := hP9.drew
  have hRd := hR9.drew
  have hd := h9.drew
  have cd := c9.drew
  have htd := Tab.drew htb
  have hRT : w.heap.size + 1 ≠ w7.heap.size := by omega
  obtain ⟨t0, t1, tf0, tf1⟩ := id hT9
  obtain ⟨p0, p1, pf0, pf1⟩ := id hP9
  obtain ⟨td0, td1, _, _⟩ := id hTd
  obtain ⟨pd0, pd1, _, _⟩ := id hPd
  by_cases heq : ((P.lz t : Nat) : Int) = c ∧ ((P.tz t : Nat) : Int) = d
  · rw [heq.1, heq.2] at HWn
    by_cases hh : a ≤ (c : Int) ∧ b ≤ d
    · have HB : Hid (decide (Bad t c d a b) = true) := by show _ = _; rw [decide_eq_true_eq]; exact .inr hh
      have HHd := hide (fun w => holds_yes a b c d w hh.1 hh.2)
      clear heq hh
      go_wp2_with fail
      go_region_held3 (fun wx => wx.cell? ⟨w7.heap.size, 0, none⟩ = some (.int .i64 c) ∧ wx.cell? ⟨w7.heap.size, 1, none⟩ = some (.int .i64 d) ∧ wx.cell? ⟨w.heap.size, 0, none⟩ = some (.int .i64 a) ∧ wx.cell? ⟨w.heap.size, 1, none⟩ = some (.int .i64 b)) (refine ⟨?_, ?_, ?_, ?_⟩ <;> ((repeat (with_reducible refine (World.cell?_setCell_other _ _ _ _ (by simp)).trans ?_)); with_reducible assumption)) (first
        | (go_at_call 40; refine (HWn.out _ htd).mono ?_; rintro e wA ⟨rfl, hbA⟩; have hTA := hTd.next hbA; have hPA := hPd.next hbA; have hRA := hRd.next hbA; have hA := hd.next hbA; have cA := cd.trans (But.of (g := g) hbA); obtain ⟨ta0, ta1, taf0, taf1⟩ := id hTA; obtain ⟨pa0, pa1, paf0, paf1⟩ := id hPA)
        | (go_at_call 41; refine (HHd.out _).mono ?_; rintro e wB ⟨rfl, hbB⟩; have hTE := hTA.next hbB; have hPE := hPA.next hbB; have hRE := hRA.next hbB; have hE := hA.next hbB; have cE := cA.trans (But.of (g := g) hbB); obtain ⟨tb0, tb1, tbf0, tbf1⟩ := id hTE; obtain ⟨pb0, pb1, pbf0, pbf1⟩ := id hPE))
      all_goals
        have hRX := hRE.but ((But.refl g _).setCell 3 (.bool true)) hne1
        have hX := hE.setBr
        have cX := cE.setCell 3 (.bool true)
        have hTX := hTE.but ((But.refl g _).setCell 3 (.bool true)) hne7
        obtain ⟨ko, kg, k0, k1, k2, k3, kf2, kf3⟩ := id hE
        obtain ⟨r0, r1, rf0, rf1⟩ := id hRX
        obtain ⟨u0, u1, uf0, uf1⟩ := id hTX
        obtain ⟨u0', u1', _, _⟩ := id hTE
        go_wp2_with fail
        go_region
        all_goals go_wp2
        all_goals
          have q1 := (hRX.set (.int .i64 c) (.int .i64 d)).drew
          refine bodyPost_ret (v := .tuple #[.int .u64 t, winV c d]) (by simp [results, Tryd.results44, go_sem, q1.x0, q1.x1]) rfl ⟨c, d, t, q9, br9, rfl, ?_, ((cX.setNew (by omega) 0 _).setNew (by omega) 1 _).drew, Hpt.out⟩
          rw [HB.out, Bool.or_true]
          exact ((hX.other hne1 (by omega) _).other hne1 (by omega) _).drew
    · have HB : Hid (decide (Bad t c d a b) = false) := by
        show _ = _; rw [decide_eq_false_iff_not]; rintro (hx | hx)
        · exact hx heq
        · exact hh hx
      have HHd := hide (fun w => holds_no a b c d w hh)
      clear heq hh
      go_wp2_with fail
      go_region_held3 (fun wx => wx.cell? ⟨w7.heap.size, 0, none⟩ = some (.int .i64 c) ∧ wx.cell? ⟨w7.heap.size, 1, none⟩ = some (.int .i64 d) ∧ wx.cell? ⟨w.heap.size, 0, none⟩ = some (.int .i64 a) ∧ wx.cell? ⟨w.heap.size, 1, none⟩ = some (.int .i64 b)) (refine ⟨?_, ?_, ?_, ?_⟩ <;> ((repeat (with_reducible refine (World.cell?_setCell_other _ _ _ _ (by simp)).trans ?_)); with_reducible assumption)) (first
        | (go_at_call 40; refine (HWn.out _ htd).mono ?_; rintro e wA ⟨rfl, hbA⟩; have hTA := hTd.next hbA; have hPA := hPd.next hbA; have hRA := hRd.next hbA; have hA := hd.next hbA; have cA := cd.trans (But.of (g := g) hbA); obtain ⟨ta0, ta1, taf0, taf1⟩ := id hTA; obtain ⟨pa0, pa1, paf0, paf1⟩ := id hPA)
        | (go_at_call 41; refine (HHd.out _).mono ?_; rintro e wB ⟨rfl, hbB⟩; have hTE := hTA.next hbB; have hPE := hPA.next hbB; have hRE := hRA.next hbB; have hE := hA.next hbB; have cE := cA.trans (But.of (g := g) hbB); obtain ⟨tb0, tb1, tbf0, tbf1⟩ := id hTE; obtain ⟨pb0, pb1, pbf0, pbf1⟩ := id hPE))
      all_goals
        have hRX := hRE
        have hX := hE
        have cX := cE
        have hTX := hTE
        obtain ⟨ko, kg, k0, k1, k2, k3, kf2, kf3⟩ := id hE
        obtain ⟨r0, r1, rf0, rf1⟩ := id hRX
        obtain ⟨u0, u1, uf0, uf1⟩ := id hTX
        obtain ⟨u0', u1', _, _⟩ := id hTE
        go_wp2_with fail
        go_region
        all_goals go_wp2
        all_goals
          have q1 := (hRX.set (.int .i64 c) (.int .i64 d)).drew
          refine bodyPost_ret (v := .tuple #[.int .u64 t, winV c d]) (by simp [results, Tryd.results44, go_sem, q1.x0, q1.x1]) rfl ⟨c, d, t, q9, br9, rfl, ?_, ((cX.setNew (by omega) 0 _).setNew (by omega) 1 _).drew, Hpt.out⟩
          rw [HB.out, Bool.or_false]
          exact ((hX.other hne1 (by omega) _).other hne1 (by omega) _).drew
  · have HB : Hid (decide (Bad t c d a b) = true) := by show _ = _; rw [decide_eq_true_eq]; exact .inl heq
    obtain ⟨sv, hsv⟩ : ∃ sv, sv = winV (P.lz t : Nat) (P.tz t : Nat) := ⟨_, rfl⟩
    have hq : ∀ w : World, (binOp .neq 51 sv (.agg #[.int .i64 c, .int .i64 d])).run Tryd.prog w = .ok (.bool true) w := by
      intro w; rw [hsv]; exact neq_win w _ _ _ _ heq
    have hgd : ∀ (x y : Operand) (w : World), (eqGuard .neq 51 x y sv (.agg #[.int .i64 c, .int .i64 d])).run Tryd.prog w = .ok () w := by
      intro x y w; rw [hsv]; exact run_eqGuard_agg w _ _ _ _ _ _ (by kernel_rfl)
    rw [← hsv] at HWn
    clear heq hsv
    go_wp2_with fail
    go_region_with (first
      | (go_at_call 40; refine (HWn.out _ htd).mono ?_; rintro e wA ⟨rfl, hbA⟩; have hTA := hTd.next hbA; have hPA := hPd.next hbA; have hRA := hRd.next hbA; have hA := hd.next hbA; have cA := cd.trans (But.of (g := g) hbA); have hTE := hTA; have hRE := hRA; have hE := hA; have cE := cA; obtain ⟨ta0, ta1, taf0, taf1⟩ := id hTA; obtain ⟨pa0, pa1, paf0, paf1⟩ := id hPA))
    all_goals
      have hRX := hRE.but ((But.refl g _).setCell 3 (.bool true)) hne1
      have hX := hE.setBr
      have cX := cE.setCell 3 (.bool true)
      have hTX := hTE.but ((But.refl g _).setCell 3 (.bool true)) hne7
      obtain ⟨ko, kg, k0, k1, k2, k3, kf2, kf3⟩ := id hE
      obtain ⟨r0, r1, rf0, rf1⟩ := id hRX
      obtain ⟨u0, u1, uf0, uf1⟩ := id hTX
      obtain ⟨u0', u1', _, _⟩ := id hTE
      go_wp2_with fail
      go_region
      all_goals go_wp2
      all_goals
        have q1 := (hRX.set (.int .i64 c) (.int .i64 d)).drew
        refine bodyPost_ret (v := .tuple #[.int .u64 t, winV c d]) (by simp [results, Tryd.results44, go_sem, q1.x0, q1.x1]) rfl ⟨c, d, t, q9, br9, rfl, ?_, ((cX.setNew (by omega) 0 _).setNew (by omega) 1 _).drew, Hpt.out⟩
        rw [HB.out, Bool.or_true]
        exact ((hX.other hne1 (by omega) _).other hne1 (by omega) _).drew
end Go.Proofs.YteohlkpejdjenaaDoor
