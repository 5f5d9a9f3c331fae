/- HeavyTells holds: at all K, tallies and keys the law answers true and changes nothing that was there. -/
import Derived.Test.YtcaidfffmllfeaaRefHvFAll
import Derived.Test.YtcaidfffmllfeaaRefHvSAll
import Derived.Test.YtcaidfffmllfeaaRefHvTAll
import Derived.Test.YtcaidfffmllfeaaHeavyBadAll
import Derived.Deep.RegionHeld3
namespace Go.Proofs.Ytcaidfffmllfeaa
open Go.ChangeShapes Go.WideShapes Go.ChangeAt Go.RowKit
set_option linter.unusedVariables false
/-- Empty in one contract. -/
theorem Empty_any (k : Int) (w : World) : Calls Try.prog 9 #[.int .i64 k] w fun e w' => ∃ (k' : Int) (er : Int), e = .returned (.tuple #[aggH (.slice none 0 0) ⟨k', [], 0, 0⟩, .int .i64 er]) ∧ Below w.heap.size w w' ∧ (1 ≤ k ∧ k ≤ 64 → k' = k ∧ er = 0) ∧ (¬ (1 ≤ k ∧ k ≤ 64) → k' = 0 ∧ er = 1) := by
  by_cases h : 1 ≤ k ∧ k ≤ 64
  · refine (Empty_ok k w h).mono ?_
    rintro e w' ⟨rfl, hb⟩
    exact ⟨k, 0, rfl, hb, fun _ => ⟨rfl, rfl⟩, fun hn => absurd h hn⟩
  · refine (Empty_bad k w h).mono ?_
    rintro e w' ⟨rfl, hb⟩
    exact ⟨0, 1, rfl, hb, fun hn => absurd hn h, fun _ => ⟨rfl, rfl⟩⟩
theorem P.adE_cases (s : P.Hv) (key : ByteArray) : (¬ P.Good s ∧ P.adE s key = 4) ∨ (P.Good s ∧ 40 < key.size ∧ P.adE s key = 2) ∨ (P.Good s ∧ key.size ≤ 40 ∧ s.n = 1000000000 ∧ P.adE s key = 2) ∨ (P.Good s ∧ key.size ≤ 40 ∧ s.n ≠ 1000000000 ∧ P.adE s key = 0) := by
  unfold P.adE
  by_cases hg : P.Good s
  · rw [if_neg (not_not_intro hg)]
    by_cases h1 : 40 < key.size
    · rw [if_pos (.inl h1)]; exact .inr (.inl ⟨hg, h1, rfl⟩)
    · by_cases h2 : s.n = 1000000000
      · rw [if_pos (.inr h2)]; exact .inr (.inr (.inl ⟨hg, by omega, h2, rfl⟩))
      · rw [if_neg (by omega)]; exact .inr (.inr (.inr ⟨hg, by omega, h2, rfl⟩))
  · rw [if_pos hg]; exact .inl ⟨hg, rfl⟩
/-- Add in one contract. -/
theorem Add_any (v : Value) (s : P.Hv) (key : ByteArray) (w : World) (hr : RowC w v s.l) (hi : HvI s) (hs : key.size ≤ 9223372036854775807) : Calls Try.prog 10 #[aggH v s, .string key] w fun e w' => ∃ (vb : Value) (B : P.Hv) (er : Int), e = .returned (.tuple #[aggH vb B, .int .i64 er]) ∧ RowC w' vb B.l ∧ Below w.heap.size w w' ∧
    (P.adE s key = 0 → B = P.adH s key ∧ er = 0) ∧ (P.adE s key ≠ 0 → B = z0 ∧ er = P.adE s key) := by
  by_cases h0 : P.adE s key = 0
  · rcases P.adE_cases s key with ⟨_, h⟩ | ⟨_, _, h⟩ | ⟨_, _, _, h⟩ | ⟨hg, h1, h2, h⟩
    · rw [h0] at h; cases h
    · rw [h0] at h; cases h
    · rw [h0] at h; cases h
    · refine (Add_ok v s key w hr hi hg h1 h2).mono ?_
      rintro e w' ⟨v', rfl, ho, hb⟩
      exact ⟨v', _, 0, rfl, ho.row, hb, fun _ => ⟨rfl, rfl⟩, fun hn => absurd h0 hn⟩
  · refine (Add_bad v s key w hr hi hs _ rfl h0).mono ?_
    rintro e w' ⟨rfl, hb⟩
    exact ⟨_, z0, _, rfl, RowX.nil _ _ _, hb, fun hn => absurd hn h0, fun _ => ⟨rfl, rfl⟩⟩
theorem row_zero (w : World) : RowC w (.slice none 0 0) [] := RowX.nil _ _ _
set_option maxHeartbeats 4000000 in
set_option maxRecDepth 100000 in
theorem walk_HeavyTells (k : Int) (v : Value) (s : P.Hv) (key : ByteArray) (w : World) (_ : -9223372036854775808 ≤ k) (_ : k ≤ 9223372036854775807) (hr : RowC w v s.l) (hi : HvI s) (hq : key.size ≤ 140737488351232) :
    Calls Try.prog 3 #[.int .i64 k, aggH v s, .string key] w fun e w' => e = .returned (.bool true) ∧ Below w.heap.size w w' := by
  have hqmax : (key.size : Int) ≤ 9223372036854775807 := by omega
  have HE := hide (fun wx => Empty_any k wx)
  have HA := hide (fun wx (hb : Below w.heap.size w wx) => Add_any v s key wx (hr.below hb (Nat.le_refl _)) hi (by omega))
  have HCt := hide (fun wx (hb : Below w.heap.size w wx) => Count_any v s key wx (hr.below hb (Nat.le_refl _)) hi (by omega))
  have HFt := hide (fun wx (hb : Below w.heap.size w wx) => heavyFault_any v s wx (hr.below hb (Nat.le_refl _)) hi)
  have HCk := hide (fun wx (hb : Below w.heap.size w wx) => check_any v s wx (hr.below hb (Nat.le_refl _)) hi)
  have HCi := hide (fun wx (hb : Below w.heap.size w wx) (hg : P.Good s) => countIn_any v s.l key wx (hr.below hb (Nat.le_refl _)) hg.ok.2)
  have HTl := hide (fun wx (hb : Below w.heap.size w wx) (hg : P.Good s) (hk : key.size ≤ 40) (hn : s.n ≠ 1000000000) => refTallied_any v s key wx (hr.below hb (Nat.le_refl _)) hg hk hn)
  obtain ⟨xs, ys, rfl⟩ := hr.shp
  have HB := hide ((Below.refl _ w).alloc (Nat.le_refl _) (.cells #[.int .i64 s.k, .slice xs s.l.length ys, .int .i64 s.n, .int .i64 s.off] 24))
  have HX := hide (BoxH.new w (.slice xs s.l.length ys) s)
  have HC := hide (P.adE_cases s key)
  clear hr hi
  go_enter Try.func3, Try.ntmps3
  go_upto_region 2 with (go_at_call 9; go_must (refine (HE.out _).mono ?_); rintro e w1 ⟨k', er, rfl, hb1, hE1, hE2⟩)
  have HB1 := hide (Below.next HB.out hb1)
  have hA1 : Below w1.heap.size w1 (w1.alloc (.cells #[.int .i64 k', .slice none 0 0, .int .i64 0, .int .i64 0] 24)) := (Below.refl _ w1).alloc (Nat.le_refl _) _
  have XS1 : BoxH (w1.alloc (.cells #[.int .i64 k', .slice none 0 0, .int .i64 0, .int .i64 0] 24)) w.heap.size (.slice xs s.l.length ys) s := (BoxH.below HX.out hb1).below hA1
  have XA1 : BoxH (w1.alloc (.cells #[.int .i64 k', .slice none 0 0, .int .i64 0, .int .i64 0] 24)) w1.heap.size (.slice none 0 0) ⟨k', [], 0, 0⟩ := BoxH.new w1 _ ⟨k', [], 0, 0⟩
  have HB2 := hide (Below.next HB1.out hA1)
  have HE1 := hide hE1
  have HE2 := hide hE2
  obtain ⟨b0, b1, b2, b3⟩ := XS1.cells
  have HXS1 := hide XS1
  have HXA1 := hide XA1
  clear hb1 hA1 XS1 XA1 hE1 hE2 HX HB HB1 HE
  generalize w1.heap.size = ga at *
  generalize (w1.alloc (.cells #[.int .i64 k', .slice none 0 0, .int .i64 0, .int .i64 0] 24)) = W1 at *
  go_upto_region 3 with (go_at_call 10; go_must (refine (HA.out _ HB2.out).mono ?_); rintro e w3 ⟨vb, B, f, rfl, hrb, hb3, hA1, hA2⟩; obtain ⟨xb, yb, hvb⟩ := hrb.shp; subst hvb)
  have hA4 : Below w3.heap.size w3 (w3.alloc (.cells #[.int .i64 B.k, .slice xb B.l.length yb, .int .i64 B.n, .int .i64 B.off] 24)) := (Below.refl _ w3).alloc (Nat.le_refl _) _
  have HXS2 := hide ((HXS1.out.below hb3).below hA4)
  have HXA2 := hide ((HXA1.out.below hb3).below hA4)
  have HXB2 : Hid (BoxH (w3.alloc (.cells #[.int .i64 B.k, .slice xb B.l.length yb, .int .i64 B.n, .int .i64 B.off] 24)) w3.heap.size (.slice xb B.l.length yb) B) := BoxH.new w3 _ B
  have HRb2 := hide (hrb.below hA4 (Nat.le_refl _))
  have HB4 := hide (Below.next (Below.next HB2.out hb3) hA4)
  have HA1 := hide hA1
  have HA2 := hide hA2
  clear b0 b1 b2 b3 hb3 hA4 hrb hA1 hA2 HXS1 HXA1 HB2 HA
  generalize w3.heap.size = gb at *
  generalize (w3.alloc (.cells #[.int .i64 B.k, .slice xb B.l.length yb, .int .i64 B.n, .int .i64 B.off] 24)) = W2 at *
  obtain ⟨b0, b1, b2, b3⟩ := HXS2.out.cells
  go_upto_region 4 with (go_at_call 11; go_must (refine (HCt.out _ HB4.out).mono ?_); rintro e w4 ⟨rfl, hb4⟩)
  have HXS := hide (HXS2.out.below hb4)
  have HXA := hide (HXA2.out.below hb4)
  have HXB := hide (HXB2.out.below hb4)
  have HRb := hide (hb4 |> fun h => HRb2.out.below h (Nat.le_refl _))
  have HB5 := hide (Below.next HB4.out hb4)
  clear b0 b1 b2 b3 HXS2 HXA2 HXB2 HRb2 HB4 hb4 HCt
  generalize hcn : P.cnN s key = cn at *
  generalize hce : P.cnE s key = ce at *
  have HCn := hide hcn
  have HCe := hide hce
  clear hcn hce
  go_cut [36] from 31 to 36 (fun c wc => c = .bool (decide (k < 1 ∨ 64 < k)) ∧ w4 = wc)
  case first =>
    by_cases h1 : k < 1
    · have hd : decide (k < 1 ∨ 64 < k) = true := by simp; omega
      have HD := hide hd
      clear hd
      go_wp2
      go_meet
      exact ⟨by rw [HD.out], rfl⟩
    · have hd1 : decide (k < 1) = false := by simpa using h1
      by_cases h2 : 64 < k
      · have hd : decide (k < 1 ∨ 64 < k) = true := by simp; omega
        have HD := hide hd
        clear hd h1
        go_wp2
        go_meet
        exact ⟨by rw [HD.out], rfl⟩
      · have hd2 : decide (64 < k) = false := by simpa using h2
        have hd : decide (k < 1 ∨ 64 < k) = false := by simp; omega
        have HD := hide hd
        clear hd h1 h2
        go_wp2
        go_meet
        exact ⟨by rw [HD.out], rfl⟩
  case rest =>
    obtain ⟨rfl, rfl⟩ := hcut
    go_upto_if 36 with fail
    go_cut [] from 31 to 53 (fun wc => Below w4.heap.size w4 wc)
    case first =>
      obtain ⟨a0, a1, a2, a3⟩ := HXA.out.cells
      have HSm := hide (sameHeavy_same _ _ ⟨k', [], 0, 0⟩ w4 (row_zero w4) (row_zero w4))
      by_cases h : 1 ≤ k ∧ k ≤ 64
      · obtain ⟨rfl, rfl⟩ := HE1.out h
        have hd : decide (k' < 1 ∨ 64 < k') = false := by simp; omega
        clear h
        rw [hd]
        go_wp2_with (go_at_call 12; go_must (refine HSm.out.mono ?_); rintro e w5 ⟨rfl, hb5⟩)
        go_meet
        exact hb5
      · obtain ⟨rfl, rfl⟩ := HE2.out h
        have hd : decide (k < 1 ∨ 64 < k) = true := by simp; omega
        clear h
        rw [hd]
        go_wp2_with (go_at_call 12; go_must (refine HSm.out.mono ?_); rintro e w5 ⟨rfl, hb5⟩)
        go_meet
        exact hb5
    case rest =>
      have HXS5 := hide (HXS.out.below hcut)
      have HXB5 := hide (HXB.out.below hcut)
      have HRb5 := hide (HRb.out.below hcut (Nat.le_refl _))
      have HB6 := hide (Below.next HB5.out hcut)
      obtain ⟨b0, b1, b2, b3⟩ := HXS5.out.cells
      clear hcut HXS HXA HXB HRb HB5 HE1 HE2
      rcases HC.out with ⟨hg, he⟩ | ⟨hg, h1, he⟩ | ⟨hg, h1, h2, he⟩ | ⟨hg, h1, h2, he⟩
      · obtain ⟨rfl, rfl⟩ := HA2.out (by rw [he]; decide)
        have hce : ce = 4 := by rw [← HCe.out]; unfold P.cnE; rw [if_pos hg]
        have hcn : cn = 0 := by rw [← HCn.out]; unfold P.cnN; rw [HCe.out, hce]; rfl
        rw [P.chkH_not hg] at HFt HCk
        rw [he]
        subst hce hcn
        clear hg he HC HA1 HA2 HCe HCn HCi HTl
        go_wp2_with fail
        refine (HFt.out _ HB6.out).mono ?_
        rintro e w6 ⟨rfl, hb6⟩
        have HXS6 := hide (HXS5.out.below hb6)
        have HXB6 := hide (HXB5.out.below hb6)
        have HRb6 := hide (HRb5.out.below hb6 (Nat.le_refl _))
        have HB7 := hide (Below.next HB6.out hb6)
        clear b0 b1 b2 b3 HXS5 HXB5 HRb5 HB6 hb6 HFt
        obtain ⟨b0, b1, b2, b3⟩ := HXS6.out.cells
        go_wp2_with fail
        refine (HCk.out _ HB7.out).mono ?_
        rintro e w7 ⟨rfl, hb7⟩
        have HXS7 := hide (HXS6.out.below hb7)
        have HXB7 := hide (HXB6.out.below hb7)
        have HRb7 := hide (HRb6.out.below hb7 (Nat.le_refl _))
        have HB8 := hide (Below.next HB7.out hb7)
        clear b0 b1 b2 b3 HXS6 HXB6 HRb6 HB7 hb7 HCk
        obtain ⟨b0, b1, b2, b3⟩ := HXS7.out.cells
        have HSm := hide (sameHeavy_same _ _ z0 w7 HRb7.out (row_zero w7))
        obtain ⟨c0, c1, c2, c3⟩ := HXB7.out.cells
        simp only [z0] at c0 c1 c2 c3 HSm
        go_wp2_with (go_at_call 12; go_must (refine HSm.out.mono ?_); rintro e w10 ⟨rfl, hb10⟩)
        go_ret
        exact ⟨rfl, Below.next HB8.out hb10⟩
      · obtain ⟨rfl, rfl⟩ := HA2.out (by rw [he]; decide)
        have hce : ce = 2 := by rw [← HCe.out]; exact P.cnE_long hg h1
        have hcn : cn = 0 := by rw [← HCn.out]; exact P.cnN_long hg h1
        rw [P.chkH_ok hg] at HFt HCk
        have d1 : decide (40 < (key.size : Int)) = true := by simp; omega
        rw [he]
        subst hce hcn
        clear hg he h1 HC HA1 HA2 HCe HCn HCi HTl
        go_wp2_with fail
        refine (HFt.out _ HB6.out).mono ?_
        rintro e w6 ⟨rfl, hb6⟩
        have HXS6 := hide (HXS5.out.below hb6)
        have HXB6 := hide (HXB5.out.below hb6)
        have HRb6 := hide (HRb5.out.below hb6 (Nat.le_refl _))
        have HB7 := hide (Below.next HB6.out hb6)
        clear b0 b1 b2 b3 HXS5 HXB5 HRb5 HB6 hb6 HFt
        obtain ⟨b0, b1, b2, b3⟩ := HXS6.out.cells
        go_wp2_with fail
        refine (HCk.out _ HB7.out).mono ?_
        rintro e w7 ⟨rfl, hb7⟩
        have HXS7 := hide (HXS6.out.below hb7)
        have HXB7 := hide (HXB6.out.below hb7)
        have HRb7 := hide (HRb6.out.below hb7 (Nat.le_refl _))
        have HB8 := hide (Below.next HB7.out hb7)
        clear b0 b1 b2 b3 HXS6 HXB6 HRb6 HB7 hb7 HCk
        obtain ⟨b0, b1, b2, b3⟩ := HXS7.out.cells
        have HSm := hide (sameHeavy_same _ _ z0 w7 HRb7.out (row_zero w7))
        obtain ⟨c0, c1, c2, c3⟩ := HXB7.out.cells
        simp only [z0] at c0 c1 c2 c3 HSm
        go_wp2_with (go_at_call 12; go_must (refine HSm.out.mono ?_); rintro e w10 ⟨rfl, hb10⟩)
        go_ret
        exact ⟨rfl, Below.next HB8.out hb10⟩
      · obtain ⟨rfl, rfl⟩ := HA2.out (by rw [he]; decide)
        have hce : ce = 0 := by rw [← HCe.out]; exact P.cnE_short hg (by omega)
        have hcn : cn = P.look s.l key := by rw [← HCn.out]; exact P.cnN_short hg (by omega)
        rw [P.chkH_ok hg] at HFt HCk
        have d1 : decide (40 < (key.size : Int)) = false := by simp; omega
        have d2 : (s.n == 1000000000) = true := by simpa using h2
        have HCi2 := hide (fun wx hb => HCi.out wx hb hg)
        rw [he]
        subst hce hcn
        have d3 : (P.look s.l key != P.look s.l key) = false := by simp
        generalize P.look s.l key = lk at *
        clear hg he h1 h2 HC HA1 HA2 HCe HCn HCi HTl
        go_wp2_with fail
        refine (HFt.out _ HB6.out).mono ?_
        rintro e w6 ⟨rfl, hb6⟩
        have HXS6 := hide (HXS5.out.below hb6)
        have HXB6 := hide (HXB5.out.below hb6)
        have HRb6 := hide (HRb5.out.below hb6 (Nat.le_refl _))
        have HB7 := hide (Below.next HB6.out hb6)
        clear b0 b1 b2 b3 HXS5 HXB5 HRb5 HB6 hb6 HFt
        obtain ⟨b0, b1, b2, b3⟩ := HXS6.out.cells
        go_wp2_with fail
        refine (HCk.out _ HB7.out).mono ?_
        rintro e w7 ⟨rfl, hb7⟩
        have HXS7 := hide (HXS6.out.below hb7)
        have HXB7 := hide (HXB6.out.below hb7)
        have HRb7 := hide (HRb6.out.below hb7 (Nat.le_refl _))
        have HB8 := hide (Below.next HB7.out hb7)
        clear b0 b1 b2 b3 HXS6 HXB6 HRb6 HB7 hb7 HCk
        obtain ⟨b0, b1, b2, b3⟩ := HXS7.out.cells
        go_wp2_with fail
        refine (HCi2.out _ HB8.out).mono ?_
        rintro e w8 ⟨rfl, hb8⟩
        have HXS8 := hide (HXS7.out.below hb8)
        have HXB8 := hide (HXB7.out.below hb8)
        have HRb8 := hide (HRb7.out.below hb8 (Nat.le_refl _))
        have HB9 := hide (Below.next HB8.out hb8)
        clear b0 b1 b2 b3 HXS7 HXB7 HRb7 HB8 hb8
        obtain ⟨b0, b1, b2, b3⟩ := HXS8.out.cells
        obtain ⟨c0, c1, c2, c3⟩ := HXB8.out.cells
        have HSm := hide (sameHeavy_same _ _ z0 w8 HRb8.out (row_zero w8))
        simp only [z0] at c0 c1 c2 c3 HSm
        go_wp2_with (go_at_call 12; go_must (refine HSm.out.mono ?_); rintro e w10 ⟨rfl, hb10⟩)
        go_ret
        exact ⟨rfl, Below.next HB9.out hb10⟩
      · obtain ⟨rfl, rfl⟩ := HA1.out he
        have hce : ce = 0 := by rw [← HCe.out]; exact P.cnE_short hg (by omega)
        have hcn : cn = P.look s.l key := by rw [← HCn.out]; exact P.cnN_short hg (by omega)
        rw [P.chkH_ok hg] at HFt HCk
        have d1 : decide (40 < (key.size : Int)) = false := by simp; omega
        have d2 : (s.n == 1000000000) = false := by simpa using h2
        have HCi2 := hide (fun wx hb => HCi.out wx hb hg)
        have HTl2 := hide (fun wx hb => HTl.out wx hb hg h1 h2)
        subst hce hcn
        have d3 : (P.look s.l key != P.look s.l key) = false := by simp
        generalize P.look s.l key = lk at *
        generalize P.adH s key = R at *
        clear hg he h1 h2 HC HA1 HA2 HCe HCn HCi HTl
        go_wp2_with fail
        refine (HFt.out _ HB6.out).mono ?_
        rintro e w6 ⟨rfl, hb6⟩
        have HXS6 := hide (HXS5.out.below hb6)
        have HXB6 := hide (HXB5.out.below hb6)
        have HRb6 := hide (HRb5.out.below hb6 (Nat.le_refl _))
        have HB7 := hide (Below.next HB6.out hb6)
        clear b0 b1 b2 b3 HXS5 HXB5 HRb5 HB6 hb6 HFt
        obtain ⟨b0, b1, b2, b3⟩ := HXS6.out.cells
        go_wp2_with fail
        refine (HCk.out _ HB7.out).mono ?_
        rintro e w7 ⟨rfl, hb7⟩
        have HXS7 := hide (HXS6.out.below hb7)
        have HXB7 := hide (HXB6.out.below hb7)
        have HRb7 := hide (HRb6.out.below hb7 (Nat.le_refl _))
        have HB8 := hide (Below.next HB7.out hb7)
        clear b0 b1 b2 b3 HXS6 HXB6 HRb6 HB7 hb7 HCk
        obtain ⟨b0, b1, b2, b3⟩ := HXS7.out.cells
        go_wp2_with fail
        refine (HCi2.out _ HB8.out).mono ?_
        rintro e w8 ⟨rfl, hb8⟩
        have HXS8 := hide (HXS7.out.below hb8)
        have HXB8 := hide (HXB7.out.below hb8)
        have HRb8 := hide (HRb7.out.below hb8 (Nat.le_refl _))
        have HB9 := hide (Below.next HB8.out hb8)
        clear b0 b1 b2 b3 HXS7 HXB7 HRb7 HB8 hb8
        obtain ⟨b0, b1, b2, b3⟩ := HXS8.out.cells
        obtain ⟨c0, c1, c2, c3⟩ := HXB8.out.cells
        go_upto_region 20 with fail
        have y0 : w8.drew.cell? ⟨w.heap.size, 0, none⟩ = some (.int .i64 s.k) := b0
        have y1 : w8.drew.cell? ⟨w.heap.size, 1, none⟩ = some (.slice xs s.l.length ys) := b1
        have y2 : w8.drew.cell? ⟨w.heap.size, 2, none⟩ = some (.int .i64 s.n) := b2
        have y3 : w8.drew.cell? ⟨w.heap.size, 3, none⟩ = some (.int .i64 s.off) := b3
        have y4 : w8.drew.cell? ⟨gb, 0, none⟩ = some (.int .i64 R.k) := c0
        have y5 : w8.drew.cell? ⟨gb, 1, none⟩ = some (.slice xb R.l.length yb) := c1
        have y6 : w8.drew.cell? ⟨gb, 2, none⟩ = some (.int .i64 R.n) := c2
        have y7 : w8.drew.cell? ⟨gb, 3, none⟩ = some (.int .i64 R.off) := c3
        have HBd : Hid (Below w.heap.size w w8.drew) := below_dr HB9.out
        have HRd := hide (HRb8.out.below (below_dr (Below.refl _ w8)) (Nat.le_refl _))
        go_region_held3 (fun wx => wx.cell? ⟨w.heap.size, 0, none⟩ = some (.int .i64 s.k) ∧ wx.cell? ⟨w.heap.size, 1, none⟩ = some (.slice xs s.l.length ys) ∧ wx.cell? ⟨w.heap.size, 2, none⟩ = some (.int .i64 s.n) ∧ wx.cell? ⟨w.heap.size, 3, none⟩ = some (.int .i64 s.off) ∧ wx.cell? ⟨gb, 0, none⟩ = some (.int .i64 R.k) ∧ wx.cell? ⟨gb, 1, none⟩ = some (.slice xb R.l.length yb) ∧ wx.cell? ⟨gb, 2, none⟩ = some (.int .i64 R.n) ∧ wx.cell? ⟨gb, 3, none⟩ = some (.int .i64 R.off)) (refine ⟨?_, ?_, ?_, ?_, ?_, ?_, ?_, ?_⟩ <;> with_reducible assumption) (first
          | (go_at_call 16; refine (HTl2.out _ HBd.out).mono ?_; rintro e w9 ⟨v9, rfl, own9, hb9⟩; obtain ⟨x9, k9, hv9⟩ := own9.shp ctC_len; rw [hv9] at own9 ⊢; have t0 := keep_cell y0 hb9; have t1 := keep_cell y1 hb9; have t2 := keep_cell y2 hb9; have t3 := keep_cell y3 hb9; have t4 := keep_cell y4 hb9; have t5 := keep_cell y5 hb9; have t6 := keep_cell y6 hb9; have t7 := keep_cell y7 hb9; have HSm := hide (sameHeavy_same _ _ R w9 (HRd.out.below hb9 (Nat.le_refl _)) own9.row); have HB10 := hide (Below.next HBd.out hb9); clear hv9)
          | (go_at_call 12; refine HSm.out.mono ?_; rintro e w10 ⟨rfl, hb10⟩; have r0 := keep_cell t0 hb10; have r1 := keep_cell t1 hb10; have r2 := keep_cell t2 hb10; have r3 := keep_cell t3 hb10; have r4 := keep_cell t4 hb10; have r5 := keep_cell t5 hb10; have r6 := keep_cell t6 hb10; have r7 := keep_cell t7 hb10))
        go_wp2
        go_ret
        exact ⟨rfl, Below.next HB10.out hb10⟩
set_option maxRecDepth 100000 in
theorem lifted_HeavyTells (os : Os) (started : os.Started) (H : Type) (enc : TypeId × Value → H) :
    ReturnsInHanded {} Try.checked os 3 .any (Rows.heavyTellsSpec.pre6 enc Try.prog Try.f3 Rows.heavyTellsRow.domain false) (Rows.heavyTellsSpec.post enc Try.prog Try.f3 false true false false) := by
  refine returnsInHanded_of_change_sized (C := Try.checked) own started (by kernel_rfl) Try.func3
    (ChangeSpec.witness6 (enc := enc) (C := Try.checked) false ⟨#[], #[.int .i64 0, .agg #[.int .i64 0, .slice none 0 0, .int .i64 0, .int .i64 0], .string ⟨#[]⟩], []⟩ 8 (by kernel_rfl) (by kernel_rfl) (by kernel_rfl) (by kernel_rfl)) ?_
  intro W base args ds gs before hval0 hW hcnd hsz0  _
  have hsz : (DataW.weightsEach Try.prog (Try.f3.params.toList ++ Rows.heavyTellsSpec.plain.varTypes Try.prog) (ds ++ gs)).all (· ≤ reachBytes) = true := hsz0
  have hval : ∀ (j : Nat) t v, Try.f3.params[j]? = some t → args[j]? = some v → Value.okWide Try.prog W .any base t v := hval0
  have hW' := hW
  obtain ⟨p, q, hA0, hV, rfl, hfz, hnd⟩ := hW
  have hA : DataW.TrodAll enc Try.prog W 0 (fun _ => true) true Try.f3.params.toList args.toList ds p := hA0
  rw [Try.params3] at hA hval hsz
  obtain ⟨v0, vs0, d0, ds0, p0, q0, hargs, rfl, rfl, h0, r0⟩ := trodAll_cons hA
  obtain ⟨v1, vs1, d1, ds1, p1, q1, rfl, rfl, rfl, h1, r1⟩ := trodAll_cons r0
  obtain ⟨v2, vs2, d2, ds2, p2, q2, rfl, rfl, rfl, h2, r2⟩ := trodAll_cons r1
  obtain ⟨rfl, rfl, rfl⟩ := trodAll_nil r2
  obtain rfl : args = #[v0, v1, v2] := by cases args; simp_all
  obtain ⟨rfl, rfl⟩ := trodVars_none hV
  have k0 := h0
  have lt0 : ∀ x ∈ p0, x.block < W.heap.size := by obtain ⟨m, hm⟩ := k0; exact DataW.trod_lt m _ _ _ hm
  obtain ⟨a0, rfl, rfl, rfl, w0⟩ := open_int Try.underlying3 (hval 0 3 v0 rfl rfl) h0
  have b0 := bounds_i64 w0
  have k1 := h1
  have lt1 : ∀ x ∈ p1, x.block < W.heap.size := by obtain ⟨m, hm⟩ := k1; exact DataW.trod_lt m _ _ _ hm
  obtain ⟨lv1, x1, rfl, rk1, ri1⟩ := open_heavy (hval 1 24 v1 rfl rfl) h1
  have k2 := h2
  have lt2 : ∀ x ∈ p2, x.block < W.heap.size := by obtain ⟨m, hm⟩ := k2; exact DataW.trod_lt m _ _ _ hm
  obtain ⟨x2, rfl, rfl, rfl, ws2⟩ := Go.ChangeMaps.open_string Try.underlying9 (hval 2 9 v2 rfl rfl) h2
  have rc2 : x2.size ≤ 140737488351232 := by rw [Lib.size_eq]; exact sized_string hsz (j := 2) (t := 9) rfl rfl
  clear hA0 hval0
  refine (walk_HeavyTells a0 lv1 x1 x2 W b0.1 b0.2 rk1 ri1 rc2).mono fun e W' ⟨he, bel⟩ => ?_
  subst he
  exact ⟨_, rfl, _, _, _, [], _, [], hW', trodAll_mk1 (shut_bool Try.underlying4 _), (trodAll_cons_mk (Below.trod laidOut (by kernel_rfl) (of_decide_eq_true (by kernel_rfl)) k0 bel lt0) (trodAll_cons_mk (Below.trod laidOut (by kernel_rfl) (of_decide_eq_true (by kernel_rfl)) k1 bel lt1) (trodAll_cons_mk (Below.trod laidOut (by kernel_rfl) (of_decide_eq_true (by kernel_rfl)) k2 bel lt2) trodAll_mk0))), rfl, bel.frame _, fun h => by cases h⟩

theorem proved_HeavyTells : Rows.HeavyTellsSaid :=
  OpenClaim.holds_of_wide 3 Try.f3 rfl rfl rfl rfl rfl rfl rfl ⟨rfl, rfl, rfl, rfl, rfl⟩ rfl rfl rfl rfl rfl (by kernel_rfl) Try.func3 (by kernel_rfl)
    (of_decide_eq_true (by kernel_rfl)) (by unfold Func.isWrapper; first | (rw [if_pos (by decide +kernel)]; kernel_rfl) | (rw [if_neg (by decide +kernel)]; exact ⟨rfl, rfl⟩))
    (fun os started H enc _ => lifted_HeavyTells os started H enc)
#print axioms proved_HeavyTells
end Go.Proofs.Ytcaidfffmllfeaa
