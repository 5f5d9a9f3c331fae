/- LeastTells holds: at all inputs the law answers true and changes nothing that was there. -/
import Derived.Test.YtpinhcbkfjoopaaLeTuAll
import Derived.Deep.CutRange
namespace Go.Proofs.Ytpinhcbkfjoopaa
open Go.ChangeShapes Go.WideShapes Go.ChangeAt Go.RowKit
set_option linter.unusedVariables false
set_option linter.unusedSimpArgs false
theorem sivs_snoc (k : Nat) (a l : List Int) (x : Int) : P.sivs k a (l ++ [x]) = P.siv k (P.sivs k a l) x := by unfold P.sivs; rw [List.foldl_append]; rfl
theorem KL.noneL (w : World) : KL (w.alloc (.cells #[.int .i64 0, .slice none 0 0] 24)) w.heap.size (.slice none 0 0) z0 := ⟨zero_new w, row_z0 _⟩
set_option maxRecDepth 100000 in
set_option maxHeartbeats 16000000 in
theorem walk_LeastTells (k : Int) (va : Value) (s : P.Ls) (vb : Value) (t : P.Ls) (vy : Value) (bs : List Int) (w : World) (k0 : -9223372036854775808 ≤ k) (k1 : k ≤ 9223372036854775807) (hra : RowK .u64 w va s.h) (hia : LsI s) (hrb : RowK .u64 w vb t.h) (hib : LsI t) (hry : RowB w vy bs) (hbt : Byt bs) (hn : bs.length ≤ 140737488351232) :
    Calls Try.prog 3 #[.int .i64 k, aggL va s, aggL vb t, vy] w fun e w' => e = .returned (.bool true) ∧ Below w.heap.size w w' := by
  obtain ⟨sk, sl⟩ := s
  obtain ⟨tk, tl⟩ := t
  simp only at hra hrb
  have HD := hide (Duo.new (a := ⟨sk, sl⟩) (b := ⟨tk, tl⟩) hra hrb)
  have HEm := hide (fun wx => Empty_any k wx)
  have HAd := hide (fun wx (h : Below w.heap.size w wx) lv (hl : RowK .u64 wx lv sl) => Add_any lv vy ⟨sk, sl⟩ bs wx hl (RowK.below hry h (Nat.le_refl _)) hbt)
  have HMg := hide (fun wx lv mv (hl : RowK .u64 wx lv sl) (hm : RowK .u64 wx mv tl) => Merge_any lv mv ⟨sk, sl⟩ ⟨tk, tl⟩ wx hl hm)
  have HGu := hide (fun wx lv (hl : RowK .u64 wx lv sl) => Guess_any lv ⟨sk, sl⟩ wx hl hia.h)
  have HHo := hide (fun wx (h : Below w.heap.size w wx) => (show Calls Try.prog 16 #[.int .u64 0, vy] wx fun e w' => e = .returned (.int .u64 (P.hof 0 bs : Nat)) ∧ w' = wx from hashOf_any 0 vy bs wx (by decide) (RowK.below hry h (Nat.le_refl _)) hbt))
  have HSame := hide (fun wx u v S (h1 : RowK .u64 wx u S.h) (h2 : RowK .u64 wx v S.h) => SameLeast_yes u v S wx h1 h2)
  have HIa := hide hia.h
  have HIb := hide hib.h
  obtain ⟨aa, ac, hva⟩ := hra.shp
  obtain ⟨ba, bc, hvb⟩ := hrb.shp
  subst hva hvb
  obtain ⟨⟨A, E1⟩, h1⟩ : ∃ p, emp k = p := ⟨_, rfl⟩
  obtain ⟨⟨X, E2⟩, h2⟩ : ∃ p, adl ⟨sk, sl⟩ (P.hof 0 bs : Int) = p := ⟨_, rfl⟩
  obtain ⟨⟨Y, E3⟩, h3⟩ : ∃ p, mrg ⟨sk, sl⟩ ⟨tk, tl⟩ = p := ⟨_, rfl⟩
  obtain ⟨⟨N, E4⟩, h4⟩ : ∃ p, gue ⟨sk, sl⟩ = p := ⟨_, rfl⟩
  rw [h1] at HEm
  rw [h2] at HAd
  rw [h3] at HMg
  rw [h4] at HGu
  simp only at HEm HAd HMg HGu
  have H1 := hide h1
  have H2 := hide h2
  have H3 := hide h3
  have H4 := hide h4
  clear hra hrb hry hbt hia hib h1 h2 h3 h4
  go_enter Try.func3, Try.ntmps3
  go_upto_region 1 with fail
  simp only at HD
  generalize (w.alloc (.cells #[.int .i64 sk, .slice aa sl.length ac] 24)).alloc (.cells #[.int .i64 tk, .slice ba tl.length bc] 24) = W0 at *
  have C1 := hide (HEm.out W0)
  go_upto_region 2 with (go_at_call 8; go_must (refine C1.out.mono ?_); rintro e w1 ⟨v1, rfl, own1, hb1⟩; obtain ⟨p1, q1, rfl⟩ := own1.shape)
  have hbn := below_new w1 (.cells #[.int .i64 A.k, .slice p1 A.h.length q1] 24)
  have HD1 := hide ((HD.out.below hb1).below hbn)
  have HA := hide (KL.new (k := A.k) own1)
  clear hb1 hbn own1 C1 HD HEm
  generalize w1.heap.size = g1 at *
  generalize w1.alloc (.cells #[.int .i64 A.k, .slice p1 A.h.length q1] 24) = W1 at *
  obtain ⟨x0, x1⟩ := HD1.out.x.box.cells
  have C2 := hide (HAd.out W1 HD1.out.bel _ HD1.out.x.row)
  go_upto_region 3 with (go_at_call 9; go_must (refine C2.out.mono ?_); rintro e w2 ⟨v2, rfl, own2, hb2⟩; obtain ⟨p2, q2, rfl⟩ := own2.shape)
  have hbn := below_new w2 (.cells #[.int .i64 X.k, .slice p2 X.h.length q2] 24)
  have HD2 := hide ((HD1.out.below hb2).below hbn)
  have HA2 := hide ((HA.out.below hb2).below hbn)
  have HX := hide (KL.new (k := X.k) own2)
  clear hb2 hbn own2 C2 HD1 HA HAd x0 x1
  generalize w2.heap.size = g2 at *
  generalize w2.alloc (.cells #[.int .i64 X.k, .slice p2 X.h.length q2] 24) = W2 at *
  obtain ⟨x0, x1⟩ := HD2.out.x.box.cells
  obtain ⟨y0, y1⟩ := HD2.out.y.box.cells
  have C3 := hide (HMg.out W2 _ _ HD2.out.x.row HD2.out.y.row)
  go_upto_region 4 with (go_at_call 10; go_must (refine C3.out.mono ?_); rintro e w3 ⟨v3, rfl, own3, hb3⟩; obtain ⟨p3, q3, rfl⟩ := own3.shape)
  have hbn := below_new w3 (.cells #[.int .i64 Y.k, .slice p3 Y.h.length q3] 24)
  have HD3 := hide ((HD2.out.below hb3).below hbn)
  have HA3 := hide ((HA2.out.below hb3).below hbn)
  have HX3 := hide ((HX.out.below hb3).below hbn)
  have HY := hide (KL.new (k := Y.k) own3)
  clear hb3 hbn own3 C3 HD2 HA2 HX HMg x0 x1 y0 y1
  generalize w3.heap.size = g3 at *
  generalize w3.alloc (.cells #[.int .i64 Y.k, .slice p3 Y.h.length q3] 24) = W3 at *
  obtain ⟨x0, x1⟩ := HD3.out.x.box.cells
  have C4 := hide (HGu.out W3 _ HD3.out.x.row)
  go_upto_region 5 with (go_at_call 11; go_must (refine C4.out.mono ?_); rintro e w4 ⟨rfl, hb4⟩)
  have hbn := below_new w4 (.cells #[.int .i64 0, .slice none 0 0] 24)
  have HD4 := hide ((HD3.out.below hb4).below hbn)
  have HA4 := hide ((HA3.out.below hb4).below hbn)
  have HX4 := hide ((HX3.out.below hb4).below hbn)
  have HY4 := hide ((HY.out.below hb4).below hbn)
  have HN := hide (KL.noneL w4)
  clear hb4 hbn C4 HD3 HA3 HX3 HY HGu x0 x1
  go_upto_region 6 with fail
  generalize w4.heap.size = g4 at *
  generalize w4.alloc (.cells #[.int .i64 0, .slice none 0 0] 24) = W4 at *
  go_cut [50] from 45 to 50 (fun c wc => (∃ b : Bool, c = .bool b ∧ Hid (b = decide (k < 2 ∨ 64 < k))) ∧ wc = W4)
  case first =>
    by_cases h2 : k < 2
    · have hd : decide (k < 2) = true := by simpa using h2
      go_wp2
      go_meet
      case rel => exact ⟨⟨_, rfl, hide (by simp [h2])⟩, rfl⟩
    · have hd : decide (k < 2) = false := by simpa using h2
      go_wp2
      go_meet
      case rel => exact ⟨⟨_, rfl, hide (decide_eq_decide.2 (by omega))⟩, rfl⟩
  case rest =>
    obtain ⟨⟨c, rfl, HC⟩, rfl⟩ := hcut
    go_upto_if 50 with fail
    obtain ⟨W5, hW5⟩ : ∃ W5, W5 = wc := ⟨_, rfl⟩
    subst hW5
    go_cut [] from 45 to 67 (fun wx => Below W5.heap.size W5 wx)
    case first =>
      obtain ⟨x0, x1⟩ := HA4.out.box.cells
      obtain ⟨y0, y1⟩ := HN.out.box.cells
      cases c
      rotate_left
      · have hk : k < 2 ∨ 64 < k := of_decide_eq_true HC.out.symm
        have he : A = z0 ∧ E1 = 1 := by have := H1.out; unfold emp at this; rw [if_neg (by omega)] at this; simp only [Prod.mk.injEq] at this; exact ⟨this.1.symm, this.2.symm⟩
        obtain ⟨rfl, rfl⟩ := he
        have C5 := hide (HSame.out W5 _ _ z0 HA4.out.row HN.out.row)
        clear hk
        go_wp2_with fail
        refine C5.out.mono ?_
        rintro e w5 ⟨rfl, hb5⟩
        go_wp2
        go_meet
        case rel => exact hb5
      · have hk : ¬ (k < 2 ∨ 64 < k) := of_decide_eq_false HC.out.symm
        have he : A = ⟨k, []⟩ ∧ E1 = 0 := by have := H1.out; unfold emp at this; rw [if_pos (by omega)] at this; simp only [Prod.mk.injEq] at this; exact ⟨this.1.symm, this.2.symm⟩
        obtain ⟨rfl, rfl⟩ := he
        have C5 := hide (HSame.out W5 _ (.slice none 0 0) ⟨k, []⟩ HA4.out.row (row_z0 _))
        clear hk
        go_wp2_with fail
        refine C5.out.mono ?_
        rintro e w5 ⟨rfl, hb5⟩
        go_wp2
        go_meet
        case rel => exact hb5
    case rest =>
      have HD5 := hide (HD4.out.below hcut)
      have HX5 := hide (HX4.out.below hcut)
      have HY5 := hide (HY4.out.below hcut)
      have HN5 := hide (HN.out.below hcut)
      clear hcut HD4 HA4 HX4 HY4 HN HC H1
      obtain ⟨x0, x1⟩ := HD5.out.x.box.cells
      simp only at x0
      have C6 := hide (LeastFault_any _ ⟨sk, sl⟩ wc HD5.out.x.row)
      obtain ⟨Ec, hEc⟩ : ∃ Ec, P.chkL ⟨sk, sl⟩ = Ec := ⟨_, rfl⟩
      have HEc := hide hEc
      rw [hEc] at C6
      clear hEc
      go_upto_region 12 with (go_at_call 13; go_must (refine C6.out.mono ?_); rintro e w5 ⟨rfl, hb5⟩)
      have HD6 := hide (HD5.out.below hb5)
      have HX6 := hide (HX5.out.below hb5)
      have HY6 := hide (HY5.out.below hb5)
      have HN6 := hide (HN5.out.below hb5)
      clear hb5 C6 HD5 HX5 HY5 HN5 x0 x1
      obtain ⟨x0, x1⟩ := HD6.out.x.box.cells
      simp only at x0
      have C7 := hide (Check_any _ ⟨sk, sl⟩ w5 HD6.out.x.row)
      rw [HEc.out] at C7
      have hdE : (Ec != Ec) = false := by simp
      go_upto_region 14 with (go_at_call 14; go_must (refine C7.out.mono ?_); rintro e w6 ⟨rfl, hb6⟩)
      have HD7 := hide (HD6.out.below hb6)
      have HX7 := hide (HX6.out.below hb6)
      have HY7 := hide (HY6.out.below hb6)
      have HN7 := hide (HN6.out.below hb6)
      clear hb6 C7 HD6 HX6 HY6 HN6 x0 x1 hdE
      by_cases hg : P.LsGood ⟨sk, sl⟩
      · have he : Ec = 0 := by rw [← HEc.out]; exact P.chkL_ok hg
        obtain ⟨K, hK⟩ : ∃ K : Nat, sk = K := ⟨sk.toNat, by have := hg.k2; simp only at this; omega⟩
        subst hK
        have hK64 := hg.k64
        have hKl := hg.len
        have hKu := hg.up
        simp only at hK64 hKl hKu
        have hl1 : sl.length ≤ K := by omega
        have hK2 : K ≤ 64 := by omega
        obtain ⟨h, hh⟩ : ∃ h : Int, (P.hof 0 bs : Int) = h := ⟨_, rfl⟩
        rw [hh] at H2 HHo
        have hx : X = ⟨K, P.siv K sl h⟩ ∧ E2 = 0 := by
          have := H2.out
          rw [adl_ok hg] at this
          simp only [Int.toNat_natCast, lstU_one hKu hl1, Prod.mk.injEq] at this
          exact ⟨this.1.symm, this.2.symm⟩
        have hn2 : N = P.gs K sl ∧ E4 = 0 := by have := H4.out; rw [gue_ok hg] at this; simp only [Int.toNat_natCast, Prod.mk.injEq] at this; exact ⟨this.1.symm, this.2.symm⟩
        obtain ⟨rfl, rfl⟩ := hx
        obtain ⟨rfl, rfl⟩ := hn2
        subst he
        have HG := hide hg
        have HKU := hide hKu
        simp only at HX7
        obtain ⟨R, hR⟩ : ∃ R, P.siv K sl h = R := ⟨_, rfl⟩
        rw [hR] at HX7 ⊢
        have hSv := fun wx lv (hl : RowK .u64 wx lv sl) => Sieved_any lv K sl h wx hl hK2 hl1 hKu
        rw [hR] at hSv
        have HSv := hide hSv
        have HGo := hide (fun wx lv (hl : RowK .u64 wx lv sl) => GuessOf_any lv K sl wx hl hg HIa.out)
        obtain ⟨G, hGG⟩ : ∃ G, P.gs K sl = G := ⟨_, rfl⟩
        rw [hGG] at HGo ⊢
        clear hg H2 H4 HEc hKu hKl hK64 hR hSv hGG hh
        obtain ⟨x0, x1⟩ := HX7.out.box.cells
        obtain ⟨s0, s1⟩ := HD7.out.x.box.cells
        simp only at x0 s0
        have y0 : w6.drew.cell? ⟨g2, 0, none⟩ = some (.int .i64 K) := x0
        have y1 : w6.drew.cell? ⟨g2, 1, none⟩ = some (.slice p2 R.length q2) := x1
        have y2 : w6.drew.cell? ⟨w.heap.size, 0, none⟩ = some (.int .i64 K) := s0
        have y3 : w6.drew.cell? ⟨w.heap.size, 1, none⟩ = some (.slice aa sl.length ac) := s1
        have hdd : Below w6.heap.size w6 w6.drew := below_dr (Below.refl _ _)
        have HH6 := hide (HHo.out w6.drew (HD7.out.below hdd).bel)
        have HS6 := hide (HSv.out w6.drew _ (HD7.out.below hdd).x.row)
        have HXr := hide (HX7.out.below hdd)
        have HDr := hide (HD7.out.below hdd)
        have HYr := hide (HY7.out.below hdd)
        have HNr := hide (HN7.out.below hdd)
        have hGG : ((G : Int) != (G : Int)) = false := by simp
        clear x0 x1 s0 s1 hdd HHo HSv HX7 HY7 HN7 HD7
        go_upto_region 16 with fail
        go_region_held3 (fun wx => wx.cell? ⟨g2, 0, none⟩ = some (.int .i64 K) ∧ wx.cell? ⟨g2, 1, none⟩ = some (.slice p2 R.length q2) ∧ wx.cell? ⟨w.heap.size, 0, none⟩ = some (.int .i64 K) ∧ wx.cell? ⟨w.heap.size, 1, none⟩ = some (.slice aa sl.length ac)) (first | (refine ⟨?_, ?_, ?_, ?_⟩ <;> with_reducible assumption) | go_keep) (first
          | (go_at_call 16; refine HH6.out.mono ?_; rintro e w7 ⟨rfl, rfl⟩)
          | (go_at_call 15; refine HS6.out.mono ?_; rintro e w8 ⟨v8, rfl, own8, hb8⟩; obtain ⟨a8, c8, rfl⟩ := own8.shape; have t0 := keep_cell y0 hb8; have t1 := keep_cell y1 hb8; have t2 := keep_cell y2 hb8; have t3 := keep_cell y3 hb8; have HX8 := hide (HXr.out.below hb8); have HD8 := hide (HDr.out.below hb8); have HY8 := hide (HYr.out.below hb8); have HN8 := hide (HNr.out.below hb8); have HO8 := hide own8.row; clear own8 hb8)
          | (go_at_call 12; refine (HSame.out w8 _ _ ⟨K, R⟩ HX8.out.row HO8.out).mono ?_; rintro e w9 ⟨rfl, hb9⟩; have u0 := keep_cell t0 hb9; have u1 := keep_cell t1 hb9; have u2 := keep_cell t2 hb9; have u3 := keep_cell t3 hb9; have HD9 := hide (HD8.out.below hb9); have HY9 := hide (HY8.out.below hb9); have HN9 := hide (HN8.out.below hb9); clear hb9)
          | (go_at_call 17; refine (HGo.out w9 _ HD9.out.x.row).mono ?_; rintro e w10 ⟨rfl, hb10⟩; have r0 := keep_cell u0 hb10; have r1 := keep_cell u1 hb10; have r2 := keep_cell u2 hb10; have r3 := keep_cell u3 hb10; have HD10 := hide (HD9.out.below hb10); have HY10 := hide (HY9.out.below hb10); have HN10 := hide (HN9.out.below hb10); clear hb10))
        clear y0 y1 y2 y3 t0 t1 t2 t3 u0 u1 u2 u3 r0 r1 r2 r3 HD9 HD8 HDr HX8 HXr HY9 HY8 HYr HN9 HN8 HNr HO8 HS6 HH6 HGo hGG
        obtain ⟨x0, x1⟩ := HD10.out.x.box.cells
        obtain ⟨y0, y1⟩ := HD10.out.y.box.cells
        simp only at x0 y0
        have C11 := hide (LeastFault_any _ ⟨tk, tl⟩ w10 HD10.out.y.row)
        obtain ⟨Et, hEt⟩ : ∃ Et, P.chkL ⟨tk, tl⟩ = Et := ⟨_, rfl⟩
        have HEt := hide hEt
        rw [hEt] at C11
        clear hEt
        go_upto_region 19 with (go_at_call 13; go_must (refine C11.out.mono ?_); rintro e w11 ⟨rfl, hb11⟩)
        have HD11 := hide (HD10.out.below hb11)
        have HY11 := hide (HY10.out.below hb11)
        have HN11 := hide (HN10.out.below hb11)
        clear x0 x1 y0 y1 C11 hb11 HD10 HY10 HN10
        obtain ⟨x0, x1⟩ := HD11.out.x.box.cells
        obtain ⟨y0, y1⟩ := HD11.out.y.box.cells
        simp only at x0 y0
        by_cases hbad : Et ≠ 0 ∨ (K : Int) ≠ tk
        · have hY : Y = z0 ∧ E3 = (if Et ≠ 0 then Et else 1) ∧ E3 ≠ 0 := by
            have h3 := H3.out
            by_cases hgt : P.LsGood ⟨tk, tl⟩
            · have e0 : Et = 0 := by rw [← HEt.out]; exact P.chkL_ok hgt
              have hne : (K : Int) ≠ tk := by rcases hbad with h | h; exact absurd e0 h; exact h
              unfold mrg at h3
              rw [if_neg (by simpa using HG.out), if_neg (by simpa using hgt), if_pos hne] at h3
              simp only [Prod.mk.injEq] at h3
              rw [e0]
              exact ⟨h3.1.symm, by simpa using h3.2.symm, by rw [← h3.2]; decide⟩
            · have e0 : Et = 4 := by rw [← HEt.out]; exact P.chkL_no hgt
              unfold mrg at h3
              rw [if_neg (by simpa using HG.out), if_pos hgt] at h3
              simp only [Prod.mk.injEq] at h3
              rw [e0]
              exact ⟨h3.1.symm, by simpa using h3.2.symm, by rw [← h3.2]; decide⟩
          obtain ⟨rfl, hE3, hE3n⟩ := hY
          by_cases he0 : Et = 0
          · have hne : (K : Int) ≠ tk := by rcases hbad with h | h; exact absurd he0 h; exact h
            have hdn : ((K : Int) != tk) = true := by simpa using hne
            subst he0
            have hE31 : E3 = 1 := by simpa using hE3
            subst hE31
            clear hE3 hE3n hbad hne H3 HEt
            have C12 := hide (HSame.out w11 _ _ z0 HY11.out.row HN11.out.row)
            obtain ⟨p0, p1'⟩ := HY11.out.box.cells
            obtain ⟨n0, n1⟩ := HN11.out.box.cells
            have HB11 := hide HD11.out.bel
            clear HD11 HY11 HN11
            go_wp2_with fail
            refine C12.out.mono ?_
            rintro e w12 ⟨rfl, hb12⟩
            have HB12 := hide (Below.next HB11.out hb12)
            clear hb12 HB11 C12
            go_wp2
            go_ret
            exact ⟨rfl, HB12.out⟩
          · have hd0 : (Et == 0) = false := by simpa using he0
            have hd1 : (Et != 0) = true := by simpa using he0
            have hEE : E3 = Et := by rw [hE3, if_pos he0]
            subst hEE
            have hd2 : (E3 == E3) = true := by simp
            clear hE3 hE3n hbad he0 H3 HEt
            have C12 := hide (HSame.out w11 _ _ z0 HY11.out.row HN11.out.row)
            obtain ⟨p0, p1'⟩ := HY11.out.box.cells
            obtain ⟨n0, n1⟩ := HN11.out.box.cells
            have HB11 := hide HD11.out.bel
            clear HD11 HY11 HN11
            go_wp2_with fail
            refine C12.out.mono ?_
            rintro e w12 ⟨rfl, hb12⟩
            have HB12 := hide (Below.next HB11.out hb12)
            clear hb12 HB11 C12
            go_wp2
            go_ret
            exact ⟨rfl, HB12.out⟩
        · have he0 : Et = 0 := Classical.byContradiction fun h => hbad (.inl h)
          have hkk : (K : Int) = tk := Classical.byContradiction fun h => hbad (.inr h)
          subst hkk
          have hgt : P.LsGood ⟨K, tl⟩ := Classical.byContradiction fun h => by
            have := HEt.out
            rw [P.chkL_no h] at this
            omega
          subst he0
          have hY : Y = ⟨K, P.sivs K sl tl⟩ ∧ E3 = 0 := by
            have h3 := H3.out
            rw [mrg_ok HG.out hgt rfl] at h3
            simp only [Int.toNat_natCast, lstU_two HKU.out hl1, Prod.mk.injEq] at h3
            exact ⟨h3.1.symm, h3.2.symm⟩
          obtain ⟨rfl, rfl⟩ := hY
          have hdn : ((K : Int) != (K : Int)) = false := by simp
          have htl : tl.length ≤ 64 := by have := hgt.len; simp only at this; omega
          have HY12 := HY11
          clear hbad hgt H3 HEt HG HN11 HSame HIa
          go_upto_region 24 with fail
          have hbn := below_new w11 (.cells #[.int .i64 (K : Int), .slice aa sl.length ac] 24)
          have HB12 := hide (HD11.out.below hbn).bel
          have HRt := hide (fun wx (h : Below w11.heap.size w11 wx) => (HD11.out.y.row).below h (Nat.le_refl _))
          have HYf := hide (fun wx (h : Below w11.heap.size w11 wx) => HY11.out.below h)
          have hK0 : KL (w11.alloc (.cells #[.int .i64 (K : Int), .slice aa sl.length ac] 24)) w11.heap.size (.slice aa sl.length ac) ⟨K, sl⟩ := ⟨BoxL.new w11 _ ⟨K, sl⟩, (HD11.out.x.row).below hbn (Nat.le_refl _)⟩
          have HW : Hid (∀ wx, Below w11.heap.size w11 wx → Below w.heap.size w wx) := hide (fun wx h => Below.next HD11.out.bel h)
          have HK0 := hide hK0
          have HBn := hide hbn
          obtain ⟨y0, y1⟩ := (HD11.out.below hbn).y.box.cells
          simp only at y0
          clear hbn hK0 HD11 HY11 HY12 HB12 x0 x1
          have hlm : (tl.length : Int) ≤ 64 := by omega
          generalize hg7 : w11.heap.size = g7 at *
          have HG7 := hide hg7
          clear hg7
          generalize w11.alloc (.cells #[.int .i64 (K : Int), .slice aa sl.length ac] 24) = W12 at *
          go_wp2
          go_loopw [149] (fun iv wr => ∃ (j : Nat) (v : Value) (Q : List Int), iv = .int .i64 j ∧ j ≤ tl.length ∧ KL wr g7 v ⟨K, Q⟩ ∧ Hid (Q = P.sivs K sl (tl.take j)) ∧ Below g7 w11 wr) (fun iv _ => tl.length - (intOf iv).toNat)
          case atStart => exact ⟨0, _, sl, rfl, Nat.zero_le _, HK0.out, hide rfl, HBn.out⟩
          case round =>
            clear y0 y1 HK0 HBn
            obtain ⟨j, v, Q, rfl, hj, hK, HQ, hB⟩ := hrel
            obtain ⟨va', vc', hvv⟩ := hK.row.shp
            simp only at hvv
            subst hvv
            obtain ⟨b0, b1⟩ := hK.box.cells
            have u1 := hK.box.unfrozen 1
            have u0 := hK.box.unfrozen 0
            simp only at b0
            by_cases hlt : j < tl.length
            · have hd : decide ((j : Int) < (tl.length : Int)) = true := by simp; omega
              obtain ⟨a', c', hv, _, hcase⟩ := HRt.out wr hB
              simp only [Value.slice.injEq, true_and] at hv
              obtain ⟨rfl, rfl⟩ := hv
              rcases hcase with h0 | ⟨b, off, rfl, hbs, hcell⟩
              · rw [h0] at hlt; simp at hlt
              have q0 := hcell j hlt
              have j0 : (0 : Int) ≤ (j : Int) := by omega
              have j1 : (j : Int) < (tl.length : Int) := by omega
              obtain ⟨x, hx⟩ : ∃ x, tl[j]? = some x := ⟨_, List.getElem?_eq_getElem hlt⟩
              have hxx : tl.getD j 0 = x := by rw [List.getD_eq_getElem?_getD, hx]; rfl
              rw [hxx] at q0
              have hbot := (P.Bot.self HKU.out hl1).merge (tl.take j)
              have hQb : P.Up Q ∧ Q.length ≤ K := by rw [HQ.out]; exact ⟨hbot.up, hbot.len⟩
              have HN : Hid (P.siv K Q x = P.sivs K sl (tl.take (j + 1))) := hide (by rw [List.take_add_one, hx, HQ.out]; exact (sivs_snoc K sl _ x).symm)
              have HC := hide (Sieved_any _ K Q x wr hK.row hK2 hQb.2 hQb.1)
              obtain ⟨Q2, hQ2⟩ : ∃ Q2, P.siv K Q x = Q2 := ⟨_, rfl⟩
              rw [hQ2] at HC HN
              have HKx := hide hK.box
              have hg7l := hK.box.lt
              clear hcell hx hxx hbot hQb hK hQ2 HQ
              go_wp2_with fail
              refine HC.out.mono ?_
              rintro e w13 ⟨v13, rfl, own13, hb13⟩
              obtain ⟨a13, c13, rfl⟩ := own13.shape
              have hbx := HKx.out.below hb13
              obtain ⟨e0, e1⟩ := hbx.cells
              have f0 := hbx.unfrozen 0
              have f1 := hbx.unfrozen 1
              have hgs := setS_grown w13 g7 (.slice a13 Q2.length c13) ⟨K, Q2⟩
              have hfin : KL (setS w13 g7 (.slice a13 Q2.length c13) ⟨K, Q2⟩) g7 (.slice a13 Q2.length c13) ⟨K, Q2⟩ := ⟨hbx.all _ _, (own13.box hbx hgs).row⟩
              have hbf : Below g7 w11 (setS w13 g7 (.slice a13 Q2.length c13) ⟨K, Q2⟩) := Below.setS' (hB.trans (hb13.mono (by omega))) (Nat.le_refl _) _ _
              have HF := hide hfin
              have HBF := hide hbf
              clear hfin hbf hgs own13 hb13 hbx HKx HC hB b0 b1 u0 u1
              go_wp2
              go_roundw
              case rel => exact ⟨j + 1, _, Q2, by go_num, by omega, HF.out, HN, HBF.out⟩
              case measure => simp [intOf]; omega
            · have hd : decide ((j : Int) < (tl.length : Int)) = false := by simp; omega
              obtain rfl : j = tl.length := by omega
              rw [List.take_length] at HQ
              have hQ := HQ.out
              have HYl := hide (HYf.out wr hB)
              rw [← hQ] at HYl
              obtain ⟨m0, m1⟩ := HYl.out.box.cells
              simp only at m0
              have C14 := hide (SameLeast_yes _ _ ⟨K, Q⟩ wr HYl.out.row hK.row)
              have HB14 := hide (HW.out wr hB)
              clear hQ HQ HYl hK hB HYf HRt HW
              go_wp2_with fail
              refine C14.out.mono ?_
              rintro e w15 ⟨rfl, hb15⟩
              have HB15 := hide (Below.next HB14.out hb15)
              clear hb15 HB14 C14
              go_wp2
              go_ret
              exact ⟨rfl, HB15.out⟩
      · have he : Ec = 4 := by rw [← HEc.out]; exact P.chkL_no hg
        have hx : X = z0 ∧ E2 = 4 := by have := H2.out; rw [adl_no hg] at this; simp only [Prod.mk.injEq] at this; exact ⟨this.1.symm, this.2.symm⟩
        have hy : Y = z0 ∧ E3 = 4 := by
          have := H3.out
          unfold mrg at this; rw [if_pos hg] at this; simp only [Prod.mk.injEq] at this; exact ⟨this.1.symm, this.2.symm⟩
        have hn2 : N = 0 ∧ E4 = 4 := by have := H4.out; rw [gue_no hg] at this; simp only [Prod.mk.injEq] at this; exact ⟨this.1.symm, this.2.symm⟩
        obtain ⟨rfl, rfl⟩ := hx
        obtain ⟨rfl, rfl⟩ := hy
        obtain ⟨rfl, rfl⟩ := hn2
        subst he
        clear hg H2 H3 H4 HEc
        obtain ⟨x0, x1⟩ := HX7.out.box.cells
        obtain ⟨n0, n1⟩ := HN7.out.box.cells
        have C8 := hide (HSame.out w6 _ _ z0 HX7.out.row HN7.out.row)
        go_wp2_with fail
        refine C8.out.mono ?_
        rintro e w7 ⟨rfl, hb7⟩
        have HB7 := hide (HD7.out.below hb7).bel
        have HY8 := hide (HY7.out.below hb7)
        have HN8 := hide (HN7.out.below hb7)
        clear x0 x1 n0 n1 C8 hb7 HD7 HX7 HY7 HN7
        obtain ⟨x0, x1⟩ := HY8.out.box.cells
        obtain ⟨n0, n1⟩ := HN8.out.box.cells
        have C9 := hide (HSame.out w7 _ _ z0 HY8.out.row HN8.out.row)
        go_wp2_with fail
        refine C9.out.mono ?_
        rintro e w8 ⟨rfl, hb8⟩
        have HB8 := hide (Below.next HB7.out hb8)
        clear hb8 HB7 C9
        go_wp2
        go_ret
        exact ⟨rfl, HB8.out⟩
set_option maxRecDepth 100000 in
theorem lifted_LeastTells (os : Os) (started : os.Started) (H : Type) (enc : TypeId × Value → H) :
    ReturnsInHanded {} Try.checked os 3 .any (Rows.leastTellsSpec.pre6 enc Try.prog Try.f3 Rows.leastTellsRow.domain false) (Rows.leastTellsSpec.post enc Try.prog Try.f3 false true false false) := by
  refine returnsInHanded_of_change_sized (C := Try.checked) own started (by kernel_rfl) Try.func3
    (ChangeSpec.witness6 (enc := enc) (C := Try.checked) false ⟨#[], #[.int .i64 0, .agg #[.int .i64 0, .slice none 0 0], .agg #[.int .i64 0, .slice none 0 0], .slice none 0 0], []⟩ 8 (by kernel_rfl) (by kernel_rfl) (by kernel_rfl) (by kernel_rfl)) ?_
  intro W base args ds gs before hval0 hW hcnd hsz0  _
  have hsz : (DataW.weightsEach Try.prog (Try.f3.params.toList ++ Rows.leastTellsSpec.plain.varTypes Try.prog) (ds ++ gs)).all (· ≤ reachBytes) = true := hsz0
  have hval : ∀ (j : Nat) t v, Try.f3.params[j]? = some t → args[j]? = some v → Value.okWide Try.prog W .any base t v := hval0
  have hW' := hW
  obtain ⟨p, q, hA0, hV, rfl, hfz, hnd⟩ := hW
  have hA : DataW.TrodAll enc Try.prog W 0 (fun _ => true) true Try.f3.params.toList args.toList ds p := hA0
  rw [Try.params3] at hA hval hsz
  obtain ⟨v0, vs0, d0, ds0, p0, q0, hargs, rfl, rfl, h0, r0⟩ := trodAll_cons hA
  obtain ⟨v1, vs1, d1, ds1, p1, q1, rfl, rfl, rfl, h1, r1⟩ := trodAll_cons r0
  obtain ⟨v2, vs2, d2, ds2, p2, q2, rfl, rfl, rfl, h2, r2⟩ := trodAll_cons r1
  obtain ⟨v3, vs3, d3, ds3, p3, q3, rfl, rfl, rfl, h3, r3⟩ := trodAll_cons r2
  obtain ⟨rfl, rfl, rfl⟩ := trodAll_nil r3
  obtain rfl : args = #[v0, v1, v2, v3] := by cases args; simp_all
  obtain ⟨rfl, rfl⟩ := trodVars_none hV
  have k0 := h0
  have lt0 : ∀ x ∈ p0, x.block < W.heap.size := by obtain ⟨m, hm⟩ := k0; exact DataW.trod_lt m _ _ _ hm
  obtain ⟨a0, rfl, rfl, rfl, w0⟩ := open_int Try.underlying3 (hval 0 3 v0 rfl rfl) h0
  have b0 := bounds_i64 w0
  have k1 := h1
  have lt1 : ∀ x ∈ p1, x.block < W.heap.size := by obtain ⟨m, hm⟩ := k1; exact DataW.trod_lt m _ _ _ hm
  obtain ⟨lv1, x1, rfl, rk1, ri1⟩ := open_least (hval 1 24 v1 rfl rfl) h1
  have k2 := h2
  have lt2 : ∀ x ∈ p2, x.block < W.heap.size := by obtain ⟨m, hm⟩ := k2; exact DataW.trod_lt m _ _ _ hm
  obtain ⟨lv2, x2, rfl, rk2, ri2⟩ := open_least (hval 2 24 v2 rfl rfl) h2
  have k3 := h3
  have lt3 : ∀ x ∈ p3, x.block < W.heap.size := by obtain ⟨m, hm⟩ := k3; exact DataW.trod_lt m _ _ _ hm
  obtain ⟨s3, len3, cap3, rfl⟩ := okWide_slice Try.underlying25 (hval 3 25 v3 rfl rfl)
  obtain ⟨l3, row3, wf3, sh3⟩ := open_row Try.underlying25 Try.underlying5 cells5 h3
  have rc3 := row_reach hsz (j := 3) (t := 25) rfl rfl Try.underlying25 sh3
  rw [bytes5, Nat.mul_one] at rc3
  clear hA0 hval0
  refine (walk_LeastTells a0 lv1 x1 lv2 x2 (.slice s3 len3 cap3) l3 W b0.1 b0.2 rk1 ri1 rk2 ri2 row3 (wf_bytes wf3) rc3).mono fun e W' ⟨he, bel⟩ => ?_
  subst he
  exact ⟨_, rfl, _, _, _, [], _, [], hW', trodAll_mk1 (shut_bool Try.underlying4 _), (trodAll_cons_mk (Below.trod laidOut (by kernel_rfl) (of_decide_eq_true (by kernel_rfl)) k0 bel lt0) (trodAll_cons_mk (Below.trod laidOut (by kernel_rfl) (of_decide_eq_true (by kernel_rfl)) k1 bel lt1) (trodAll_cons_mk (Below.trod laidOut (by kernel_rfl) (of_decide_eq_true (by kernel_rfl)) k2 bel lt2) (trodAll_cons_mk (Below.trod laidOut (by kernel_rfl) (of_decide_eq_true (by kernel_rfl)) k3 bel lt3) trodAll_mk0)))), rfl, bel.frame _, fun h => by cases h⟩

theorem proved_LeastTells : Rows.LeastTellsSaid :=
  OpenClaim.holds_of_wide 3 Try.f3 rfl rfl rfl rfl rfl rfl rfl ⟨rfl, rfl, rfl, rfl, rfl⟩ rfl rfl rfl rfl rfl (by kernel_rfl) Try.func3 (by kernel_rfl)
    (of_decide_eq_true (by kernel_rfl)) (by unfold Func.isWrapper; first | (rw [if_pos (by decide +kernel)]; kernel_rfl) | (rw [if_neg (by decide +kernel)]; exact ⟨rfl, rfl⟩))
    (fun os started H enc _ => lifted_LeastTells os started H enc)
#print axioms proved_LeastTells
end Go.Proofs.Ytpinhcbkfjoopaa
