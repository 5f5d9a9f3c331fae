/- What the document's own Wider answers, behind its first test. -/
import Derived.Test.YtgfjhcjplhlonaaRefWd
import Derived.Deep.RegionWith
namespace Go.Proofs.Ytgfjhcjplhlonaa
open Go.RowKit
set_option linter.unusedVariables false
set_option maxHeartbeats 4000000 in
theorem wider_far (v : Value) (l : List P.Wn) (wd : Int) (w : World) (hr : RowW w v l) (h1 : 1 ≤ wd) (h2 : wd ≤ 1099511627776) (hf : P.far l = true) : Calls Try.prog 11 #[v, .int .i64 wd] w (WPost w (P.rerr l wd) (P.rout l wd)) := by
  have e : P.rerr l wd = 6 := by unfold P.rerr; rw [if_neg (by omega), if_neg (by omega), if_pos hf]
  rw [P.rout_bad (show P.rerr l wd ≠ 0 by omega), e]
  have HF : Hid (∃ (k : Nat) (x : P.Wn), l[k]? = some x ∧ (x.t < -1152921504606846976 ∨ 1152921504606846976 < x.t)) := by
    unfold P.far at hf
    obtain ⟨x, hx, hh⟩ := List.any_eq_true.1 hf
    obtain ⟨k, hk, e⟩ := List.mem_iff_getElem.1 hx
    exact ⟨k, x, by rw [List.getElem?_eq_getElem hk, e], by simpa using hh⟩
  have HG := hide goodTime_any
  obtain ⟨a, cap, rfl, ⟨hlc, hmax, hnn⟩, hcase⟩ := hr
  unfold maxLen at hmax
  have d1 : decide (wd < 1) = false := by simp; omega
  have d2 : decide (1099511627776 < wd) = false := by simp; omega
  clear hf e hnn
  go_enter Try.func11, Try.ntmps11
  go_wp2
  go_loopw [19] (fun i wr => ∃ (k : Nat), k ≤ l.length ∧ i = .int .i64 k ∧ (∀ (j : Nat) (x : P.Wn), j < k → l[j]? = some x → -1152921504606846976 ≤ x.t ∧ x.t ≤ 1152921504606846976) ∧ Below w.heap.size w wr) (fun i _ => l.length - (intOf i).toNat)
  case atStart => exact ⟨0, by omega, rfl, fun j x hj => by omega, Below.refl _ _⟩
  case round =>
    obtain ⟨k, hk, rfl, heq, hB⟩ := hrel
    have HE := hide heq
    clear heq
    by_cases hlt : k < l.length
    · rcases hcase with h | ⟨b, off, rfl, hbs, hcell⟩
      · rw [h] at hlt; simp at hlt
      have j0 : (0 : Int) ≤ (k : Int) := by omega
      have j1 : (k : Int) < (l.length : Int) := by omega
      obtain ⟨x, hx⟩ : ∃ x, l[k]? = some x := ⟨_, List.getElem?_eq_getElem hlt⟩
      obtain ⟨q0, q1, q2, q3, q4, q5, q6⟩ := (RowW.at hcell hx).below hB hbs
      have HX := hide hx
      clear hcell hx
      obtain ⟨t, n, s, mn, mx, f, l'⟩ := x
      simp only at q0 q1 q2 q3 q4 q5 q6
      have HGx := hide (fun w => HG.out t w)
      by_cases ht : -1152921504606846976 ≤ t ∧ t ≤ 1152921504606846976
      · have e : (decide (-1152921504606846976 ≤ t) && decide (t ≤ 1152921504606846976)) = true := by simp; exact ht
        rw [e] at HGx
        have HT := hide ht
        clear ht e
        go_wp2_with (go_at_call 25; go_must (refine (HGx.out _).mono ?_); rintro e w' ⟨rfl, rfl⟩)
        go_roundw
        case rel =>
          refine ⟨k + 1, by omega, by go_num, fun j y hj hy => ?_, hB.alloc hB.size _⟩
          rcases Nat.lt_or_ge j k with h | h
          · exact HE.out j y h hy
          · obtain rfl : j = k := by omega
            have := HX.out
            rw [hy] at this
            cases this
            exact HT.out
        case measure => simp [intOf]; omega
      · have e : (decide (-1152921504606846976 ≤ t) && decide (t ≤ 1152921504606846976)) = false := by
          rw [Bool.and_eq_false_iff, decide_eq_false_iff_not, decide_eq_false_iff_not]; omega
        rw [e] at HGx
        clear ht e
        go_wp2_with (go_at_call 25; go_must (refine (HGx.out _).mono ?_); rintro e w' ⟨rfl, rfl⟩)
        go_ret2
        exact wpost_bad (hB.alloc hB.size _)
    · exfalso
      obtain ⟨i, x, hx, hh⟩ := HF.out
      have hi : i < l.length := (List.getElem?_eq_some_iff.1 hx).1
      have := HE.out i x (by omega) hx
      omega
set_option maxHeartbeats 8000000 in
theorem wider_near (v : Value) (l : List P.Wn) (wd : Int) (w : World) (hr : RowW w v l) (h1 : 1 ≤ wd) (h2 : wd ≤ 1099511627776) (hf : P.far l = false) (hl : l.length ≤ 1000) (hn : ∀ x ∈ l, 1 ≤ x.n ∧ x.n ≤ 1000000000) : Calls Try.prog 11 #[v, .int .i64 wd] w (WPost w (P.rerr l wd) (P.rout l wd)) := by
  have HN := hide (P.rerr_near (l := l) h1 h2 hf)
  have HRo := hide (fun h => P.rout_ok (l := l) (w := wd) h)
  have HRb := hide (fun h => P.rout_bad (l := l) (w := wd) h)
  have HG := hide goodTime_any
  have HS := hide (fun t w ht => startOf_any t wd w ht h1 h2)
  have HTo := hide together_any
  have HW := hide (P.wid_start (P.beg wd) hn hl)
  have hnr : P.Near l := by
    intro y hy
    unfold P.far at hf
    rw [List.any_eq_false] at hf
    have := hf y hy
    simp at this; omega
  have HNr := hide hnr
  have HR0 := hide hr
  obtain ⟨a, cap, rfl, ⟨hlc, hmax, hnn⟩, hcase⟩ := hr
  unfold maxLen at hmax
  have d1 : decide (wd < 1) = false := by simp; omega
  have d2 : decide (1099511627776 < wd) = false := by simp; omega
  clear hf hnn hn hnr
  generalize P.beg wd = g at *
  go_enter Try.func11, Try.ntmps11
  go_wp2
  go_loopw [19] (fun i wr => ∃ (k : Nat), k ≤ l.length ∧ i = .int .i64 k ∧ Below w.heap.size w wr) (fun i _ => l.length - (intOf i).toNat)
  case atStart => exact ⟨0, by omega, rfl, Below.refl _ _⟩
  case round =>
    obtain ⟨k, hk, rfl, hB⟩ := hrel
    by_cases hlt : k < l.length
    · rcases hcase with h | ⟨b, off, rfl, hbs, hcell⟩
      · rw [h] at hlt; simp at hlt
      have j0 : (0 : Int) ≤ (k : Int) := by omega
      have j1 : (k : Int) < (l.length : Int) := by omega
      obtain ⟨x, hx⟩ : ∃ x, l[k]? = some x := ⟨_, List.getElem?_eq_getElem hlt⟩
      obtain ⟨q0, q1, q2, q3, q4, q5, q6⟩ := (RowW.at hcell hx).below hB hbs
      have ht := HNr.out x (List.mem_of_getElem? hx)
      clear hcell hx
      obtain ⟨t, n, s, mn, mx, f, l'⟩ := x
      simp only at q0 q1 q2 q3 q4 q5 q6 ht
      have HGx := hide (fun w => HG.out t w)
      have e : (decide (-1152921504606846976 ≤ t) && decide (t ≤ 1152921504606846976)) = true := by simp; exact ht
      rw [e] at HGx
      clear ht e
      go_wp2_with (go_at_call 25; go_must (refine (HGx.out _).mono ?_); rintro e w' ⟨rfl, rfl⟩)
      go_roundw
      case rel => exact ⟨k + 1, by omega, by go_num, hB.alloc hB.size _⟩
      case measure => simp [intOf]; omega
    · have hd : decide ((k : Int) < (l.length : Int)) = false := by simp; omega
      clear hcase
      go_wp2
      go_loopw [0, 8] (fun v0 vo wr2 => WdOut w g l v0 vo wr2) (fun v0 _ _ => lenX v0)
      case atStart => exact ⟨[], l, HR0.out, HNr.out, OwnW.nil _ _, HW.out, hB⟩
      case round =>
        clear HW HNr HR0 hlc hmax hk hlt hd hB
        obtain ⟨O, R, hrow, hnear, hown, hwid, hB⟩ := hrel
        have hsz := hB.size
        obtain ⟨x0, c0, rfl, ⟨hlc, hmax, hnn⟩, hcase⟩ := id hrow
        unfold maxLen at hmax
        have HRow := hide hrow
        have HNear := hide hnear
        have HWid := hide hwid
        clear hrow hnear hwid
        obtain ⟨ao, co, hvo⟩ := OwnW.shp hown
        rw [hvo] at hown ⊢
        clear hvo
        rcases R with _ | ⟨r, R⟩
        · obtain ⟨he, hcr⟩ := P.wid_end HWid.out
          have HA := HN.out
          rw [hcr] at HA
          have HA2 : Hid (P.rerr l wd = 0) := HA
          have HHe := hide he
          clear he hcr HA
          go_wp2
          go_ret2
          exact ⟨_, by rw [HA2.out]; rfl, by rw [HRo.out HA2.out, ← HHe.out]; exact hown, hB⟩
        · rcases hcase with h | ⟨p, o, rfl, hps, hcell⟩
          · cases h
          have hlen : O.length ≤ 1000 := by have := P.wid_len (P.wid_open HWid.out); omega
          have gR := (RowW.at hcell (k := 0) (x := r) rfl).below hB hps
          rw [Nat.zero_mul, Nat.add_zero] at gR
          clear hcell
          simp only [List.length_cons] at hlc
          have hRl : (0 : Int) < ((R.length + 1 : Nat) : Int) := by omega
          have hR2 : (1 : Int) ≤ (R.length : Int) + 1 := by omega
          have HR1 : Hid (∀ c' o', c' = c0 - 1 → o' = o + 7 → RowW w (.slice (some ⟨p, o', none⟩) R.length c') R) := by
            intro c' o' h1 h2
            have := HRow.out.part 1 R.length (by simp; omega) o' c' (by omega) (by omega)
            simpa using this
          have HR0 : Hid (c0 = 1 → ∀ x c, c ≤ 2 ^ 63 - 1 → RowW w (.slice (some x) 0 c) R) := by
            intro h1 x c hc
            have : R = [] := List.length_eq_zero_iff.1 (by omega)
            subst this
            exact RowX.empty' _ _ w _ _ hc (fun h => by cases h)
          have hnr := HNear.out r List.mem_cons_self
          have HNear2 : Hid (P.Near R) := fun y hy => HNear.out y (List.mem_cons_of_mem _ hy)
          have HOpen := hide (P.wid_open HWid.out)
          have HSr := hide (fun W => HS.out r.t W hnr)
          clear HRow HWid HNear hnr
          generalize g r.t = t at *
          obtain ⟨gr0, gr1, gr2, gr3, gr4, gr5, gr6⟩ := gR
          obtain ⟨r0, r1, r2, r3, r4, r5, r6⟩ := r
          simp only at gr0 gr1 gr2 gr3 gr4 gr5 gr6 HSr
          have hbox := BoxW.new wr ⟨t, r1, r2, r3, r4, r5, r6⟩
          have hbl : Below wr.heap.size wr (wr.alloc (.cells #[.int .i64 t, .int .i64 r1, .int .i64 r2, .int .i64 r3, .int .i64 r4, .int .i64 r5, .int .i64 r6] 34)) := bel_a _ _
          have HBox := hide hbox
          have HBl := hide hbl
          have HOwn := hide hown
          have HB := hide hB
          clear hbox hbl hown hB
          by_cases hc1 : c0 = 1
          · subst hc1
            have HRx := hide (HR0.out rfl)
            clear HR0 HR1
            go_wp2_with (go_at_call 26; go_must (refine (HSr.out _).mono ?_); rintro e w0 ⟨rfl, rfl⟩)
            clear gr0 gr1 gr2 gr3 gr4 gr5 gr6 HSr
            go_loopw [0] (fun v0 wr3 => WdIn w w0 g l O t R.length v0 wr3) (fun v0 _ => lenX v0)
            case atStart => exact ⟨⟨t, r1, r2, r3, r4, r5, r6⟩, R, HRx.out _ _ (by omega), Nat.le_refl _, HNear2.out, rfl, HBox.out, HOpen.out, HBl.out⟩
            case round =>
              obtain ⟨x, S, hrow, hSl, hnear, hxt, hbox, hwid, hB3⟩ := hrel
              obtain ⟨x1, c1, rfl, ⟨hlc1, hmax1, hnn1⟩, hcase1⟩ := id hrow
              unfold maxLen at hmax1
              have HRow := hide hrow
              have HNr3 := hide hnear
              have HWid := hide hwid
              have HB3 := hide hB3
              have hown3 := OwnX.below HOwn.out hB3 (Nat.le_refl _)
              have hbel3 := Below.next HB.out hB3
              have hsz3 := hbel3.size
              obtain ⟨z0, z1, z2, z3, z4, z5, z6⟩ := hbox.at7
              have HBx := hide hbox
              clear hrow hnear hwid hB3 hbox
              rcases S with _ | ⟨s, S⟩
              · have HSh := hide (P.wid_shut HWid.out (.inl rfl))
                obtain ⟨xt, xn, xs, xmn, xmx, xf, xl⟩ := x
                simp only at z0 z1 z2 z3 z4 z5 z6
                go_wp2_with (at_builtin; go_must (refine wp_oneW rfl _ _ rfl w.heap.size w.heap.size w _ _ _ ⟨xt, xn, xs, xmn, xmx, xf, xl⟩ _ rfl hown3 hbel3 (Nat.le_refl _) rfl rfl (by omega) hsz3 hsz3 ?_); intro v4 w4 own4 hb4 _ _)
                go_roundw
                case rel => exact ⟨_, [], HRow.out, HNr3.out, own4, HSh.out, hb4⟩
                case measure => simp [lenX]
              · exfalso
                simp only [List.length_cons] at hSl
                omega
          · clear HR0
            go_wp2_with (go_at_call 26; go_must (refine (HSr.out _).mono ?_); rintro e w0 ⟨rfl, rfl⟩)
            clear gr0 gr1 gr2 gr3 gr4 gr5 gr6 HSr
            go_loopw [0] (fun v0 wr3 => WdIn w w0 g l O t R.length v0 wr3) (fun v0 _ => lenX v0)
            case atStart => exact ⟨⟨t, r1, r2, r3, r4, r5, r6⟩, R, HR1.out _ _ (by omega) (by omega), Nat.le_refl _, HNear2.out, rfl, HBox.out, HOpen.out, HBl.out⟩
            case round =>
              obtain ⟨x, S, hrow, hSl, hnear, hxt, hbox, hwid, hB3⟩ := hrel
              obtain ⟨x1, c1, rfl, ⟨hlc1, hmax1, hnn1⟩, hcase1⟩ := id hrow
              unfold maxLen at hmax1
              have HRow := hide hrow
              have HNr3 := hide hnear
              have HWid := hide hwid
              have HB3 := hide hB3
              have hown3 := OwnX.below HOwn.out hB3 (Nat.le_refl _)
              have hbel3 := Below.next HB.out hB3
              have hsz3 := hbel3.size
              obtain ⟨z0, z1, z2, z3, z4, z5, z6⟩ := hbox.at7
              have HBx := hide hbox
              clear hrow hnear hwid hB3 hbox
              rcases S with _ | ⟨s, S⟩
              · have HSh := hide (P.wid_shut HWid.out (.inl rfl))
                obtain ⟨xt, xn, xs, xmn, xmx, xf, xl⟩ := x
                simp only at z0 z1 z2 z3 z4 z5 z6
                go_wp2_with (at_builtin; go_must (refine wp_oneW rfl _ _ rfl w.heap.size w.heap.size w _ _ _ ⟨xt, xn, xs, xmn, xmx, xf, xl⟩ _ rfl hown3 hbel3 (Nat.le_refl _) rfl rfl (by omega) hsz3 hsz3 ?_); intro v4 w4 own4 hb4 _ _)
                go_roundw
                case rel => exact ⟨_, [], HRow.out, HNr3.out, own4, HSh.out, hb4⟩
                case measure => simp [lenX]
              · rcases hcase1 with h | ⟨p1, o1, rfl, hps1, hcell1⟩
                · cases h
                have gS := (RowW.at hcell1 (k := 0) (x := s) rfl).below hbel3 hps1
                rw [Nat.zero_mul, Nat.add_zero] at gS
                clear hcell1
                simp only [List.length_cons] at hlc1 hSl
                have hSl0 : (0 : Int) < ((S.length + 1 : Nat) : Int) := by omega
                have hS2 : (1 : Int) ≤ (S.length : Int) + 1 := by omega
                have HS1 : Hid (∀ c' o', c' = c1 - 1 → o' = o1 + 7 → RowW w (.slice (some ⟨p1, o', none⟩) S.length c') S) := by
                  intro c' o' h1 h2
                  have := HRow.out.part 1 S.length (by simp; omega) o' c' (by omega) (by omega)
                  simpa using this
                have HS0 : Hid (c1 = 1 → ∀ x c, c ≤ 2 ^ 63 - 1 → RowW w (.slice (some x) 0 c) S) := by
                  intro h1 x c hc
                  have : S = [] := List.length_eq_zero_iff.1 (by omega)
                  subst this
                  exact RowX.empty' _ _ w _ _ hc (fun h => by cases h)
                have hns := HNr3.out s List.mem_cons_self
                have HNr5 := hide HNr3.out
                have HNr4 : Hid (P.Near S) := fun y hy => HNr3.out y (List.mem_cons_of_mem _ hy)
                have HSs := hide (fun W => HS.out s.t W hns)
                have HEq := hide (fun e => P.wid_bo (x := x) (r := s) HWid.out e)
                have HStep := hide (fun e h => P.wid_step (x := x) (r := s) HWid.out e h)
                have HOver := hide (fun e h => P.wid_over (x := x) (r := s) HWid.out e h)
                have HSh := hide (fun (e : ¬ g s.t = x.t) => P.wid_shut (x := x) HWid.out (.inr ⟨s, S, rfl, e⟩))
                have HTs := hide (fun w => HTo.out x s w)
                rw [hxt] at HEq HStep HOver HSh
                clear HNr3 hns HWid
                generalize g s.t = u at *
                obtain ⟨gS0, gS1, gS2, gS3, gS4, gS5, gS6⟩ := id gS
                by_cases hut : u = t
                · have eu : (u == t) = true := by simp [hut]
                  have HStep2 := hide (fun h => HStep.out hut h)
                  have HOver2 := hide (fun h => HOver.out hut h)
                  clear HEq HStep HOver HSh hut
                  have HBt : Hid (∀ z : P.Wn, z = P.bo x s → z.t = t) := by intro z hz; rw [hz, P.bo_t, hxt]
                  generalize P.bo x s = z at *
                  have HBt2 := hide (HBt.out z rfl)
                  have HgS := hide gS
                  have HgX := hide HBx.out.at7
                  clear HBt z0 z1 z2 z3 z4 z5 z6 gS
                  obtain ⟨sa, sb, sc, sd, se, sf, sg⟩ := s
                  obtain ⟨xt, xn, xs, xmn, xmx, xf, xl⟩ := x
                  obtain ⟨y0, y1, y2, y3, y4, y5, y6⟩ := z
                  simp only [wnV] at HTs
                  simp only at gS0 gS1 gS2 gS3 gS4 gS5 gS6 HSs hxt HStep2 HOver2 HBt2
                  clear hxt
                  go_wp2_with (go_at_call 26; go_must (refine (HSs.out _).mono ?_); rintro e w' ⟨rfl, rfl⟩)
                  replace hown3 := hide hown3
                  replace hbel3 := hide hbel3
                  have HWr := hide (fun w2 (h : Below w'.heap.size w' w2) => HBx.out.below h HBx.out.lt)
                  have HW7 := hide (fun w2 (h : Below w'.heap.size w' w2) => (HBx.out.below h HBx.out.lt).at7)
                  obtain ⟨z0, z1, z2, z3, z4, z5, z6⟩ := HgX.out
                  simp only at z0 z1 z2 z3 z4 z5 z6
                  go_region_with (go_at_call 27; refine (HTs.out _).mono ?_; rintro e w2 ⟨rfl, hb2⟩; replace hb2 := below_of_drew hb2; have hbx2 := HWr.out w2 hb2; obtain ⟨k0, k1, k2, k3, k4, k5, k6⟩ := HW7.out w2 hb2; simp only at k0 k1 k2 k3 k4 k5 k6; have f0 := BoxW.unfrozen hbx2 0; have f1 := BoxW.unfrozen hbx2 1; have f2 := BoxW.unfrozen hbx2 2; have f3 := BoxW.unfrozen hbx2 3; have f4 := BoxW.unfrozen hbx2 4; have f5 := BoxW.unfrozen hbx2 5; have f6 := BoxW.unfrozen hbx2 6)
                  all_goals
                    obtain ⟨X, hX⟩ : ∃ X, X = setRowC w2 w0.heap.size 0 (wnC ⟨y0, y1, y2, y3, y4, y5, y6⟩) := ⟨_, rfl⟩
                    have hbX := BoxW.set hbx2 ⟨y0, y1, y2, y3, y4, y5, y6⟩
                    have hblX : Below w0.heap.size w0 (setRowC w2 w0.heap.size 0 (wnC ⟨y0, y1, y2, y3, y4, y5, y6⟩)) := below_setRow _ (Below.next HB3.out hb2) (Nat.le_refl _)
                    change Exit.then _ _ _ _ (setRowC w2 w0.heap.size 0 (wnC ⟨y0, y1, y2, y3, y4, y5, y6⟩))
                    rw [← hX] at hbX hblX ⊢
                    obtain ⟨z0, z1, z2, z3, z4, z5, z6⟩ := hbX.at7
                    simp only at z0 z1 z2 z3 z4 z5 z6
                    have HbX := hide hbX
                    have HblX := hide hblX
                    clear hX hbX hblX hbx2 k0 k1 k2 k3 k4 k5 k6 f0 f1 f2 f3 f4 f5 f6 hb2 HWr HW7 gS0 gS1 gS2 gS3 gS4 gS5 gS6
                    by_cases hN : 1000000000 < y1
                    · have hcr := HOver2.out hN
                      have HA : Hid (P.rerr l wd = 2) := by show _ = _; rw [HN.out, hcr]; rfl
                      have HAb : Hid (P.rout l wd = []) := HRb.out (by rw [HA.out]; decide)
                      clear hcr
                      go_wp2
                      go_ret2
                      exact ⟨_, by rw [HA.out]; rfl, by rw [HAb.out]; exact OwnW.nil _ _, Below.next HB.out HblX.out⟩
                    · have hdN : decide (1000000000 < y1) = false := by simpa using hN
                      have HSt := hide (HStep2.out (by omega))
                      clear hN
                      by_cases hc1' : c1 = 1
                      · subst hc1'
                        have HSx := hide (HS0.out rfl)
                        clear HS0 HS1
                        go_wp2
                        go_roundw
                        case rel => exact ⟨⟨y0, y1, y2, y3, y4, y5, y6⟩, S, HSx.out _ _ (by omega), by omega, HNr4.out, HBt2.out, HbX.out, HSt.out, HblX.out⟩
                        case measure => simp [lenX]
                      · clear HS0
                        go_wp2
                        go_roundw
                        case rel => exact ⟨⟨y0, y1, y2, y3, y4, y5, y6⟩, S, HS1.out _ _ (by omega) (by omega), by omega, HNr4.out, HBt2.out, HbX.out, HSt.out, HblX.out⟩
                        case measure => simp [lenX]
                · have eu : (u == t) = false := by simp [hut]
                  have HSh2 := hide (HSh.out hut)
                  clear HEq HStep HOver HSh hut hxt
                  obtain ⟨xt, xn, xs, xmn, xmx, xf, xl⟩ := x
                  simp only at z0 z1 z2 z3 z4 z5 z6
                  go_wp2_with (first
                    | (go_at_call 26; go_must (refine (HSs.out _).mono ?_); rintro e w' ⟨rfl, rfl⟩)
                    | (at_builtin; go_must (refine wp_oneW rfl _ _ rfl w.heap.size w.heap.size w _ _ _ ⟨xt, xn, xs, xmn, xmx, xf, xl⟩ _ rfl hown3 hbel3 (Nat.le_refl _) rfl rfl (by omega) hsz3 hsz3 ?_); intro v4 w4 own4 hb4 _ _))
                  go_roundw
                  case rel => exact ⟨_, s :: S, HRow.out, HNr5.out, own4, HSh2.out, hb4⟩
                  case measure => simp [lenX]; omega
theorem wider_any (v : Value) (l : List P.Wn) (wd : Int) (w : World) (hr : RowW w v l) (hl : l.length ≤ 1000) (hn : ∀ x ∈ l, 1 ≤ x.n ∧ x.n ≤ 1000000000) : Calls Try.prog 11 #[v, .int .i64 wd] w (WPost w (P.rerr l wd) (P.rout l wd)) := by
  by_cases h : wd < 1 ∨ 1099511627776 < wd
  · exact wider_arg v l wd w hr h
  · cases hf : P.far l with
    | true => exact wider_far v l wd w hr (by omega) (by omega) hf
    | false => exact wider_near v l wd w hr (by omega) (by omega) hf hl hn
end Go.Proofs.Ytgfjhcjplhlonaa
