/- Several texts in one. -/
import Derived.Test.YtpinhcbkfjoopaaSoPinAll
import Derived.Test.YtpinhcbkfjoopaaSoRevAll
import Derived.Test.YtpinhcbkfjoopaaSoHeapAll
import Derived.Test.YtpinhcbkfjoopaaSoPeqAll
import Derived.Test.YtpinhcbkfjoopaaSoPrtAll
import Derived.Test.YtpinhcbkfjoopaaSoPivAll
import Derived.Test.YtpinhcbkfjoopaaSoBrk2All
import Derived.Deep.CutRange
/- Numbers below 2^64: pdqsort. -/
namespace Go.Proofs.Ytpinhcbkfjoopaa
open Go.RowKit
set_option linter.unusedVariables false
set_option maxHeartbeats 16000000 in
set_option maxRecDepth 1000000 in
/-- A part is sorted, whatever the limit; what stands ahead of it is none of it. -/
theorem pdq_u {B : Nat} {w0 : World} {g n cap : Nat} (hn : n ≤ 1152921504606846976) (N : Nat) : ∀ (w : World) (d : Array Int) (h : InR B w0 g n cap w d) (a b lim : Nat) (hN : b - a < N) (hab : a ≤ b) (hb : b ≤ n) (hlim : lim ≤ 1000) (hB : Hid (Sort.Below Sort.ltInt a b d)),
    Calls Try.prog 38 #[.slice (some ⟨g, 0, none⟩) n cap, .int .i64 a, .int .i64 b, .int .i64 lim] w fun e w' =>
      e = .returned (.tuple #[]) ∧ ∃ R, InR B w0 g n cap w' R ∧ Sort.PermIn a b d R ∧ Sort.SortedIn Sort.ltInt a b R := by
  induction N with
  | zero => intro w d h a b lim hN; exact absurd hN (Nat.not_lt_zero _)
  | succ N ih =>
    intro w d h a b lim hN hab hb hlim hB
    have IH := hide ih
    clear ih
    go_enter Try.func38, Try.ntmps38
    go_wp2
    go_loopw [1, 2, 3, 8, 9] (fun v1 v2 v3 v8 v9 wr => ∃ (x y lm : Nat) (wb wp : Bool) (dk : Array Int), v1 = .int .i64 x ∧ v2 = .int .i64 y ∧ v3 = .int .i64 lm ∧ v8 = .bool wb ∧ v9 = .bool wp ∧ x ≤ y ∧ y ≤ n ∧ y - x < N + 1 ∧ lm ≤ 1000 ∧ InR B w0 g n cap wr dk ∧ Hid (Sort.Below Sort.ltInt x y dk) ∧
        Hid (∀ R, Sort.PermIn x y dk R → Sort.SortedIn Sort.ltInt x y R → Sort.PermIn a b d R ∧ Sort.SortedIn Sort.ltInt a b R)) (fun v1 v2 _ _ _ _ => (numOf v2 - numOf v1).toNat)
    case atStart => exact ⟨a, b, lim, true, true, d, rfl, rfl, rfl, rfl, rfl, hab, hb, hN, hlim, h, hB, hide fun R h1 h2 => ⟨h1, h2⟩⟩
    case round =>
      clear h hB hab hb hN hlim
      obtain ⟨x, y, lm, wb, wp, dk, rfl, rfl, rfl, rfl, rfl, hxy, hyn, hN, hlm, hk, HB, HT⟩ := hrel
      obtain ⟨l, hl⟩ : ∃ l, l = y - x := ⟨_, rfl⟩
      have el : IntKind.i64.wrap ((y : Int) - (x : Int)) = (l : Int) := by rw [IntKind.wrap_i64]; omega
      have l0 : (l : Int) ≤ 1152921504606846976 := by omega
      have HL := hide hl
      clear hl
      by_cases h12 : l ≤ 12
      · have hd12 : decide ((l : Int) ≤ 12) = true := by simp; omega
        have HC := hide (ins_u hk x y hxy hyn hn)
        have HS := hide (Sort.insertionSort_holds Sort.swo_ltInt dk x y hxy (by rw [hk.size]; exact hyn))
        clear hk
        go_wp2_with fail
        refine HC.out.mono ?_
        rintro e w1 ⟨rfl, hk1⟩
        go_wp2
        (try simp only [Exit.inBlock, Exit.then]); refine bodyPost_ret (results_none rfl _ _ _) rfl ?_
        exact ⟨rfl, _, hk1, HT.out _ HS.out.1 HS.out.2⟩
      · have hd12 : decide ((l : Int) ≤ 12) = false := by simp; omega
        have hxy12 : x + 12 < y := by have := HL.out; omega
        by_cases hl0 : lm = 0
        · have hd0 : ((lm : Int) == 0) = true := by simp; omega
          have HC := hide (heap_u hk x y hxy hyn hn)
          have HS := hide (Sort.heapSort_holds Sort.swo_ltInt dk x y hxy (by rw [hk.size]; exact hyn))
          clear hk
          go_wp2_with fail
          refine HC.out.mono ?_
          rintro e w1 ⟨rfl, hk1⟩
          go_wp2
          (try simp only [Exit.inBlock, Exit.then]); refine bodyPost_ret (results_none rfl _ _ _) rfl ?_
          exact ⟨rfl, _, hk1, HT.out _ HS.out.1 HS.out.2⟩
        · have hd0 : ((lm : Int) == 0) = false := by simp; omega
          go_upto_if 35 with fail
          go_cut [3] from 19 to 133 (fun v3 wc => ∃ (lm' : Nat) (d1 : Array Int), v3 = .int .i64 lm' ∧ lm' ≤ 1000 ∧ InR B w0 g n cap wc d1 ∧ Hid (Sort.PermIn x y dk d1))
          case first =>
            cases wb
            · have HC := hide (brk_u hk x y hxy12 hyn hn)
              obtain ⟨l1, hl1⟩ : ∃ l1, l1 + 1 = lm := ⟨lm - 1, by omega⟩
              have el1 : IntKind.i64.wrap ((lm : Int) - 1) = (l1 : Int) := by rw [IntKind.wrap_i64]; omega
              have l1b : l1 ≤ 1000 := by omega
              clear hk hl1
              go_wp2_with fail
              refine HC.out.mono ?_
              rintro e w1 ⟨rfl, d1, hk1, hp1⟩
              have HP := hide hp1
              clear hp1
              go_wp2
              go_meet
              case rel => exact ⟨l1, d1, rfl, l1b, hk1, HP⟩
            · go_wp2
              go_meet
              case rel => exact ⟨lm, dk, rfl, hlm, hk, hide (Sort.permIn_refl dk x y)⟩
          case rest =>
            clear hk hlm hl0 hd0
            obtain ⟨lm', d1, rfl, hlm', hk1, HP1⟩ := hcut
            have HC := hide (piv_u hk1 x y hxy12 hyn hn)
            clear hk1
            go_upto_if 50 with fail
            refine HC.out.mono ?_
            rintro e w2 ⟨m, o, rfl, hm1, hm2, hk2⟩
            clear HC
            go_upto_if 50 with fail
            go_cut [11, 12] from 19 to 133 (fun v11 v12 wc => ∃ (m' : Nat) (o' : Int) (d2 : Array Int), v11 = .int .i64 m' ∧ v12 = .int .i64 o' ∧ x ≤ m' ∧ m' < y ∧ InR B w0 g n cap wc d2 ∧ Hid (Sort.PermIn x y d1 d2))
            case first =>
              by_cases ho : o = 2
              · have hdo : (o == 2) = true := by simp [ho]
                have HC := hide (rev_u hk2 x y hxy hyn hn)
                obtain ⟨y1, hy1⟩ : ∃ y1, y1 + 1 = y := ⟨y - 1, by omega⟩
                obtain ⟨q, hq⟩ : ∃ q, q + x = m := ⟨m - x, by omega⟩
                obtain ⟨r, hr⟩ : ∃ r, r + q = y1 := ⟨y1 - q, by omega⟩
                have e1 : IntKind.i64.wrap ((y : Int) - 1) = (y1 : Int) := by rw [IntKind.wrap_i64]; omega
                have e2 : IntKind.i64.wrap ((m : Int) - (x : Int)) = (q : Int) := by rw [IntKind.wrap_i64]; omega
                have e3 : IntKind.i64.wrap ((y1 : Int) - (q : Int)) = (r : Int) := by rw [IntKind.wrap_i64]; omega
                have r1 : x ≤ r := by omega
                have r2 : r < y := by omega
                clear hk2 ho hy1 hq hr
                go_wp2_with fail
                refine HC.out.mono ?_
                rintro e w3 ⟨rfl, d2, hk3, hp2⟩
                have HP := hide hp2
                clear hp2
                go_wp2
                go_meet
                case rel => exact ⟨r, 1, d2, rfl, rfl, r1, r2, hk3, HP⟩
              · have hdo : (o == 2) = false := by simpa using ho
                go_wp2
                go_meet
                case rel => exact ⟨m, o, d1, rfl, rfl, hm1, hm2, hk2, hide (Sort.permIn_refl d1 x y)⟩
            case rest =>
              clear hk2 hm1 hm2
              obtain ⟨p, o', d2, rfl, rfl, hp1, hp2, hk2, HP2⟩ := hcut
              go_upto_region 15 with fail
              go_cut [68] from 19 to 133 (fun v68 wx => (∃ t : Bool, v68 = .bool t) ∧ wx = wc)
              case first =>
                cases wb <;> cases wp <;> by_cases ho : o' = 1
                all_goals
                  have hdo : (o' == 1) = decide (o' = 1) := rfl
                  (first | rw [decide_eq_true ho] at hdo | rw [decide_eq_false ho] at hdo)
                  go_wp2
                  go_meet
                  case rel => exact ⟨⟨_, rfl⟩, rfl⟩
              case rest =>
                obtain ⟨⟨t, rfl⟩, rfl⟩ := hcut
                go_upto_if 68 with fail
                go_cut [] from 19 to 133 (fun wx => ∃ d3 : Array Int, InR B w0 g n cap wx d3 ∧ Hid (Sort.PermIn x y dk d3))
                case first =>
                  have HP := hide (Sort.permIn_trans _ _ _ _ _ HP1.out HP2.out)
                  have hsz : dk.size = n := by have := HP.out.1; have := hk2.size; omega
                  cases t
                  · go_wp2
                    go_meet
                    case rel => exact ⟨d2, hk2, HP⟩
                  · have hc := par_u hk2 x y (by omega) hyn hn
                    have hs := Sort.partialInsertionSort_holds Sort.swo_ltInt d2 x y (by omega) (by rw [hk2.size]; exact hyn) (Sort.Below.permA Sort.permIn_all (by omega) HB.out HP.out)
                    obtain ⟨⟨d3, t3⟩, hq⟩ : ∃ q, Sort.partialInsertionSort Sort.ltInt d2 x y = q := ⟨_, rfl⟩
                    rw [hq] at hc hs
                    simp only at hc hs
                    have HC := hide hc
                    have HS := hide hs
                    clear hc hs hq hk2
                    cases t3
                    · go_wp2_with fail
                      refine HC.out.mono ?_
                      rintro e w4 ⟨rfl, hk3⟩
                      go_wp2
                      go_meet
                      case rel => exact ⟨d3, hk3, hide (Sort.permIn_trans _ _ _ _ _ HP.out HS.out.1)⟩
                    · go_wp2_with fail
                      refine HC.out.mono ?_
                      rintro e w4 ⟨rfl, hk3⟩
                      go_wp2
                      (try simp only [Exit.inBlock, Exit.then]); refine bodyPost_ret (results_none rfl _ _ _) rfl ?_
                      exact ⟨rfl, d3, hk3, HT.out _ (Sort.permIn_trans _ _ _ _ _ HP.out HS.out.1) (HS.out.2 (by first | rfl | trivial))⟩
                case rest =>
                  clear hk2
                  obtain ⟨d3, hk3, HP3⟩ := hcut
                  have hsz : dk.size = n := by have := HP3.out.1; have := hk3.size; omega
                  have hsz3 := hk3.size
                  have HB3 := hide (Sort.Below.permA Sort.permIn_all (by omega) HB.out HP3.out)
                  have H3 : Hid (∀ R, Sort.PermIn x y d3 R → Sort.SortedIn Sort.ltInt x y R → Sort.PermIn a b d R ∧ Sort.SortedIn Sort.ltInt a b R) := hide fun R h1 h2 => HT.out R (Sort.permIn_trans _ _ _ _ _ HP3.out h1) h2
                  clear HB HT HP1 HP2 HP3
                  obtain ⟨u, hu⟩ : ∃ u, d3[x - 1]! = u := ⟨_, rfl⟩
                  obtain ⟨v, hv⟩ : ∃ v, d3[p]! = v := ⟨_, rfl⟩
                  have HU := hide hu
                  have HV := hide hv
                  clear hu hv
                  go_upto_region 17 with fail
                  go_cut [87] from 19 to 133 (fun v87 wx => (∃ c : Bool, v87 = .bool c ∧ Hid (c = decide (0 < x ∧ v ≤ u))) ∧ InR B w0 g n cap wx d3)
                  case first =>
                    obtain ⟨x1, hx1⟩ : ∃ x1, x1 = x - 1 := ⟨_, rfl⟩
                    have c1 := hk3.cell x1 (by omega)
                    have c2 := hk3.cell p (by omega)
                    have f1 := hk3.free x1
                    have f2 := hk3.free p
                    rw [show d3[x1]! = u by rw [hx1]; exact HU.out] at c1
                    rw [HV.out] at c2
                    have HK3 := hide hk3
                    clear hk3
                    have i0 : (0 : Int) ≤ (x1 : Int) := by omega
                    have i1 : (x1 : Int) < (n : Int) := by omega
                    have i2 : (0 : Int) ≤ (p : Int) := by omega
                    have i3 : (p : Int) < (n : Int) := by omega
                    by_cases hx : 0 < x
                    · have hdx : decide (0 < (x : Int)) = true := by simp; omega
                      have ex : IntKind.i64.wrap ((x : Int) - 1) = (x1 : Int) := by rw [IntKind.wrap_i64]; omega
                      clear hx1
                      go_quiet (first | (go_at_call 51; refine Calls.quiet_of_same (less_u _ _ _)))
                      go_wp2
                      go_meet
                      case rel =>
                        refine ⟨⟨_, rfl, hide ?_⟩, HK3.out.draw _⟩
                        by_cases huv : u < v
                        · simp [huv, hx] <;> omega
                        · simp [huv, hx] <;> omega
                    · have hdx : decide (0 < (x : Int)) = false := by simp; omega
                      clear hx1
                      go_quiet (first | (go_at_call 51; refine Calls.quiet_of_same (less_u _ _ _)))
                      go_wp2
                      go_meet
                      case rel =>
                        refine ⟨⟨_, rfl, hide ?_⟩, HK3.out.draw _⟩
                        simp [hx]
                  case rest =>
                    clear hk3
                    obtain ⟨⟨c, rfl, HCC⟩, hk4⟩ := hcut
                    cases c
                    · have hc := part_u hk4 x y p hp1 hp2 hyn hn
                      obtain ⟨⟨mid, ap, d4⟩, hq⟩ : ∃ q, Sort.partition Sort.ltInt d3 x y p = q := ⟨_, rfl⟩
                      rw [hq] at hc
                      simp only at hc
                      have HR := hide (Sort.round_part Sort.swo_ltInt (Sort.partition_holds _) hp1 hp2 (by omega) HB3.out hq)
                      have r1 : x ≤ mid := HR.out.1
                      have r2 : mid < y := HR.out.2.1
                      have HC := hide hc
                      obtain ⟨lo, hlo⟩ : ∃ lo, lo = mid - x := ⟨_, rfl⟩
                      obtain ⟨hi, hhi⟩ : ∃ hi, hi = y - mid := ⟨_, rfl⟩
                      obtain ⟨t8, ht8⟩ : ∃ t8, t8 = l / 8 := ⟨_, rfl⟩
                      obtain ⟨m1, hm1⟩ : ∃ m1, m1 = mid + 1 := ⟨_, rfl⟩
                      have elo : IntKind.i64.wrap ((mid : Int) - (x : Int)) = (lo : Int) := by rw [IntKind.wrap_i64]; omega
                      have ehi : IntKind.i64.wrap ((y : Int) - (mid : Int)) = (hi : Int) := by rw [IntKind.wrap_i64]; omega
                      have em1 : IntKind.i64.wrap ((mid : Int) + 1) = (m1 : Int) := by rw [IntKind.wrap_i64]; omega
                      have et : (l : Int).tdiv 8 = (t8 : Int) := by rw [Int.tdiv_eq_ediv_of_nonneg (by omega)]; omega
                      have et' : (l : Int) / 8 = (t8 : Int) := by omega
                      have t80 : (t8 : Int) ≤ 1152921504606846976 := by omega
                      have HM1 := hide hm1
                      have hm1y : m1 ≤ y := by omega
                      have hm1m : mid < m1 := by omega
                      clear hc hq hlo hhi ht8 hm1 hk4
                      go_wp2_with fail
                      refine HC.out.mono ?_
                      rintro e w5 ⟨rfl, hk5⟩
                      go_upto_if 113 with fail
                      by_cases hlt : lo < hi
                      · have hdl : decide ((lo : Int) < (hi : Int)) = true := by simp; omega
                        have HI := hide (IH.out w5 d4 hk5 x mid lm' (by omega) r1 (by omega) hlm' (hide HR.out.2.2.2.1))
                        clear hk5
                        go_wp2_with fail
                        refine HI.out.mono ?_
                        rintro e w6 ⟨rfl, L, hkL, pL, sL⟩
                        have HPL := hide pL
                        have HSL := hide sL
                        clear pL sL
                        go_wp2
                        go_roundw
                        case rel => exact ⟨m1, y, lm', _, _, L, rfl, rfl, rfl, rfl, rfl, hm1y, hyn, by omega, hlm', hkL, hide (by rw [HM1.out]; exact (HR.out.2.2.2.2.2.1 L HPL.out HSL.out).1), hide (fun R h1 h2 => by rw [HM1.out] at h1 h2; have := (HR.out.2.2.2.2.2.1 L HPL.out HSL.out).2 R h1 h2; exact H3.out R this.1 this.2)⟩
                        case measure => simp [numOf]; omega
                      · have hdl : decide ((lo : Int) < (hi : Int)) = false := by simp; omega
                        have HI := hide (IH.out w5 d4 hk5 m1 y lm' (by omega) hm1y hyn hlm' (hide (by rw [HM1.out]; exact HR.out.2.2.2.2.1)))
                        clear hk5
                        go_wp2_with fail
                        refine HI.out.mono ?_
                        rintro e w6 ⟨rfl, L, hkL, pL, sL⟩
                        rw [HM1.out] at pL sL
                        have HPL := hide pL
                        have HSL := hide sL
                        clear pL sL
                        go_wp2
                        go_roundw
                        case rel => exact ⟨x, mid, lm', _, _, L, rfl, rfl, rfl, rfl, rfl, r1, by omega, by omega, hlm', hkL, hide ((HR.out.2.2.2.2.2.2 L HPL.out HSL.out).1), hide (fun R h1 h2 => by have := (HR.out.2.2.2.2.2.2 L HPL.out HSL.out).2 R h1 h2; exact H3.out R this.1 this.2)⟩
                        case measure => simp [numOf]; omega
                    · have hcc : 0 < x ∧ d3[p]! ≤ d3[x - 1]! := by rw [HU.out, HV.out]; simpa using HCC.out.symm
                      have hc := parteq_u hk4 x y p hp1 hp2 hyn hn
                      obtain ⟨⟨mid, d4⟩, hq⟩ : ∃ q, Sort.partitionEqual Sort.ltInt d3 x y p = q := ⟨_, rfl⟩
                      rw [hq] at hc
                      simp only at hc
                      have HR := hide (Sort.round_eq Sort.swo_ltInt (Sort.partitionEqual_holds _) hcc.1 hp1 hp2 (by omega) HB3.out (by simp only [Sort.ltInt, decide_eq_false_iff_not]; have := hcc.2; omega) hq)
                      have r1 : x < mid := HR.out.1
                      have r2 : mid ≤ y := HR.out.2.1
                      have HC := hide hc
                      clear hc hq hcc hk4
                      go_wp2_with fail
                      refine HC.out.mono ?_
                      rintro e w5 ⟨rfl, hk5⟩
                      go_wp2
                      go_roundw
                      case rel => exact ⟨mid, y, lm', _, _, d4, rfl, rfl, rfl, rfl, rfl, r2, hyn, by omega, hlm', hk5, hide HR.out.2.2.2.1, hide (fun R h1 h2 => by have := HR.out.2.2.2.2 R h1 h2; exact H3.out R this.1 this.2)⟩
                      case measure => simp [numOf]; omega
end Go.Proofs.Ytpinhcbkfjoopaa
