/- Several texts in one. -/
import Derived.Test.YtpinhcbkfjoopaaSoRevAll
/- Numbers below 2^64: sift down; heap sort. -/
namespace Go.Proofs.Ytpinhcbkfjoopaa
open Go.RowKit
set_option linter.unusedVariables false
namespace So
open Go.Sort
/-- The greater child. -/
def kid (hi f r : Nat) (d : Array Int) : Nat := if 2 * r + 2 < hi ∧ d[f + (2 * r + 1)]! < d[f + (2 * r + 2)]! then 2 * r + 2 else 2 * r + 1
theorem sd_off {hi f r : Nat} {d : Array Int} (h : hi ≤ 2 * r + 1) : siftDown ltInt hi f r d = d := by unfold siftDown; rw [dif_pos h]
theorem sd_on {hi f r : Nat} {d : Array Int} (h : 2 * r + 1 < hi) :
    siftDown ltInt hi f r d = if d[f + r]! < d[f + kid hi f r d]! then siftDown ltInt hi f (kid hi f r d) (swp d (f + r) (f + kid hi f r d)) else d := by
  conv => lhs; unfold siftDown
  rw [dif_neg (by omega)]
  unfold kid
  by_cases h2 : 2 * r + 2 < hi ∧ d[f + (2 * r + 1)]! < d[f + (2 * r + 2)]!
  · rw [if_pos h2, if_pos (by simp only [ltInt, Bool.and_eq_true, decide_eq_true_eq]; exact ⟨by omega, h2.2⟩)]
    by_cases h3 : d[f + r]! < d[f + (2 * r + 2)]!
    · rw [if_pos h3, if_neg (by simp [ltInt, h3]), dif_pos h2.1]
    · rw [if_neg h3, if_pos (by simp only [ltInt, decide_eq_false h3]; rfl)]
  · rw [if_neg h2, if_neg (by simp only [ltInt, Bool.and_eq_true, decide_eq_true_eq]; intro h; exact h2 ⟨by omega, h.2⟩)]
    by_cases h3 : d[f + r]! < d[f + (2 * r + 1)]!
    · rw [if_pos h3, if_neg (by simp [ltInt, h3])]
    · rw [if_neg h3, if_pos (by simp only [ltInt, decide_eq_false h3]; rfl)]
end So
set_option maxHeartbeats 4000000 in
set_option maxRecDepth 100000 in
/-- Sift down. -/
theorem sift_u {B : Nat} {w0 w : World} {g n cap : Nat} {d : Array Int} (h : InR B w0 g n cap w d) (lo hi f : Nat) (hb : f + hi ≤ n) (hl : lo ≤ hi) (hn : n ≤ 1152921504606846976) :
    Calls Try.prog 57 #[.slice (some ⟨g, 0, none⟩) n cap, .int .i64 lo, .int .i64 hi, .int .i64 f] w fun e w' =>
      e = .returned (.tuple #[]) ∧ InR B w0 g n cap w' (Sort.siftDown Sort.ltInt hi f lo d) := by
  go_enter Try.func57, Try.ntmps57
  go_wp2
  go_loopw [8] (fun vr wr => ∃ (r : Nat) (dk : Array Int), vr = .int .i64 r ∧ r ≤ hi ∧ InR B w0 g n cap wr dk ∧ Hid (Sort.siftDown Sort.ltInt hi f r dk = Sort.siftDown Sort.ltInt hi f lo d)) (fun vr _ => hi + 1 - (numOf vr).toNat)
  case atStart => exact ⟨lo, d, rfl, hl, h, hide rfl⟩
  case round =>
    obtain ⟨r, dk, rfl, hr, hk, HO⟩ := hrel
    by_cases hend : hi ≤ 2 * r + 1
    · have hd : decide ((hi : Int) ≤ 2 * (r : Int) + 1) = true := by simp; omega
      go_wp2
      go_end0
      refine ⟨rfl, ?_⟩
      rw [← HO.out, So.sd_off hend]; exact hk
    · have hd : decide ((hi : Int) ≤ 2 * (r : Int) + 1) = false := by simp; omega
      have HK := hide hk
      have HD := hide (So.sd_on (f := f) (d := dk) (show 2 * r + 1 < hi by omega))
      obtain ⟨p, hp⟩ : ∃ p, p = f + r := ⟨_, rfl⟩
      obtain ⟨q, hq⟩ : ∃ q, q = f + (2 * r + 1) := ⟨_, rfl⟩
      have c0 := hk.cell p (by omega)
      have c1 := hk.cell q (by omega)
      have f0 := hk.free p
      have f1 := hk.free q
      have e3 : IntKind.i64.wrap ((f : Int) + (r : Int)) = (p : Int) := by rw [IntKind.wrap_i64]; omega
      have e4 : IntKind.i64.wrap ((f : Int) + (2 * (r : Int) + 1)) = (q : Int) := by rw [IntKind.wrap_i64]; omega
      have j0 : (0 : Int) ≤ (p : Int) := by omega
      have j1 : (p : Int) < (n : Int) := by omega
      have j2 : (0 : Int) ≤ (q : Int) := by omega
      have j3 : (q : Int) < (n : Int) := by omega
      have hne : p ≠ q := by omega
      by_cases h2 : 2 * r + 2 < hi
      · obtain ⟨s, hs⟩ : ∃ s, s = f + (2 * r + 2) := ⟨_, rfl⟩
        have c2 := hk.cell s (by omega)
        have f2 := hk.free s
        have e5 : IntKind.i64.wrap ((q : Int) + 1) = (s : Int) := by rw [IntKind.wrap_i64]; omega
        have e6 : IntKind.i64.wrap ((f : Int) + (2 * (r : Int) + 1 + 1)) = (s : Int) := by rw [IntKind.wrap_i64]; omega
        have j4 : (0 : Int) ≤ (s : Int) := by omega
        have j5 : (s : Int) < (n : Int) := by omega
        have hne2 : p ≠ s := by omega
        have hne3 : q ≠ s := by omega
        have hd2 : decide (2 * (r : Int) + 1 + 1 < (hi : Int)) = true := by simp; omega
        have HKA : Hid (dk[q]! < dk[s]! → So.kid hi f r dk = 2 * r + 2) := fun h => if_pos ⟨h2, by rw [← hq, ← hs]; exact h⟩
        have HKB : Hid (¬ dk[q]! < dk[s]! → So.kid hi f r dk = 2 * r + 1) := fun h => if_neg fun h' => h (by rw [hq, hs]; exact h'.2)
        have HS := hide hs
        have HZ := hide (rfl : dk[s]! = dk[s]!)
        clear hs
        have HP := hide hp
        have HQ := hide hq
        clear hp hq hk h
        generalize hx : dk[p]! = x at c0
        generalize hy : dk[q]! = y at c1 HKA HKB
        generalize hz : dk[s]! = z at c2 HKA HKB HZ
        have HX := hide hx
        have HY := hide hy
        replace HZ := hide hz
        clear hx hy hz
        by_cases hyz : y < z
        · have hd4 : decide (y < z) = true := by simpa using hyz
          have HKID := hide (HKA.out hyz)
          by_cases hlt : x < z
          · have hd3 : decide (x < z) = true := by simpa using hlt
            go_wp2
            go_quiet (first | (go_at_call 51; refine Calls.quiet_of_same (less_u _ _ _)))
            go_wp2
            have HK2 := hide (HK.out.draw nq)
            change Hid (InR B w0 g n cap (wr.drewN nq) dk) at HK2
            have c0' : (wr.drewN nq).cell? ⟨g, p, none⟩ = _ := c0
            have f0' : (wr.drewN nq).frozen? ⟨g, p, none⟩ = false := f0
            have c1' : (wr.drewN nq).cell? ⟨g, q, none⟩ = _ := c1
            have f1' : (wr.drewN nq).frozen? ⟨g, q, none⟩ = false := f1
            have c2' : (wr.drewN nq).cell? ⟨g, s, none⟩ = _ := c2
            have f2' : (wr.drewN nq).frozen? ⟨g, s, none⟩ = false := f2
            clear c0 f0 c1 f1 c2 f2 HK
            generalize wr.drewN nq = W2 at *
            go_quiet (first | (go_at_call 51; refine Calls.quiet_of_same (less_u _ _ _)))
            go_wp2
            go_region
            all_goals go_wp2
            go_roundw
            case rel =>
              refine ⟨2 * r + 2, Sort.swp dk p s, by go_num, by omega, ?_, hide ?_⟩
              · rw [← HX.out, ← HZ.out]; exact (HK2.out.draw _).swap p s
              · rw [← HO.out, HD.out, HKID.out, ← HP.out, ← HS.out, if_pos (by rw [HX.out, HZ.out]; exact hlt)]
            case measure => simp [numOf]; omega
          · have hd3 : decide (x < z) = false := by simpa using hlt
            go_wp2
            go_quiet (first | (go_at_call 51; refine Calls.quiet_of_same (less_u _ _ _)))
            go_wp2
            have HK2 := hide (HK.out.draw nq)
            change Hid (InR B w0 g n cap (wr.drewN nq) dk) at HK2
            have c0' : (wr.drewN nq).cell? ⟨g, p, none⟩ = _ := c0
            have f0' : (wr.drewN nq).frozen? ⟨g, p, none⟩ = false := f0
            have c1' : (wr.drewN nq).cell? ⟨g, q, none⟩ = _ := c1
            have f1' : (wr.drewN nq).frozen? ⟨g, q, none⟩ = false := f1
            have c2' : (wr.drewN nq).cell? ⟨g, s, none⟩ = _ := c2
            have f2' : (wr.drewN nq).frozen? ⟨g, s, none⟩ = false := f2
            clear c0 f0 c1 f1 c2 f2 HK
            generalize wr.drewN nq = W2 at *
            go_quiet (first | (go_at_call 51; refine Calls.quiet_of_same (less_u _ _ _)))
            go_wp2
            (try simp only [Exit.inBlock, Exit.then])
            refine bodyPost_ret (results_none rfl _ _ _) rfl ?_
            refine ⟨rfl, ?_⟩
            rw [← HO.out, HD.out, HKID.out, ← HP.out, ← HS.out, if_neg (by rw [HX.out, HZ.out]; omega)]
            exact HK2.out.draw _
        · have hd4 : decide (y < z) = false := by simpa using hyz
          have HKID := hide (HKB.out hyz)
          by_cases hlt : x < y
          · have hd3 : decide (x < y) = true := by simpa using hlt
            go_wp2
            go_quiet (first | (go_at_call 51; refine Calls.quiet_of_same (less_u _ _ _)))
            go_wp2
            have HK2 := hide (HK.out.draw nq)
            change Hid (InR B w0 g n cap (wr.drewN nq) dk) at HK2
            have c0' : (wr.drewN nq).cell? ⟨g, p, none⟩ = _ := c0
            have f0' : (wr.drewN nq).frozen? ⟨g, p, none⟩ = false := f0
            have c1' : (wr.drewN nq).cell? ⟨g, q, none⟩ = _ := c1
            have f1' : (wr.drewN nq).frozen? ⟨g, q, none⟩ = false := f1
            have c2' : (wr.drewN nq).cell? ⟨g, s, none⟩ = _ := c2
            have f2' : (wr.drewN nq).frozen? ⟨g, s, none⟩ = false := f2
            clear c0 f0 c1 f1 c2 f2 HK
            generalize wr.drewN nq = W2 at *
            go_quiet (first | (go_at_call 51; refine Calls.quiet_of_same (less_u _ _ _)))
            go_wp2
            go_region
            all_goals go_wp2
            go_roundw
            case rel =>
              refine ⟨2 * r + 1, Sort.swp dk p q, by go_num, by omega, ?_, hide ?_⟩
              · rw [← HX.out, ← HY.out]; exact (HK2.out.draw _).swap p q
              · rw [← HO.out, HD.out, HKID.out, ← HP.out, ← HQ.out, if_pos (by rw [HX.out, HY.out]; exact hlt)]
            case measure => simp [numOf]; omega
          · have hd3 : decide (x < y) = false := by simpa using hlt
            go_wp2
            go_quiet (first | (go_at_call 51; refine Calls.quiet_of_same (less_u _ _ _)))
            go_wp2
            have HK2 := hide (HK.out.draw nq)
            change Hid (InR B w0 g n cap (wr.drewN nq) dk) at HK2
            have c0' : (wr.drewN nq).cell? ⟨g, p, none⟩ = _ := c0
            have f0' : (wr.drewN nq).frozen? ⟨g, p, none⟩ = false := f0
            have c1' : (wr.drewN nq).cell? ⟨g, q, none⟩ = _ := c1
            have f1' : (wr.drewN nq).frozen? ⟨g, q, none⟩ = false := f1
            have c2' : (wr.drewN nq).cell? ⟨g, s, none⟩ = _ := c2
            have f2' : (wr.drewN nq).frozen? ⟨g, s, none⟩ = false := f2
            clear c0 f0 c1 f1 c2 f2 HK
            generalize wr.drewN nq = W2 at *
            go_quiet (first | (go_at_call 51; refine Calls.quiet_of_same (less_u _ _ _)))
            go_wp2
            (try simp only [Exit.inBlock, Exit.then])
            refine bodyPost_ret (results_none rfl _ _ _) rfl ?_
            refine ⟨rfl, ?_⟩
            rw [← HO.out, HD.out, HKID.out, ← HP.out, ← HQ.out, if_neg (by rw [HX.out, HY.out]; omega)]
            exact HK2.out.draw _
      · have hd2 : decide (2 * (r : Int) + 1 + 1 < (hi : Int)) = false := by simp; omega
        have HKID : Hid (So.kid hi f r dk = 2 * r + 1) := if_neg (by omega)
        have HP := hide hp
        have HQ := hide hq
        clear hp hq hk h
        generalize hx : dk[p]! = x at c0
        generalize hy : dk[q]! = y at c1
        have HX := hide hx
        have HY := hide hy
        clear hx hy
        by_cases hlt : x < y
        · have hd3 : decide (x < y) = true := by simpa using hlt
          go_wp2
          go_quiet (first | (go_at_call 51; refine Calls.quiet_of_same (less_u _ _ _)))
          go_wp2
          have HK2 := hide (HK.out.draw nq)
          change Hid (InR B w0 g n cap (wr.drewN nq) dk) at HK2
          have c0' : (wr.drewN nq).cell? ⟨g, p, none⟩ = _ := c0
          have f0' : (wr.drewN nq).frozen? ⟨g, p, none⟩ = false := f0
          have c1' : (wr.drewN nq).cell? ⟨g, q, none⟩ = _ := c1
          have f1' : (wr.drewN nq).frozen? ⟨g, q, none⟩ = false := f1
          clear c0 f0 c1 f1 HK
          generalize wr.drewN nq = W2 at *
          go_quiet (first | (go_at_call 51; refine Calls.quiet_of_same (less_u _ _ _)))
          go_wp2
          go_region
          all_goals go_wp2
          go_roundw
          case rel =>
            refine ⟨2 * r + 1, Sort.swp dk p q, by go_num, by omega, ?_, hide ?_⟩
            · rw [← HX.out, ← HY.out]; exact (HK2.out.draw _).swap p q
            · rw [← HO.out, HD.out, HKID.out, ← HP.out, ← HQ.out, if_pos (by rw [HX.out, HY.out]; exact hlt)]
          case measure => simp [numOf]; omega
        · have hd3 : decide (x < y) = false := by simpa using hlt
          go_wp2
          go_quiet (first | (go_at_call 51; refine Calls.quiet_of_same (less_u _ _ _)))
          go_wp2
          have HK2 := hide (HK.out.draw nq)
          change Hid (InR B w0 g n cap (wr.drewN nq) dk) at HK2
          have c0' : (wr.drewN nq).cell? ⟨g, p, none⟩ = _ := c0
          have f0' : (wr.drewN nq).frozen? ⟨g, p, none⟩ = false := f0
          have c1' : (wr.drewN nq).cell? ⟨g, q, none⟩ = _ := c1
          have f1' : (wr.drewN nq).frozen? ⟨g, q, none⟩ = false := f1
          clear c0 f0 c1 f1 HK
          generalize wr.drewN nq = W2 at *
          go_quiet (first | (go_at_call 51; refine Calls.quiet_of_same (less_u _ _ _)))
          go_wp2
          (try simp only [Exit.inBlock, Exit.then])
          refine bodyPost_ret (results_none rfl _ _ _) rfl ?_
          refine ⟨rfl, ?_⟩
          rw [← HO.out, HD.out, HKID.out, ← HP.out, ← HQ.out, if_neg (by rw [HX.out, HY.out]; omega)]
          exact HK2.out.draw _
end Go.Proofs.Ytpinhcbkfjoopaa
