/- Several texts in one. -/
import Derived.Test.YtpinhcbkfjoopaaSoInsAll
import Derived.Deep.CutRange
/- Numbers below 2^64: partialInsertionSort. -/
namespace Go.Proofs.Ytpinhcbkfjoopaa
open Go.RowKit
set_option linter.unusedVariables false
namespace So
open Go.Sort
theorem sc_on {b i : Nat} {d : Array Int} (h : i < b) (hl : d[i - 1]! ≤ d[i]!) : scanSorted ltInt d b i = scanSorted ltInt d b (i + 1) := by
  conv => lhs; unfold scanSorted
  rw [if_pos (by simp [ltInt, h]; omega)]
theorem sc_off {b i : Nat} {d : Array Int} (h : b ≤ i ∨ d[i]! < d[i - 1]!) : scanSorted ltInt d b i = i := by
  unfold scanSorted
  refine if_neg ?_
  simp only [ltInt, Bool.and_eq_true, decide_eq_true_eq, Bool.not_eq_true', decide_eq_false_iff_not]
  omega
theorem dn_on {j : Nat} {d : Array Int} (hl : d[j + 1]! < d[j]!) : shiftDown ltInt (j + 1) d = shiftDown ltInt j (swp d (j + 1) j) := by
  conv => lhs; unfold shiftDown
  rw [if_neg (by simp [ltInt, hl])]
theorem dn_off {j : Nat} {d : Array Int} (h : j = 0 ∨ d[j - 1]! ≤ d[j]!) : shiftDown ltInt j d = d := by
  match j with
  | 0 => rfl
  | k + 1 =>
    simp only [Nat.add_sub_cancel] at h
    unfold shiftDown
    rw [if_pos (by simp [ltInt]; omega)]
theorem up_on {b j : Nat} {d : Array Int} (h : j < b) (hl : d[j]! < d[j - 1]!) : shiftUp ltInt b j d = shiftUp ltInt b (j + 1) (swp d j (j - 1)) := by
  conv => lhs; unfold shiftUp
  rw [if_pos h, if_neg (by simp [ltInt, hl])]
theorem up_off {b j : Nat} {d : Array Int} (h : b ≤ j ∨ d[j - 1]! ≤ d[j]!) : shiftUp ltInt b j d = d := by
  unfold shiftUp
  by_cases hj : j < b
  · rw [if_pos hj, if_pos (by simp [ltInt]; omega)]
  · rw [if_neg hj]
/-- A round of it. -/
theorem pin_yes {a b s i : Nat} {d : Array Int} (h : scanSorted ltInt d b i = b) : partialIns ltInt a b (s + 1) i d = (d, true) := by rw [partialIns_succ, if_pos h]
theorem pin_short {a b s i : Nat} {d : Array Int} (h : scanSorted ltInt d b i ≠ b) (h2 : b - a < 50) : partialIns ltInt a b (s + 1) i d = (d, false) := by rw [partialIns_succ, if_neg h, if_pos h2]
theorem pin_on {a b s i k : Nat} {d d2 d3 : Array Int} (hk : scanSorted ltInt d b i = k) (h : k ≠ b) (h2 : ¬ b - a < 50) (h3 : fixDown ltInt a k (swp d k (k - 1)) = d2) (h4 : fixUp ltInt b k d2 = d3) :
    partialIns ltInt a b (s + 1) i d = partialIns ltInt a b s k d3 := by rw [partialIns_succ, hk, if_neg h, if_neg h2, h3, h4]
end So
set_option maxHeartbeats 8000000 in
set_option maxRecDepth 100000 in
/-- It sorts what is nearly sorted, or says that it did not. -/
theorem par_u {B : Nat} {w0 w : World} {g n cap : Nat} {d : Array Int} (h : InR B w0 g n cap w d) (a b : Nat) (hab : a < b) (hb : b ≤ n) (hn : n ≤ 1152921504606846976) :
    Calls Try.prog 50 #[.slice (some ⟨g, 0, none⟩) n cap, .int .i64 a, .int .i64 b] w fun e w' =>
      e = .returned (.bool (Sort.partialInsertionSort Sort.ltInt d a b).2) ∧ InR B w0 g n cap w' (Sort.partialInsertionSort Sort.ltInt d a b).1 := by
  obtain ⟨la, hla⟩ : ∃ la, la = b - a := ⟨_, rfl⟩
  have ela : IntKind.i64.wrap ((b : Int) - (a : Int)) = (la : Int) := by rw [IntKind.wrap_i64]; omega
  have la0 : (la : Int) ≤ 1152921504606846976 := by omega
  have HLA := hide hla
  clear hla
  go_enter Try.func50, Try.ntmps50
  go_wp2
  go_loopw [7, 8] (fun vi vs wr => ∃ (i s : Nat) (dk : Array Int), vi = .int .i64 i ∧ vs = .int .i64 s ∧ s ≤ 5 ∧ a < i ∧ i ≤ b ∧ InR B w0 g n cap wr dk ∧ Hid (Sort.partialIns Sort.ltInt a b (5 - s) i dk = Sort.partialIns Sort.ltInt a b 5 (a + 1) d)) (fun _ vs _ => 5 - (numOf vs).toNat)
  case atStart => exact ⟨a + 1, 0, d, by go_num, rfl, by omega, by omega, by omega, h, hide rfl⟩
  case round =>
    clear h
    obtain ⟨i, s, dk, rfl, rfl, hs5, hai, hib, hk, HO⟩ := hrel
    by_cases hs : s < 5
    · have hds : decide ((s : Int) < 5) = true := by simp; omega
      replace HO : Hid (Sort.partialIns Sort.ltInt a b (4 - s + 1) i dk = Sort.partialInsertionSort Sort.ltInt d a b) := hide (by rw [show 4 - s + 1 = 5 - s by omega]; exact HO.out)
      go_wp2
      go_loopw [7] (fun vi wr2 => ∃ k : Nat, vi = .int .i64 k ∧ i ≤ k ∧ k ≤ b ∧ InR B w0 g n cap wr2 dk ∧ Hid (Sort.scanSorted Sort.ltInt dk b i = Sort.scanSorted Sort.ltInt dk b k)) (fun vi _ => b - (numOf vi).toNat)
      case atStart => exact ⟨i, rfl, Nat.le_refl _, hib, hk, hide rfl⟩
      case round =>
        clear hk
        obtain ⟨k, rfl, hik, hkb, hk2, HS⟩ := hrel
        obtain ⟨k1, hk1⟩ : ∃ k1, k1 + 1 = k := ⟨k - 1, by omega⟩
        have ek : IntKind.i64.wrap ((k : Int) - 1) = (k1 : Int) := by rw [IntKind.wrap_i64]; omega
        have HK1 := hide hk1
        have hk1a : a ≤ k1 := by omega
        have hk1b : k1 < k := by omega
        have HK2 := hide hk2
        have hcw := hk2.cell
        have hfw := hk2.free
        have hsz := hk2.size
        obtain ⟨G, hG⟩ : ∃ G : Nat → Int, ∀ t, dk[t]! = G t := ⟨fun t => dk[t]!, fun _ => rfl⟩
        simp only [hG] at hcw
        have HG := hide hG
        clear hk2 hG hk1
        go_wp2
        by_cases hkb2 : k < b
        · have hdkb : decide ((k : Int) < (b : Int)) = true := by simp; omega
          have j0 : (0 : Int) ≤ (k : Int) := by omega
          have j1 : (k : Int) < (n : Int) := by omega
          have j2 : (0 : Int) ≤ (k1 : Int) := by omega
          have j3 : (k1 : Int) < (n : Int) := by omega
          have c1 := hcw k (by omega)
          have c2 := hcw k1 (by omega)
          have f1 := hfw k
          have f2 := hfw k1
          have hne : k ≠ k1 := by omega
          clear hcw hfw
          by_cases hl : G k < G k1
          · have hdl : decide (G k < G k1) = true := by simpa using hl
            have hdk : ((k : Int) == (b : Int)) = false := by simp; omega
            have HSC : Hid (Sort.scanSorted Sort.ltInt dk b i = k) := hide (by rw [HS.out, So.sc_off (Or.inr (by rw [show k - 1 = k1 by have := HK1.out; omega, HG.out, HG.out]; exact hl))])
            by_cases h50 : la < 50
            · have hd50 : decide ((la : Int) < 50) = true := by simp; omega
              go_quiet (first | (go_at_call 51; refine Calls.quiet_of_same (less_u _ _ _)))
              go_wp2
              go_ret
              have := So.pin_short (a := a) (b := b) (s := 4 - s) (i := i) (d := dk) (by rw [HSC.out]; omega) (by have := HLA.out; omega)
              rw [HO.out] at this
              rw [this]
              exact ⟨rfl, HK2.out.draw _⟩
            · have hd50 : decide ((la : Int) < 50) = false := by simp; omega
              go_quiet (first | (go_at_call 51; refine Calls.quiet_of_same (less_u _ _ _)))
              go_wp2
              obtain ⟨t, ht⟩ : ∃ t, t = k - a := ⟨_, rfl⟩
              obtain ⟨u, hu⟩ : ∃ u, u = b - k := ⟨_, rfl⟩
              have et : IntKind.i64.wrap ((k : Int) - (a : Int)) = (t : Int) := by rw [IntKind.wrap_i64]; omega
              have eu : IntKind.i64.wrap ((b : Int) - (k : Int)) = (u : Int) := by rw [IntKind.wrap_i64]; omega
              have HT := hide ht
              have HU := hide hu
              clear ht hu
              go_region
              have hkn : InR B w0 g n cap (((wr.drewN (nq + 1)).setCell ⟨g, k, none⟩ (.int .u64 (G k1))).setCell ⟨g, k1, none⟩ (.int .u64 (G k))) (Sort.swp dk k k1) := by
                rw [← HG.out k, ← HG.out k1]; exact (HK2.out.draw _).swap k k1
              obtain ⟨ds, hds2⟩ : ∃ ds, ds = Sort.swp dk k k1 := ⟨_, rfl⟩
              rw [← hds2] at hkn
              have HDS := hide hds2
              clear c1 c2 f1 f2 hds2 HK2 hdl hl
              generalize ((wr.drewN (nq + 1)).setCell ⟨g, k, none⟩ (.int .u64 (G k1))).setCell ⟨g, k1, none⟩ (.int .u64 (G k)) = W1 at hkn ⊢
              go_upto_if 61 with fail
              go_cut [] from 13 to 132 (fun wc => ∃ d2, InR B w0 g n cap wc d2 ∧ Hid (Sort.fixDown Sort.ltInt a k ds = d2))
              case first =>
                by_cases h2 : 2 ≤ t
                · have hd2 : decide (2 ≤ (t : Int)) = true := by simp; omega
                  go_wp2
                  go_loopw [9] (fun vj wr3 => ∃ (j : Nat) (dj : Array Int), vj = .int .i64 j ∧ j ≤ k1 ∧ InR B w0 g n cap wr3 dj ∧ Hid (Sort.shiftDown Sort.ltInt k1 ds = Sort.shiftDown Sort.ltInt j dj)) (fun vj _ => (numOf vj).toNat)
                  case atStart => exact ⟨k1, ds, rfl, Nat.le_refl _, hkn, hide rfl⟩
                  case round =>
                    clear hkn
                    obtain ⟨j, dj, rfl, hjk, hj, HJS⟩ := hrel
                    by_cases hj1 : 1 ≤ j
                    · have hdj : decide (1 ≤ (j : Int)) = true := by simp; omega
                      obtain ⟨j', hj'⟩ : ∃ j', j' + 1 = j := ⟨j - 1, by omega⟩
                      have ej : IntKind.i64.wrap ((j : Int) - 1) = (j' : Int) := by rw [IntKind.wrap_i64]; omega
                      have HJ1 := hide hj'
                      have hjj : j' < j := by omega
                      have HJ := hide hj
                      obtain ⟨H, hH⟩ : ∃ H : Nat → Int, ∀ t, dj[t]! = H t := ⟨fun t => dj[t]!, fun _ => rfl⟩
                      have c1 := hj.cell j (by omega)
                      have c2 := hj.cell j' (by omega)
                      have f1 := hj.free j
                      have f2 := hj.free j'
                      simp only [hH] at c1 c2
                      have HH := hide hH
                      have i0 : (0 : Int) ≤ (j : Int) := by omega
                      have i1 : (j : Int) < (n : Int) := by omega
                      have i2 : (0 : Int) ≤ (j' : Int) := by omega
                      have i3 : (j' : Int) < (n : Int) := by omega
                      have hne2 : j ≠ j' := by omega
                      clear hj hH hj'
                      by_cases hl : H j < H j'
                      · have hdl : decide (H j < H j') = true := by simpa using hl
                        go_wp2
                        go_quiet (first | (go_at_call 51; refine Calls.quiet_of_same (less_u _ _ _)))
                        go_wp2
                        go_region
                        all_goals go_wp2
                        go_roundw
                        case rel =>
                          refine ⟨j', Sort.swp dj j j', rfl, by omega, ?_, ?_⟩
                          · rw [← HH.out j, ← HH.out j']; exact (HJ.out.draw _).swap j j'
                          · exact hide (by rw [HJS.out, ← HJ1.out, So.dn_on (by rw [HJ1.out, HH.out, HH.out]; exact hl)])
                        case measure => simp [numOf]; omega
                      · have hdl : decide (H j < H j') = false := by simpa using hl
                        go_wp2
                        go_quiet (first | (go_at_call 51; refine Calls.quiet_of_same (less_u _ _ _)))
                        go_wp2
                        go_meet
                        case rel => exact ⟨dj, HJ.out.draw _, hide (by unfold Sort.fixDown; rw [if_pos (by have := HT.out; omega), show k - 1 = k1 by have := HK1.out; omega, HJS.out, So.dn_off (Or.inr (by rw [← HJ1.out, Nat.add_sub_cancel, HJ1.out, HH.out, HH.out]; omega))])⟩
                    · have hdj : decide (1 ≤ (j : Int)) = false := by simp; omega
                      go_wp2
                      go_meet
                      case rel => exact ⟨dj, hj, hide (by unfold Sort.fixDown; rw [if_pos (by have := HT.out; omega), show k - 1 = k1 by have := HK1.out; omega, HJS.out, So.dn_off (Or.inl (by omega))])⟩
                · have hd2 : decide (2 ≤ (t : Int)) = false := by simp; omega
                  go_wp2
                  go_meet
                  case rel => exact ⟨ds, hkn, hide (by unfold Sort.fixDown; rw [if_neg (by have := HT.out; omega)])⟩
              case rest =>
                clear hkn
                obtain ⟨d2, hk3, HD⟩ := hcut
                have OUT := hide (fun (W : World) (du : Array Int) (hW : InR B w0 g n cap W du) (hu : Sort.fixUp Sort.ltInt b k d2 = du) => show ∃ (i' s' : Nat) (dk' : Array Int), Value.int .i64 (k : Int) = .int .i64 (i' : Nat) ∧ Value.int .i64 ((s : Int) + 1) = .int .i64 (s' : Nat) ∧ s' ≤ 5 ∧ a < i' ∧ i' ≤ b ∧ InR B w0 g n cap W dk' ∧ Hid (Sort.partialIns Sort.ltInt a b (5 - s') i' dk' = Sort.partialIns Sort.ltInt a b 5 (a + 1) d) from
                  ⟨k, s + 1, du, rfl, by go_num, by omega, by omega, by omega, hW, hide (by
                    have := So.pin_on (a := a) (b := b) (s := 4 - s) (i := i) (k := k) (d := dk) HSC.out (by omega) (by have := HLA.out; omega) (by rw [show k - 1 = k1 by have := HK1.out; omega, ← HDS.out]; exact HD.out) hu
                    rw [show 5 - (s + 1) = 4 - s by omega, ← this]; exact HO.out)⟩)
                by_cases h2 : 2 ≤ u
                · have hd2 : decide (2 ≤ (u : Int)) = true := by simp; omega
                  obtain ⟨k2, hk2⟩ : ∃ k2, k2 = k + 1 := ⟨_, rfl⟩
                  have ek2 : IntKind.i64.wrap ((k : Int) + 1) = (k2 : Int) := by rw [IntKind.wrap_i64]; omega
                  have hk2a : 1 ≤ k2 := by omega
                  have hk2b : k2 ≤ b := by have := HU.out; omega
                  have HK3 := hide hk2
                  clear hk2
                  go_wp2
                  go_loopw [10] (fun vj wr3 => ∃ (j : Nat) (dj : Array Int), vj = .int .i64 j ∧ k2 ≤ j ∧ j ≤ b ∧ InR B w0 g n cap wr3 dj ∧ Hid (Sort.shiftUp Sort.ltInt b k2 d2 = Sort.shiftUp Sort.ltInt b j dj)) (fun vj _ => b - (numOf vj).toNat)
                  case atStart => exact ⟨k2, d2, rfl, Nat.le_refl _, hk2b, hk3, hide rfl⟩
                  case round =>
                    clear hk3
                    obtain ⟨j, dj, rfl, hjk, hjb, hj, HJS⟩ := hrel
                    by_cases hj1 : j < b
                    · have hdj : decide ((j : Int) < (b : Int)) = true := by simp; omega
                      obtain ⟨j', hj'⟩ : ∃ j', j' + 1 = j := ⟨j - 1, by omega⟩
                      have ej : IntKind.i64.wrap ((j : Int) - 1) = (j' : Int) := by rw [IntKind.wrap_i64]; omega
                      have HJ1 := hide hj'
                      have hjj : j' < j := by omega
                      have HJ := hide hj
                      obtain ⟨H, hH⟩ : ∃ H : Nat → Int, ∀ t, dj[t]! = H t := ⟨fun t => dj[t]!, fun _ => rfl⟩
                      have c1 := hj.cell j (by omega)
                      have c2 := hj.cell j' (by omega)
                      have f1 := hj.free j
                      have f2 := hj.free j'
                      simp only [hH] at c1 c2
                      have HH := hide hH
                      have i0 : (0 : Int) ≤ (j : Int) := by omega
                      have i1 : (j : Int) < (n : Int) := by omega
                      have i2 : (0 : Int) ≤ (j' : Int) := by omega
                      have i3 : (j' : Int) < (n : Int) := by omega
                      have hne2 : j ≠ j' := by omega
                      clear hj hH hj'
                      by_cases hl : H j < H j'
                      · have hdl : decide (H j < H j') = true := by simpa using hl
                        go_wp2
                        go_quiet (first | (go_at_call 51; refine Calls.quiet_of_same (less_u _ _ _)))
                        go_wp2
                        go_region
                        all_goals go_wp2
                        go_roundw
                        case rel =>
                          refine ⟨j + 1, Sort.swp dj j j', by go_num, by omega, by omega, ?_, ?_⟩
                          · rw [← HH.out j, ← HH.out j']; exact (HJ.out.draw _).swap j j'
                          · exact hide (by rw [HJS.out, So.up_on hj1 (by rw [show j - 1 = j' by have := HJ1.out; omega, HH.out, HH.out]; exact hl), show j - 1 = j' by have := HJ1.out; omega])
                        case measure => simp [numOf]; omega
                      · have hdl : decide (H j < H j') = false := by simpa using hl
                        go_wp2
                        go_quiet (first | (go_at_call 51; refine Calls.quiet_of_same (less_u _ _ _)))
                        go_wp2
                        go_roundw
                        case rel => exact OUT.out _ dj (HJ.out.draw _) (by unfold Sort.fixUp; rw [if_pos (by have := HU.out; omega), ← HK3.out, HJS.out, So.up_off (Or.inr (by rw [show j - 1 = j' by have := HJ1.out; omega, HH.out, HH.out]; omega))])
                        case measure => simp [numOf]; omega
                    · have hdj : decide ((j : Int) < (b : Int)) = false := by simp; omega
                      go_wp2
                      go_roundw
                      case rel => exact OUT.out _ dj hj (by unfold Sort.fixUp; rw [if_pos (by have := HU.out; omega), ← HK3.out, HJS.out, So.up_off (Or.inl (by omega))])
                      case measure => simp [numOf]; omega
                · have hd2 : decide (2 ≤ (u : Int)) = false := by simp; omega
                  go_wp2
                  go_roundw
                  case rel => exact OUT.out _ d2 hk3 (by unfold Sort.fixUp; rw [if_neg (by have := HU.out; omega)])
                  case measure => simp [numOf]; omega
          · have hdl : decide (G k < G k1) = false := by simpa using hl
            go_quiet (first | (go_at_call 51; refine Calls.quiet_of_same (less_u _ _ _)))
            go_wp2
            go_roundw
            case rel => exact ⟨k + 1, by go_num, by omega, by omega, HK2.out.draw _, hide (by rw [HS.out, So.sc_on hkb2 (by rw [show k - 1 = k1 by have := HK1.out; omega, HG.out, HG.out]; omega)])⟩
            case measure => simp [numOf]; omega
        · have hdkb : decide ((k : Int) < (b : Int)) = false := by simp; omega
          have hdk : ((k : Int) == (b : Int)) = true := by simp; omega
          go_quiet (first | (go_at_call 51; refine Calls.quiet_of_same (less_u _ _ _)))
          go_wp2
          go_ret
          have := So.pin_yes (a := a) (b := b) (s := 4 - s) (i := i) (d := dk) (by rw [HS.out, So.sc_off (Or.inl (by omega))]; omega)
          rw [HO.out] at this
          rw [this]
          exact ⟨rfl, HK2.out.draw _⟩
    · have hds : decide ((s : Int) < 5) = false := by simp; omega
      go_wp2
      go_ret
      have := HO.out
      rw [show 5 - s = 0 by omega] at this
      have e : Sort.partialInsertionSort Sort.ltInt d a b = (dk, false) := this.symm
      rw [e]
      exact ⟨rfl, hk⟩
end Go.Proofs.Ytpinhcbkfjoopaa
