/- Several texts in one. -/
import Derived.Test.YtpinhcbkfjoopaaSoUAll
/- Numbers below 2^64: insertion sort. -/
namespace Go.Proofs.Ytpinhcbkfjoopaa
open Go.RowKit
set_option linter.unusedVariables false
namespace So
open Go.Sort
theorem in_on {a j : Nat} {d : Array Int} (hj : a < j) (hl : d[j]! < d[j - 1]!) : insInner ltInt a j d = insInner ltInt a (j - 1) (swp d j (j - 1)) := by
  match j, hj with
  | k + 1, hj =>
    simp only [Nat.add_sub_cancel] at hl ⊢
    conv => lhs; unfold insInner
    rw [if_pos (by simp [ltInt, hl]; omega)]
theorem in_off {a j : Nat} {d : Array Int} (h : j ≤ a ∨ d[j - 1]! ≤ d[j]!) : insInner ltInt a j d = d := by
  match j with
  | 0 => rfl
  | k + 1 =>
    simp only [Nat.add_sub_cancel] at h
    unfold insInner
    refine if_neg ?_
    simp only [ltInt, Bool.and_eq_true, decide_eq_true_eq]
    omega
theorem out_on {a b i : Nat} {d : Array Int} (h : i < b) : insOuter ltInt a b i d = insOuter ltInt a b (i + 1) (insInner ltInt a i d) := by
  conv => lhs; unfold insOuter
  rw [if_pos h]
theorem out_off {a b i : Nat} {d : Array Int} (h : b ≤ i) : insOuter ltInt a b i d = d := by
  unfold insOuter; exact if_neg (by omega)
end So
def numOf : Value → Int | .int _ q => q | _ => 0
set_option maxHeartbeats 4000000 in
set_option maxRecDepth 100000 in
/-- Insertion sort of a part. -/
theorem ins_u {B : Nat} {w0 w : World} {g n cap : Nat} {d : Array Int} (h : InR B w0 g n cap w d) (a b : Nat) (hab : a ≤ b) (hb : b ≤ n) (hn : n ≤ 1152921504606846976) :
    Calls Try.prog 45 #[.slice (some ⟨g, 0, none⟩) n cap, .int .i64 a, .int .i64 b] w fun e w' =>
      e = .returned (.tuple #[]) ∧ InR B w0 g n cap w' (Sort.insertionSort Sort.ltInt d a b) := by
  go_enter Try.func45, Try.ntmps45
  go_wp2
  go_loopw [6] (fun vi wr => ∃ (i : Nat) (dk : Array Int), vi = .int .i64 i ∧ a < i ∧ i ≤ b + 1 ∧ InR B w0 g n cap wr dk ∧ Hid (Sort.insOuter Sort.ltInt a b i dk = Sort.insOuter Sort.ltInt a b (a + 1) d)) (fun vi _ => b + 1 - (numOf vi).toNat)
  case atStart => exact ⟨a + 1, d, by go_num, by omega, by omega, h, hide rfl⟩
  case round =>
    obtain ⟨i, dk, rfl, hai, hib, hk, HO⟩ := hrel
    go_wp2
    · have hlt : i < b := by assumption
      go_loopw [7] (fun vj wr2 => ∃ (j : Nat) (dj : Array Int), vj = .int .i64 j ∧ a ≤ j ∧ j ≤ i ∧ InR B w0 g n cap wr2 dj ∧ Hid (Sort.insInner Sort.ltInt a j dj = Sort.insInner Sort.ltInt a i dk)) (fun vj _ => (numOf vj).toNat)
      case atStart => exact ⟨i, dk, rfl, by omega, Nat.le_refl _, hk, hide rfl⟩
      case round =>
        obtain ⟨j, dj, rfl, haj, hji, hj, HI⟩ := hrel
        have HJ := hide hj
        have hcw := hj.cell
        have hfw := hj.free
        obtain ⟨G, hG⟩ : ∃ G : Nat → Int, ∀ t, dj[t]! = G t := ⟨fun t => dj[t]!, fun _ => rfl⟩
        simp only [hG] at hcw
        have HG := hide hG
        have OUT := hide (fun (hs : j ≤ a ∨ dj[j - 1]! ≤ dj[j]!) (q : Nat) => show ∃ (i' : Nat) (dk' : Array Int), Value.int .i64 ((i : Int) + 1) = .int .i64 (i' : Nat) ∧ a < i' ∧ i' ≤ b + 1 ∧ InR B w0 g n cap (wr.drewN q) dk' ∧ Hid (Sort.insOuter Sort.ltInt a b i' dk' = Sort.insOuter Sort.ltInt a b (a + 1) d) from
          ⟨i + 1, dj, by go_num, by omega, by omega, hj.draw q, hide (by rw [← HO.out, So.out_on hlt, ← HI.out, So.in_off hs])⟩)
        clear hj hG h hk
        go_wp2
        have hjn : j < n := by omega
        by_cases hja : a < j
        · obtain ⟨k, hkj⟩ : ∃ k, k + 1 = j := ⟨j - 1, by omega⟩
          have j0 : (0 : Int) ≤ (j : Int) := by omega
          have j1 : (j : Int) < (n : Int) := by omega
          have j2 : (0 : Int) ≤ (k : Int) := by omega
          have j3 : (k : Int) < (n : Int) := by omega
          have ei : IntKind.i64.wrap ((j : Int) - 1) = (k : Int) := by rw [IntKind.wrap_i64]; omega
          have c1 := hcw j hjn
          have c2 := hcw k (by omega)
          have f1 := hfw j
          have f2 := hfw k
          have hne : j ≠ k := by omega
          go_quiet (first | (go_at_call 51; refine Calls.quiet_of_same (less_u _ _ _)))
          go_wp2
          · have hl : G j < G k := by assumption
            go_region
            all_goals go_wp2
            go_roundw
            case rel =>
              refine ⟨k, Sort.swp dj j k, rfl, by omega, by omega, ?_, ?_⟩
              · rw [← HG.out j, ← HG.out k]; exact (HJ.out.draw _).swap j k
              · exact hide (by rw [← HI.out, So.in_on hja (by rw [← hkj, Nat.add_sub_cancel, hkj, HG.out, HG.out]; exact hl), ← hkj, Nat.add_sub_cancel])
            case measure => simp [numOf]; omega
          · have hl : G k ≤ G j := by first | assumption | omega
            go_roundw
            case rel => exact OUT.out (Or.inr (by rw [← hkj, Nat.add_sub_cancel, hkj, HG.out, HG.out]; omega)) nq
            case measure => simp [numOf]; omega
        · go_quiet (first | (go_at_call 51; refine Calls.quiet_of_same (less_u _ _ _)))
          go_wp2
          go_roundw
          case rel => exact OUT.out (Or.inl (by omega)) nq
          case measure => simp [numOf]; omega
    · have hge : ¬ i < b := by assumption
      go_end0
      refine ⟨rfl, ?_⟩
      unfold Sort.insertionSort; rw [← HO.out, So.out_off (by omega)]; exact hk
end Go.Proofs.Ytpinhcbkfjoopaa
