/- Several texts in one. -/
import Derived.Test.YtpinhcbkfjoopaaSoSiftAll
/- Numbers below 2^64: heap sort. -/
namespace Go.Proofs.Ytpinhcbkfjoopaa
open Go.RowKit
set_option linter.unusedVariables false
theorem hb_step (m f k : Nat) (d : Array Int) : Sort.heapBuild Sort.ltInt m f (k + 1) d = Sort.heapBuild Sort.ltInt m f k (Sort.siftDown Sort.ltInt m f k d) := by rw [Sort.heapBuild]
theorem hp_step (f k : Nat) (d : Array Int) : Sort.heapPop Sort.ltInt f (k + 1) d = Sort.heapPop Sort.ltInt f k (Sort.siftDown Sort.ltInt k f 0 (Sort.swp d f (f + k))) := by rw [Sort.heapPop]
theorem half_down (m : Nat) : ((m : Int) - 1).tdiv 2 = (((m - 1) / 2 + 1 : Nat) : Int) - 1 := by
  rcases m with _ | m
  · rfl
  · have e : ((m + 1 : Nat) : Int) - 1 = (m : Int) := by omega
    rw [e, Int.tdiv_eq_ediv_of_nonneg (by omega)]
    omega
set_option maxHeartbeats 4000000 in
set_option maxRecDepth 100000 in
/-- Heap sort of a part. -/
theorem heap_u {B : Nat} {w0 w : World} {g n cap : Nat} {d : Array Int} (h : InR B w0 g n cap w d) (a b : Nat) (hab : a ≤ b) (hb : b ≤ n) (hn : n ≤ 1152921504606846976) :
    Calls Try.prog 46 #[.slice (some ⟨g, 0, none⟩) n cap, .int .i64 a, .int .i64 b] w fun e w' =>
      e = .returned (.tuple #[]) ∧ InR B w0 g n cap w' (Sort.heapSort Sort.ltInt d a b) := by
  obtain ⟨m, hm⟩ : ∃ m, m = b - a := ⟨_, rfl⟩
  have em : IntKind.i64.wrap ((b : Int) - (a : Int)) = (m : Int) := by rw [IntKind.wrap_i64]; omega
  have m0 : (m : Int) ≤ 1152921504606846976 := by omega
  have HM := hide hm
  clear hm
  go_enter Try.func46, Try.ntmps46
  go_wp2
  go_loopw [9] (fun vi wr => ∃ (k : Nat) (dk : Array Int), vi = .int .i64 ((k : Int) - 1) ∧ k ≤ m + 1 ∧ (k ≤ m ∨ k = 1) ∧ InR B w0 g n cap wr dk ∧ Hid (Sort.heapBuild Sort.ltInt m a k dk = Sort.heapBuild Sort.ltInt m a ((m - 1) / 2 + 1) d)) (fun vi _ => (numOf vi + 1).toNat)
  case atStart =>
    exact ⟨(m - 1) / 2 + 1, d, by rw [half_down], by omega, by omega, h, hide rfl⟩
  case round =>
    obtain ⟨k, dk, rfl, hk1, hk2, hk, HO⟩ := hrel
    rcases k with _ | k
    · rw [show ((0 : Nat) : Int) - 1 = -1 from rfl]
      go_wp2
      clear h
      go_loopw [10] (fun vi wr => ∃ (k : Nat) (dj : Array Int), vi = .int .i64 ((k : Int) - 1) ∧ k ≤ m ∧ InR B w0 g n cap wr dj ∧ Hid (Sort.heapPop Sort.ltInt a k dj = Sort.heapPop Sort.ltInt a m dk)) (fun vi _ => (numOf vi + 1).toNat)
      case atStart => exact ⟨m, dk, rfl, Nat.le_refl _, hk, hide rfl⟩
      case round =>
        clear hk
        obtain ⟨k, dj, rfl, hk1, hk, HP⟩ := hrel
        rcases k with _ | k
        · go_wp2
          go_end0
          refine ⟨rfl, ?_⟩
          unfold Sort.heapSort
          rw [← HM.out, ← HO.out]
          show InR B w0 g n cap wr (Sort.heapPop Sort.ltInt a m dk)
          rw [← HP.out]
          exact hk
        · have HK := hide hk
          have hm : a + m ≤ n := by have := HM.out; omega
          obtain ⟨q, hq⟩ : ∃ q, q = a + k := ⟨_, rfl⟩
          have c0 := hk.cell a (by omega)
          have c1 := hk.cell q (by omega)
          have f0 := hk.free a
          have f1 := hk.free q
          have e3 : IntKind.i64.wrap ((a : Int) + (k : Int)) = (q : Int) := by rw [IntKind.wrap_i64]; omega
          have ek : ((k + 1 : Nat) : Int) - 1 = (k : Int) := by omega
          have j0 : (0 : Int) ≤ (a : Int) := by omega
          have j1 : (a : Int) < (n : Int) := by omega
          have j2 : (0 : Int) ≤ (q : Int) := by omega
          have j3 : (q : Int) < (n : Int) := by omega
          have hd : decide ((0 : Int) ≤ (k : Int)) = true := by simp
          have HQ := hide hq
          rw [ek]
          by_cases hk0 : k = 0
          · subst hk0
            have hqa : q = a := by omega
            subst hqa
            clear hk
            generalize hx : dj[q]! = x at c0 c1
            have HX := hide hx
            clear hx c1 f1 e3 hq
            rw [show ((0 : Nat) : Int) = 0 from rfl]
            go_wp2
            go_region
            have HK2 := (HK.out.swap q q).draw 1
            rw [HX.out] at HK2
            have HK3 := hide (sift_u HK2 0 0 q (by omega) (by omega) hn)
            clear HK2 c0 f0
            change Hid (Calls Try.prog 57 _ ((wr.setCell ⟨g, q, none⟩ (.int .u64 x)).setCell ⟨g, q, none⟩ (.int .u64 x)).drew _) at HK3
            generalize ((wr.setCell ⟨g, q, none⟩ (.int .u64 x)).setCell ⟨g, q, none⟩ (.int .u64 x)).drew = W2 at *
            go_wp2_with (go_at_call 57; refine HK3.out.mono ?_; rintro e w2 ⟨rfl, hw2⟩; replace hw2 := hide hw2)
            go_roundw
            case rel => exact ⟨0, _, rfl, by omega, hw2.out, hide ((hp_step _ _ _).symm.trans HP.out)⟩
            case measure => simp [numOf]
          · have hne : a ≠ q := by omega
            clear hq hk
            generalize hx : dj[a]! = x at c0
            generalize hy : dj[q]! = y at c1
            have HX := hide hx
            have HY := hide hy
            clear hx hy
            go_wp2
            go_region
            have HK2 := (HK.out.swap a q).draw 1
            rw [HX.out, HY.out] at HK2
            have HK3 := hide (sift_u HK2 0 k a (by omega) (by omega) hn)
            clear HK2 c0 c1 f0 f1
            change Hid (Calls Try.prog 57 _ ((wr.setCell ⟨g, a, none⟩ (.int .u64 y)).setCell ⟨g, q, none⟩ (.int .u64 x)).drew _) at HK3
            generalize ((wr.setCell ⟨g, a, none⟩ (.int .u64 y)).setCell ⟨g, q, none⟩ (.int .u64 x)).drew = W2 at *
            go_wp2_with (go_at_call 57; refine HK3.out.mono ?_; rintro e w2 ⟨rfl, hw2⟩; replace hw2 := hide hw2)
            go_roundw
            case rel => exact ⟨k, _, rfl, by omega, hw2.out, hide (by rw [HQ.out, ← hp_step]; exact HP.out)⟩
            case measure => simp [numOf]
    · have ek : ((k + 1 : Nat) : Int) - 1 = (k : Int) := by omega
      have hd : decide ((0 : Int) ≤ (k : Int)) = true := by simp
      have HK := hide hk
      have hm : a + m ≤ n := by have := HM.out; omega
      rw [ek]
      clear hk h
      go_wp2_with (go_at_call 57; refine (sift_u HK.out k m a (by omega) (by omega) hn).mono ?_; rintro e w2 ⟨rfl, hw2⟩; replace hw2 := hide hw2)
      go_roundw
      case rel => exact ⟨k, _, rfl, by omega, by omega, hw2.out, hide (by rw [← hb_step]; exact HO.out)⟩
      case measure => simp [numOf]
end Go.Proofs.Ytpinhcbkfjoopaa
