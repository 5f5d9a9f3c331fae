/- Several texts in one. -/
import Derived.Test.YtpinhcbkfjoopaaSoLenAll
import Derived.Test.YtpinhcbkfjoopaaSoPrtAll
import Derived.Deep.RegionHeld
/- Numbers below 2^64: breakPatterns. -/
namespace Go.Proofs.Ytpinhcbkfjoopaa
open Go.RowKit
set_option linter.unusedVariables false
theorem and_below (x y : Nat) (hx : x < 18446744073709551616) (hy : y < 18446744073709551616) : ∃ v : Nat, v ≤ y ∧ bits BinOp.and IntKind.u64 (x : Int) (y : Int) = (v : Int) := by
  refine ⟨x &&& y, Nat.and_le_right, ?_⟩
  exact u64_and_nat x y hx hy
set_option maxHeartbeats 4000000 in
set_option maxRecDepth 100000 in
/-- A few exchanges within the part. -/
theorem brk_u {B : Nat} {w0 w : World} {g n cap : Nat} {d : Array Int} (h : InR B w0 g n cap w d) (a b : Nat) (hab : a + 12 < b) (hb : b ≤ n) (hn : n ≤ 1152921504606846976) :
    Calls Try.prog 47 #[.slice (some ⟨g, 0, none⟩) n cap, .int .i64 a, .int .i64 b] w fun e w' =>
      e = .returned (.tuple #[]) ∧ ∃ d', InR B w0 g n cap w' d' ∧ Sort.PermIn a b d d' := by
  obtain ⟨l, hl⟩ : ∃ l, l = b - a := ⟨_, rfl⟩
  obtain ⟨t, ht⟩ : ∃ t, t = l / 4 := ⟨_, rfl⟩
  obtain ⟨i, hi⟩ : ∃ i, i + 1 = a + t * 2 := ⟨a + t * 2 - 1, by omega⟩
  obtain ⟨j, hj⟩ : ∃ j, j = i + 1 := ⟨_, rfl⟩
  obtain ⟨z, hz⟩ : ∃ z, z = i + 2 := ⟨_, rfl⟩
  have ej : IntKind.i64.wrap ((a : Int) + (t : Int) * 2) = (j : Int) := by rw [IntKind.wrap_i64]; omega
  have ei : IntKind.i64.wrap ((j : Int) - 1) = (i : Int) := by rw [IntKind.wrap_i64]; omega
  have ez : IntKind.i64.wrap ((j : Int) + 1) = (z : Int) := by rw [IntKind.wrap_i64]; omega
  have hz1 : a ≤ i := by omega
  have hz2 : i + 2 < b := by omega
  have hzi : z ≤ i + 2 := by omega
  have hal : a + l ≤ b := by omega
  have el : IntKind.i64.wrap ((b : Int) - (a : Int)) = (l : Int) := by rw [IntKind.wrap_i64]; omega
  have et : (l : Int).tdiv 4 = (t : Int) := by rw [Int.tdiv_eq_ediv_of_nonneg (by omega)]; omega
  have et' : (l : Int) / 4 = (t : Int) := by omega
  have t0 : (t : Int) ≤ 1152921504606846976 := by omega
  have hd8 : decide (8 ≤ (l : Int)) = true := by simp; omega
  have A := hide (And.intro hl (And.intro ht hi))
  have hl2 : (l : Int) ≤ 1152921504606846976 := by omega
  have l0 : 0 < l := by omega
  have HK := hide (h.alloc (.cells #[.int .u64 (l : Int)] 88))
  have HP := hide (fun w => pow_u l w l0 (by omega))
  have hlt := h.lt
  clear hl ht hi hj hz h
  go_enter Try.func47, Try.ntmps47
  go_wp2_with fail
  refine (HP.out _).mono ?_
  rintro e w1 ⟨⟨m, rfl, hm0, hm2⟩, hw1⟩
  have cs : w1.cell? ⟨w.heap.size, 0, none⟩ = some (.int .u64 (l : Int)) := by rw [hw1]; unfold World.cell?; rw [heap_alloc_new]; rfl
  have fs : w1.frozen? ⟨w.heap.size, 0, none⟩ = false := by rw [hw1]; unfold World.frozen?; rw [heap_alloc_new]; rfl
  rw [← hw1] at HK
  clear hw1 HP
  obtain ⟨m1, hm1⟩ : ∃ m1, m1 + 1 = m := ⟨m - 1, by omega⟩
  have em : IntKind.u64.wrap ((m : Int) - 1) = (m1 : Int) := by rw [IntKind.wrap_u64]; omega
  have hm3 : m1 < 2 * l := by omega
  have HSG : Hid (w.heap.size ≠ g) := hide (by omega)
  have hsB : B ≤ w.heap.size := by omega
  clear hm1 hm0 hm2 hlt
  go_wp2
  go_loopw [9] (fun vx wr => ∃ (x v : Nat) (dk : Array Int), vx = .int .i64 x ∧ i ≤ x ∧ x ≤ i + 3 ∧ v < 18446744073709551616 ∧ InR B w0 g n cap wr dk ∧ Hid (Sort.PermIn a b d dk) ∧ wr.cell? ⟨w.heap.size, 0, none⟩ = some (.int .u64 (v : Int)) ∧ wr.frozen? ⟨w.heap.size, 0, none⟩ = false) (fun vx _ => (i + 4 - numOf vx).toNat)
  case atStart => exact ⟨i, l, d, rfl, Nat.le_refl _, by omega, by omega, HK.out, hide (Sort.permIn_refl d a b), cs, fs⟩
  case round =>
    clear HK cs fs
    obtain ⟨x, v, dk, rfl, hx1, hx2, hv, hk, HPm, cs, fs⟩ := hrel
    by_cases hxz : x ≤ z
    · have hd : decide ((x : Int) ≤ (z : Int)) = true := by simp; omega
      have HN := hide (next_u hk hsB HSG.out v hv cs fs)
      clear hk cs fs hv
      go_wp2_with fail
      refine HN.out.mono ?_
      rintro e w2 ⟨v', hv', rfl, hk2, cs2, fs2⟩
      have HK2 := hide hk2
      obtain ⟨o, ho, eo⟩ := and_below v' m1 hv' (by omega)
      have ho2 : o < 2 * l := by omega
      have ew : IntKind.i64.wrap (o : Int) = (o : Int) := by rw [IntKind.wrap_i64]; omega
      clear hk2 HN
      by_cases hol : l ≤ o
      · have hdo : decide ((l : Int) ≤ (o : Int)) = true := by simp; omega
        obtain ⟨o2, ho3⟩ : ∃ o2, o2 + l = o := ⟨o - l, by omega⟩
        have ew2 : IntKind.i64.wrap ((o : Int) - (l : Int)) = (o2 : Int) := by rw [IntKind.wrap_i64]; omega
        obtain ⟨q, hq⟩ : ∃ q, q = a + o2 := ⟨_, rfl⟩
        have eq1 : IntKind.i64.wrap ((a : Int) + (o2 : Int)) = (q : Int) := by rw [IntKind.wrap_i64]; omega
        have hq1 : a ≤ q := by omega
        have hq2 : q < b := by omega
        clear hq ho3
        have c0 := HK2.out.cell x (by omega)
        have c1 := HK2.out.cell q (by omega)
        have f0 := HK2.out.free x
        have f1 := HK2.out.free q
        have j0 : (0 : Int) ≤ (x : Int) := by omega
        have j1 : (x : Int) < (n : Int) := by omega
        have j2 : (0 : Int) ≤ (q : Int) := by omega
        have j3 : (q : Int) < (n : Int) := by omega
        have s1 := (HK2.out.set x dk[q]!).cell q (by omega)
        have t1 := (HK2.out.set x dk[q]!).free q
        have HQP := hide (Sort.permIn_trans _ _ _ _ _ HPm.out (Sort.swp_permIn dk a b x q (by omega) (by omega) (by omega) (by omega) (by have := HK2.out.size; omega)))
        have HSW := hide ((HK2.out.swap x q).draw 1)
        generalize (dk.setIfInBounds x dk[q]!)[q]! = s0 at s1
        generalize hx : dk[x]! = u at c0 HSW
        generalize hy : dk[q]! = y at c1 s1 t1 HSW
        clear hx hy HK2
        go_wp2
        go_region
        all_goals go_wp2
        go_roundw
        case rel => exact ⟨x + 1, v', Sort.swp dk x q, by go_num, by omega, by omega, hv', HSW.out, hide HQP.out, by show ((w2.setCell ⟨g, x, none⟩ (.int .u64 y)).setCell ⟨g, q, none⟩ (.int .u64 u)).cell? ⟨w.heap.size, 0, none⟩ = _; rw [World.cell?_setCell_far _ _ _ _ (fun e => HSG.out e.symm), World.cell?_setCell_far _ _ _ _ (fun e => HSG.out e.symm)]; exact cs2, by show ((w2.setCell ⟨g, x, none⟩ (.int .u64 y)).setCell ⟨g, q, none⟩ (.int .u64 u)).frozen? ⟨w.heap.size, 0, none⟩ = _; simp [fs2]⟩
        case measure => simp [numOf]; omega
      · have hdo : decide ((l : Int) ≤ (o : Int)) = false := by simp; omega
        obtain ⟨q, hq⟩ : ∃ q, q = a + o := ⟨_, rfl⟩
        have eq1 : IntKind.i64.wrap ((a : Int) + (o : Int)) = (q : Int) := by rw [IntKind.wrap_i64]; omega
        have hq1 : a ≤ q := by omega
        have hq2 : q < b := by omega
        clear hq
        have c0 := HK2.out.cell x (by omega)
        have c1 := HK2.out.cell q (by omega)
        have f0 := HK2.out.free x
        have f1 := HK2.out.free q
        have j0 : (0 : Int) ≤ (x : Int) := by omega
        have j1 : (x : Int) < (n : Int) := by omega
        have j2 : (0 : Int) ≤ (q : Int) := by omega
        have j3 : (q : Int) < (n : Int) := by omega
        have s1 := (HK2.out.set x dk[q]!).cell q (by omega)
        have t1 := (HK2.out.set x dk[q]!).free q
        have HQP := hide (Sort.permIn_trans _ _ _ _ _ HPm.out (Sort.swp_permIn dk a b x q (by omega) (by omega) (by omega) (by omega) (by have := HK2.out.size; omega)))
        have HSW := hide ((HK2.out.swap x q).draw 1)
        generalize (dk.setIfInBounds x dk[q]!)[q]! = s0 at s1
        generalize hx : dk[x]! = u at c0 HSW
        generalize hy : dk[q]! = y at c1 s1 t1 HSW
        clear hx hy HK2
        go_wp2
        go_region
        all_goals go_wp2
        go_roundw
        case rel => exact ⟨x + 1, v', Sort.swp dk x q, by go_num, by omega, by omega, hv', HSW.out, hide HQP.out, by show ((w2.setCell ⟨g, x, none⟩ (.int .u64 y)).setCell ⟨g, q, none⟩ (.int .u64 u)).cell? ⟨w.heap.size, 0, none⟩ = _; rw [World.cell?_setCell_far _ _ _ _ (fun e => HSG.out e.symm), World.cell?_setCell_far _ _ _ _ (fun e => HSG.out e.symm)]; exact cs2, by show ((w2.setCell ⟨g, x, none⟩ (.int .u64 y)).setCell ⟨g, q, none⟩ (.int .u64 u)).frozen? ⟨w.heap.size, 0, none⟩ = _; simp [fs2]⟩
        case measure => simp [numOf]; omega
    · have hd : decide ((x : Int) ≤ (z : Int)) = false := by simp; omega
      go_wp2
      go_end0
      exact ⟨rfl, dk, hk, HPm.out⟩
end Go.Proofs.Ytpinhcbkfjoopaa
