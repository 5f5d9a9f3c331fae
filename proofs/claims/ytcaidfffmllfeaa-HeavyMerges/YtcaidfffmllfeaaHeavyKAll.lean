/- Several texts in one. -/
import Derived.Test.YtcaidfffmllfeaaHeavyCAll
/- What accounted answers; tallies that Check lets pass. -/
namespace Go.Proofs.Ytcaidfffmllfeaa
open Go.RowKit
set_option linter.unusedVariables false
namespace P
/-- A tally that may stand. -/
structure Good (s : Hv) : Prop where
  k1 : 1 ≤ s.k
  k2 : s.k ≤ 64
  len : (s.l.length : Int) ≤ s.k
  ok : OkC s.l
  n0 : 0 ≤ s.n
  n1 : s.n ≤ 1000000000
  o0 : 0 ≤ s.off
  o1 : s.off ≤ 1000000000
  acc : (s.k + 1) * s.off + tot s.l ≤ s.n
open Classical in
noncomputable def chkH (s : Hv) : Int := if Good s then 0 else 4
theorem chkH_ok {s : Hv} (h : Good s) : chkH s = 0 := by unfold chkH; rw [if_pos h]
theorem chkH_not {s : Hv} (h : ¬ Good s) : chkH s = 4 := by unfold chkH; rw [if_neg h]
theorem tot_take {l : List Ct} {k : Nat} {x : Ct} (h : l[k]? = some x) : tot (l.take (k + 1)) = tot (l.take k) + x.2 := by
  rw [List.take_add_one, h, tot_append]; simp [tot]
theorem tot_bound {l : List Ct} (h : ∀ x ∈ l, ok1 x) : 0 ≤ tot l ∧ tot l ≤ l.length * 1000000000 := by
  induction l with
  | nil => simp [tot]
  | cons x l ih =>
    have h1 := h x (by simp)
    have h2 := ih (fun y hy => h y (by simp [hy]))
    have h3 := h1.2
    simp only [tot, List.length_cons]
    omega
end P
theorem box4 {w : World} {c0 c1 c2 c3 : Value} {t : TypeId} :
    (w.alloc (.cells #[c0, c1, c2, c3] t)).cell? ⟨w.heap.size, 0, none⟩ = some c0 ∧ (w.alloc (.cells #[c0, c1, c2, c3] t)).cell? ⟨w.heap.size, 1, none⟩ = some c1 ∧ (w.alloc (.cells #[c0, c1, c2, c3] t)).cell? ⟨w.heap.size, 2, none⟩ = some c2 ∧ (w.alloc (.cells #[c0, c1, c2, c3] t)).cell? ⟨w.heap.size, 3, none⟩ = some c3 := by
  refine ⟨?_, ?_, ?_, ?_⟩ <;> simp
set_option maxHeartbeats 1000000 in
theorem accounted_any (v : Value) (s : P.Hv) (w : World) (hr : RowC w v s.l) (hk : 1 ≤ s.k ∧ s.k ≤ 64) (hlen : (s.l.length : Int) ≤ s.k) (hok : P.OkC s.l) (ho : 0 ≤ s.off ∧ s.off ≤ 1000000000) :
    Calls Try.prog 30 #[aggH v s] w fun e w' => e = .returned (.int .i64 ((s.k + 1) * s.off + P.tot s.l)) ∧ Below w.heap.size w w' := by
  obtain ⟨k, l, n, off⟩ := s
  simp only at *
  obtain ⟨a, cap, rfl, ⟨hlc, hmax, hnn⟩, hcase⟩ := hr
  unfold maxLen at hmax
  have hB0 : Below w.heap.size w (w.alloc (.cells #[.int .i64 k, .slice a l.length cap, .int .i64 n, .int .i64 off] 24)) := (Below.refl _ w).alloc (Nat.le_refl _) _
  have hp0 : 0 ≤ (k + 1) * off := Int.mul_nonneg (by omega) ho.1
  have hp1 : (k + 1) * off ≤ 65 * 1000000000 := Int.mul_le_mul (by omega) ho.2 ho.1 (by omega)
  have HBd : Hid (∀ j, j ≤ l.length → 0 ≤ P.tot (l.take j) ∧ P.tot (l.take j) ≤ 64000000000) := fun j hj => by
    have h1 := P.tot_bound (l := l.take j) (fun x hx => hok.1 x (List.mem_of_mem_take hx))
    rw [List.length_take] at h1
    have h2 : min j l.length ≤ 64 := by omega
    have h3 : ((min j l.length : Nat) : Int) * 1000000000 ≤ 64 * 1000000000 := by omega
    omega
  have hm0 : IntKind.i64.wrap (k + 1) = k + 1 := by rw [IntKind.wrap_i64]; omega
  generalize hpr : (k + 1) * off = pr at *
  clear hok
  go_enter Try.func30, Try.ntmps30
  go_wp2
  go_loopw [15, 3] (fun i s wr => ∃ (j : Nat), j ≤ l.length ∧ i = .int .i64 j ∧ s = .int .i64 (pr + P.tot (l.take j)) ∧ Below w.heap.size w wr) (fun i _ _ => l.length - (intOf i).toNat)
  case atStart => exact ⟨0, by omega, rfl, by simp [P.tot]; try omega, hB0⟩
  case round =>
    obtain ⟨j, hj, rfl, rfl, hB⟩ := hrel
    have hb1 := HBd.out j hj
    by_cases hlt : j < l.length
    · rcases hcase with h | ⟨b, off2, rfl, hbs, hcell⟩
      · rw [h] at hlt; simp at hlt
      have j0 : (0 : Int) ≤ (j : Int) := by omega
      have j1 : (j : Int) < (l.length : Int) := by omega
      obtain ⟨x, hx⟩ : ∃ x, l[j]? = some x := ⟨_, List.getElem?_eq_getElem hlt⟩
      obtain ⟨g0, g1⟩ := RowC.at hcell hx
      have q0 := (hB.cell (p := ⟨b, off2 + j * 2, none⟩) hbs).trans g0
      have q1 := (hB.cell (p := ⟨b, off2 + j * 2 + 1, none⟩) hbs).trans g1
      have HT := hide (P.tot_take hx)
      have hb2 := HBd.out (j + 1) (by omega)
      rw [HT.out] at hb2
      obtain ⟨xk, xn⟩ := x
      simp only at q0 q1 hb2 HT
      generalize P.tot (l.take j) = tj at *
      clear hcell hx g0 g1
      have hB2 := hide (hB.alloc hB.size (.cells #[.string xk, .int .i64 xn] 50))
      go_wp2
      go_roundw
      case rel => exact ⟨j + 1, by omega, by go_num, by rw [HT.out, ← Int.add_assoc], hB2.out⟩
      case measure => simp [intOf]; omega
    · have hd : decide ((j : Int) < (l.length : Int)) = false := by simp; omega
      have HA : Hid (P.tot (l.take j) = P.tot l) := by show _ = _; rw [List.take_of_length_le (by omega)]
      go_wp2
      go_ret
      exact ⟨ret_int (by rw [HA.out]), hB⟩
end Go.Proofs.Ytcaidfffmllfeaa
