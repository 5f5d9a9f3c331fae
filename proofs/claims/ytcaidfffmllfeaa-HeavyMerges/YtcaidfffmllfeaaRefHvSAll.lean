/- Several texts in one. -/
import Derived.Test.YtcaidfffmllfeaaRefHvCAll
import Derived.Test.YtcaidfffmllfeaaKitBAll
/- What the reference's SameHeavy answers of two that are one. -/
namespace Go.Proofs.Ytcaidfffmllfeaa
open Go.RowKit
set_option linter.unusedVariables false
set_option maxRecDepth 100000 in
set_option maxHeartbeats 4000000 in
theorem sameHeavy_same (va vb : Value) (s : P.Hv) (w : World) (ra : RowC w va s.l) (rb : RowC w vb s.l) :
    Calls Try.prog 12 #[aggH va s, aggH vb s] w fun e w' => e = .returned (.bool true) ∧ Below w.heap.size w w' := by
  obtain ⟨a1, c1, rfl, ⟨hlc1, hm1, _⟩, hcase1⟩ := ra
  obtain ⟨a2, c2, rfl, ⟨hlc2, hm2, _⟩, hcase2⟩ := rb
  unfold maxLen at hm1 hm2
  have hB : Below w.heap.size w ((w.alloc (.cells #[.int .i64 s.k, .slice a1 s.l.length c1, .int .i64 s.n, .int .i64 s.off] 24)).alloc (.cells #[.int .i64 s.k, .slice a2 s.l.length c2, .int .i64 s.n, .int .i64 s.off] 24)) := ((Below.refl _ w).alloc (Nat.le_refl _) _).alloc (by simp) _
  have X1 : BoxH ((w.alloc (.cells #[.int .i64 s.k, .slice a1 s.l.length c1, .int .i64 s.n, .int .i64 s.off] 24)).alloc (.cells #[.int .i64 s.k, .slice a2 s.l.length c2, .int .i64 s.n, .int .i64 s.off] 24)) w.heap.size (.slice a1 s.l.length c1) s := (BoxH.new w _ s).below ((Below.refl _ _).alloc (Nat.le_refl _) _)
  have X2 : BoxH ((w.alloc (.cells #[.int .i64 s.k, .slice a1 s.l.length c1, .int .i64 s.n, .int .i64 s.off] 24)).alloc (.cells #[.int .i64 s.k, .slice a2 s.l.length c2, .int .i64 s.n, .int .i64 s.off] 24)) (w.heap.size + 1) (.slice a2 s.l.length c2) s := by
    have := BoxH.new (w.alloc (.cells #[.int .i64 s.k, .slice a1 s.l.length c1, .int .i64 s.n, .int .i64 s.off] 24)) (.slice a2 s.l.length c2) s
    simpa using this
  have HB := hide hB
  obtain ⟨x0, x1, x2, x3⟩ := X1.cells
  obtain ⟨y0, y1, y2, y3⟩ := X2.cells
  have f0 : (s.k != s.k) = false := by simp
  have f1 : (s.n != s.n) = false := by simp
  have f2 : (s.off != s.off) = false := by simp
  have f3 : ((s.l.length : Int) != (s.l.length : Int)) = false := by simp
  clear hB X1 X2
  go_enter Try.func12, Try.ntmps12
  go_upto_region 1 with fail
  generalize ((w.alloc (.cells #[.int .i64 s.k, .slice a1 s.l.length c1, .int .i64 s.n, .int .i64 s.off] 24)).alloc (.cells #[.int .i64 s.k, .slice a2 s.l.length c2, .int .i64 s.n, .int .i64 s.off] 24)) = W at *
  go_wp2
  go_loopw [37] (fun i wr => ∃ (k : Nat), k ≤ s.l.length ∧ i = .int .i64 k ∧ ∃ q, wr = W.drewN q) (fun i _ => s.l.length - (intOf i).toNat)
  case atStart => exact ⟨0, by omega, rfl, 0, rfl⟩
  case round =>
    obtain ⟨k, hk, rfl, hq⟩ := hrel
    have hcw : ∀ (p : Addr), wr.cell? p = W.cell? p := by obtain ⟨q, rfl⟩ := hq; exact fun _ => rfl
    have HQ := hide hq
    have q1 : wr.cell? ⟨w.heap.size, 1, none⟩ = some (.slice a1 s.l.length c1) := (hcw _).trans x1
    have q2 : wr.cell? ⟨w.heap.size + 1, 1, none⟩ = some (.slice a2 s.l.length c2) := (hcw _).trans y1
    clear hq
    by_cases hlt : k < s.l.length
    · rcases hcase1 with h | ⟨p1, o1, rfl, hbs1, hcell1⟩
      · rw [h] at hlt; simp at hlt
      rcases hcase2 with h | ⟨p2, o2, rfl, hbs2, hcell2⟩
      · rw [h] at hlt; simp at hlt
      obtain ⟨x, hx⟩ : ∃ x, s.l[k]? = some x := ⟨_, List.getElem?_eq_getElem hlt⟩
      obtain ⟨g1, g1'⟩ := RowC.at hcell1 hx
      obtain ⟨g2, g2'⟩ := RowC.at hcell2 hx
      replace g1 : wr.cell? ⟨p1, o1 + k * 2, none⟩ = some (.string x.1) := (hcw _).trans <| (HB.out.cell (p := ⟨p1, o1 + k * 2, none⟩) hbs1).trans g1
      replace g1' : wr.cell? ⟨p1, o1 + k * 2 + 1, none⟩ = some (.int .i64 x.2) := (hcw _).trans <| (HB.out.cell (p := ⟨p1, o1 + k * 2 + 1, none⟩) hbs1).trans g1'
      replace g2 : wr.cell? ⟨p2, o2 + k * 2, none⟩ = some (.string x.1) := (hcw _).trans <| (HB.out.cell (p := ⟨p2, o2 + k * 2, none⟩) hbs2).trans g2
      replace g2' : wr.cell? ⟨p2, o2 + k * 2 + 1, none⟩ = some (.int .i64 x.2) := (hcw _).trans <| (HB.out.cell (p := ⟨p2, o2 + k * 2 + 1, none⟩) hbs2).trans g2'
      have j0 : (0 : Int) ≤ (k : Int) := by omega
      have j1 : (k : Int) < (s.l.length : Int) := by omega
      clear hcell1 hcell2 hx hcw x0 x1 x2 x3 y0 y1 y2 y3 f0 f1 f2 f3
      obtain ⟨z0, z1⟩ := x
      simp only at g1 g1' g2 g2'
      have e0 : (z0.toList == z0.toList) = true := by simp
      have e1 : (z1 == z1) = true := by simp
      go_wp2
      go_quiet (fail)
      go_wp2
      go_roundw
      case rel => exact ⟨k + 1, by omega, by go_num, by obtain ⟨q, h⟩ := HQ.out; exact ⟨q + nq, by rw [h]; exact World.drewN_drewN _ _ _⟩⟩
      case measure => simp [intOf]; omega
    · have hd : decide ((k : Int) < (s.l.length : Int)) = false := by simp; omega
      go_wp2
      go_ret
      exact ⟨rfl, by obtain ⟨q, h⟩ := HQ.out; rw [h]; exact below_dn HB.out _⟩
end Go.Proofs.Ytcaidfffmllfeaa
