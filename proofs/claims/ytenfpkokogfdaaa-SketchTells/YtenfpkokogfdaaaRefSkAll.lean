/- Several texts in one. -/
import Derived.Test.YtenfpkokogfdaaaSkCoAll
import Derived.Test.YtenfpkokogfdaaaRefHashAll
import Derived.Deep.QuietTactic
import Derived.BigQuiet
/- What the document's own SameSketch and CellOf answer. -/
namespace Go.Proofs.Ytenfpkokogfdaaa
open Go.RowKit
set_option linter.unusedVariables false
set_option maxHeartbeats 1000000 in
/-- Two rows of the same numbers are the same. -/
theorem sameNumbers_yes (u v : Value) (l : List Int) (w : World) (h : RowK .i64 w u l) (h' : RowK .i64 w v l) : Calls Try.prog 27 #[u, v] w fun e w' => e = .returned (.bool true) ∧ ∃ q, w' = w.drewN q := by
  obtain ⟨a, cap, rfl, ⟨hlc, hmax, hnn⟩, hcase⟩ := h
  obtain ⟨a2, cap2, rfl, ⟨hlc2, hmax2, hnn2⟩, hcase2⟩ := h'
  unfold maxLen at hmax hmax2
  go_enter Try.func27, Try.ntmps27
  go_wp2
  go_loopw [13] (fun i wr => ∃ j : Nat, j ≤ l.length ∧ i = .int .i64 j ∧ ∃ q, wr = w.drewN q) (fun i _ => l.length - (intOf i).toNat)
  case atStart => exact ⟨0, by omega, rfl, 0, rfl⟩
  case round =>
    obtain ⟨j, hj, rfl, hq⟩ := hrel
    have HQ := hide hq
    have hcw : ∀ (p : Addr), wr.cell? p = w.cell? p := by obtain ⟨q, rfl⟩ := hq; exact fun _ => rfl
    clear hq
    by_cases hlt : j < l.length
    · rcases hcase with h | ⟨b, off, rfl, hbs, hcell⟩
      · rw [h] at hlt; simp at hlt
      rcases hcase2 with h | ⟨b2, off2, rfl, hbs2, hcell2⟩
      · rw [h] at hlt; simp at hlt
      have j0 : (0 : Int) ≤ (j : Int) := by omega
      have j1 : (j : Int) < (l.length : Int) := by omega
      have q0 := fun n => (show (wr.drewN n).cell? ⟨b, off + j, none⟩ = _ from (hcw _).trans (hcell j (by omega)))
      have q1 := fun n => (show (wr.drewN n).cell? ⟨b2, off2 + j, none⟩ = _ from (hcw _).trans (hcell2 j (by omega)))
      generalize l.getD j 0 = y at *
      have hd : (y != y) = false := by simp
      clear hcell hcell2 hcw
      go_wp2
      go_quiet (fail)
      go_wp2
      go_roundw
      case rel => exact ⟨j + 1, by omega, by go_num, dn_ex HQ.out _⟩
      case measure => simp [intOf]; omega
    · have hd2 : decide ((j : Int) < (l.length : Int)) = false := by simp; omega
      obtain rfl : j = l.length := by omega
      go_wp2
      go_ret
      exact ⟨rfl, HQ.out⟩
/-- Two values of the same sketch are the same. -/
theorem SameSketch_yes (u v : Value) (S : P.Sk) (w : World) (h : RowK .i64 w u S.c) (h' : RowK .i64 w v S.c) : Calls Try.prog 12 #[aggK u S, aggK v S] w fun e w' => e = .returned (.bool true) ∧ Below w.heap.size w w' := by
  have HB := hide (((Below.refl w.heap.size w).alloc (Nat.le_refl _) (.cells #[.int .i64 S.d, .int .i64 S.w, u, .int .i64 S.n] 24)).alloc (by simp) (.cells #[.int .i64 S.d, .int .i64 S.w, v, .int .i64 S.n] 24))
  have HE := hide (sameNumbers_yes u v S.c _ (h.below HB.out (Nat.le_refl _)) (h'.below HB.out (Nat.le_refl _)))
  obtain ⟨a, c, rfl⟩ := h.shp
  obtain ⟨a2, c2, rfl⟩ := h'.shp
  clear h h'
  have d0 : ((S.d : Int) == (S.d : Int)) = true := by simp
  have d1 : ((S.w : Int) == (S.w : Int)) = true := by simp
  have d2 : (S.n == S.n) = true := by simp
  go_enter Try.func12, Try.ntmps12
  go_wp2_with (go_at_call 27; go_must (refine HE.out.mono ?_); rintro e w1 ⟨rfl, q, rfl⟩)
  go_ret
  exact ⟨rfl, below_dn HB.out q⟩
theorem SameZero (w : World) : Calls Try.prog 12 #[.agg #[.int .i64 0, .int .i64 0, .slice none 0 0, .int .i64 0], .agg #[.int .i64 0, .int .i64 0, .slice none 0 0, .int .i64 0]] w fun e w' => e = .returned (.bool true) ∧ Below w.heap.size w w' :=
  SameSketch_yes (.slice none 0 0) (.slice none 0 0) z0 w ⟨none, 0, rfl, ⟨by simp [z0], by simp, fun _ => rfl⟩, .inl rfl⟩ ⟨none, 0, rfl, ⟨by simp [z0], by simp, fun _ => rfl⟩, .inl rfl⟩
set_option maxRecDepth 100000 in
set_option maxHeartbeats 2000000 in
theorem CellOf_any (cv : Value) (d x : Nat) (n : Int) (k : Nat) (q : ByteArray) (w : World) (hk : k ≤ 8) (hx1 : 1 ≤ x) (hx2 : x ≤ 200) (hq : q.size ≤ 9223372036854775807) :
    Calls Try.prog 16 #[.agg #[.int .i64 d, .int .i64 x, cv, .int .i64 n], .int .i64 k, .string q] w fun e w' => e = .returned (.int .i64 ((k * x + P.hc x k q : Nat) : Int)) ∧ Below w.heap.size w w' := by
  have HB := hide ((Below.refl w.heap.size w).alloc (Nat.le_refl _) (.cells #[.int .i64 d, .int .i64 x, cv, .int .i64 n] 24))
  have c1 : (w.alloc (.cells #[.int .i64 d, .int .i64 x, cv, .int .i64 n] 24)).cell? ⟨w.heap.size, 1, none⟩ = some (.int .i64 x) := by simp
  have hlt64 := P.hof_lt k (P.key q)
  have HOf := hide (fun (v : Value) wx (h : RowB wx v (P.key q)) => hashOf_any k v (P.key q) wx (by omega) h (byt_key q))
  have e0 : IntKind.u64.wrap (k : Int) = (k : Int) := by rw [IntKind.wrap_u64]; omega
  have hkx : k * x ≤ 1600 := Nat.mul_le_mul hk hx2
  have e1 : IntKind.i64.wrap ((k : Int) * (x : Int)) = ((k * x : Nat) : Int) := by rw [← Int.natCast_mul, IntKind.wrap_i64]; generalize k * x = z at hkx; omega
  have e2 : IntKind.u64.wrap (x : Int) = (x : Int) := by rw [IntKind.wrap_u64]; omega
  have e5 : ¬ x = 0 := by omega
  unfold P.hc
  generalize P.hof k (P.key q) = H at *
  have hmod : H % x < x := Nat.mod_lt _ (by omega)
  have e3 : IntKind.i64.wrap (((H % x : Nat)) : Int) = ((H % x : Nat) : Int) := by rw [IntKind.wrap_i64]; omega
  have HY : Hid (IntKind.i64.wrap ((k : Int) * (x : Int) + IntKind.i64.wrap (Int.tmod (H : Int) (x : Int))) = ((k * x + H % x : Nat) : Int)) := by
    show _ = _
    have h1 : Int.tmod (H : Int) (x : Int) = ((H % x : Nat) : Int) := by rw [Int.tmod_eq_emod_of_nonneg (by omega)]; simp
    rw [h1, e3, ← Int.natCast_mul, IntKind.wrap_i64]
    generalize k * x = z at hkx
    omega
  go_enter Try.func16, Try.ntmps16
  go_wp2
  generalize w.alloc (.cells #[.int .i64 d, .int .i64 x, cv, .int .i64 n] 24) = W1 at *
  obtain ⟨vb, wb, hcv, hrb, hbb⟩ := conv_key q W1.drew hq
  have cd : W1.drew.cell? ⟨w.heap.size, 1, none⟩ = some (.int .i64 x) := c1
  have cb := keep_cell cd hbb
  have HOf2 := hide (HOf.out vb wb hrb)
  have HBf := hide (Below.next HB.out ((below_dr (Below.refl W1.heap.size W1)).trans (show Below W1.heap.size W1.drew wb from hbb)))
  clear HOf hrb hbb
  go_region_law (go_simp; go_at_call 30; go_must (refine HOf2.out.mono ?_); rintro e w' ⟨rfl, rfl⟩)
  all_goals
    go_wp2
    go_ret
    refine ⟨?_, HBf.out⟩
    rw [HY.out]
    first | rfl | (simp [Act.put]; done) | go_simp
end Go.Proofs.Ytenfpkokogfdaaa
