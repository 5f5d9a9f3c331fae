/- BitsNear holds: at every two numbers the law answers true and changes nothing that was there. -/
import Derived.Test.YtimenpceegcboaaAlive
import Derived.Test.YtimenpceegcboaaFrame
namespace Go.Proofs.Ytimenpceegcboaa
open Go.ChangeShapes Go.WideShapes Go.ChangeAt Go.RowKit
set_option linter.unusedVariables false

theorem zig_pos (n : Int) (h : 0 ≤ n) : 2 * n ≤ P.zig n ∧ P.zig n ≤ 2 * n := by unfold P.zig; rw [if_pos h]; omega
theorem zig_neg (n : Int) (h : 0 ≤ n) : P.zig (-n - 1) = P.zig n + 1 := by unfold P.zig; rw [if_pos h, if_neg (by omega)]; omega

/- The law where the numbers' signs are known: 'n', 'm' are what stands in the slots behind the two tests. -/
set_option maxHeartbeats 4000000 in
theorem near_core (a0 a1 : Int) (w : World) (h0 : -9223372036854775808 ≤ a0) (h0' : a0 ≤ 9223372036854775807) (h1 : -9223372036854775808 ≤ a1) (h1' : a1 ≤ 9223372036854775807)
    (n m : Int) (hn : n = (if a0 < 0 then -(a0 + 1) else a0)) (hm : m = (if a1 < 0 then -(a1 + 1) else a1)) :
    Calls Try.prog 7 #[.int .i64 a0, .int .i64 a1] w fun e w' => e = .returned (.bool true) ∧ Below w.heap.size w w' := by
  have n0 : 0 ≤ n := by rw [hn]; split <;> omega
  have m0 : 0 ≤ m := by rw [hm]; split <;> omega
  obtain ⟨zn1, zn2⟩ := zig_pos n n0
  obtain ⟨zm1, zm2⟩ := zig_pos m m0
  have zz := zig_neg n n0
  by_cases hs : n < m
  · have hp := P.put_mono (P.zig n) (P.zig m) (by omega) (by omega)
    have hz : P.zig n < P.zig m := by omega
    by_cases hn0 : a0 < 0 <;> by_cases hm0 : a1 < 0 <;> simp only [hn0, hm0, if_true, if_false] at hn hm <;> subst hn hm <;>
    · go_enter Try.func7, Try.ntmps7
      go_wp2_with (first
        | (go_at_call 27; refine (bitses_any _).mono ?_; rintro e w1 ⟨rfl, hb⟩)
        | (go_at_call 11; refine (zig_any _ _ (by omega) (by omega)).mono ?_; rintro e w' ⟨rfl, rfl⟩)
        | (go_at_call 16; refine (put_any _ _ (by omega) (by omega)).mono ?_; rintro e w2 ⟨v, rfl, hown, hb2⟩; obtain ⟨a, cap, hv⟩ := hown.shape; rw [hv]; replace hb := Below.next hb hb2; clear hown hv hb2))
      go_ret
      refine ⟨?_, hb⟩
      first | (simp [*]; done) | (simp [*]; exact (congrArg P.zig (by omega)).trans zz)
  by_cases hq : m < n
  · have hz : P.zig m < P.zig n := by omega
    by_cases hn0 : a0 < 0 <;> by_cases hm0 : a1 < 0 <;> simp only [hn0, hm0, if_true, if_false] at hn hm <;> subst hn hm <;>
    · go_enter Try.func7, Try.ntmps7
      go_wp2_with (first
        | (go_at_call 27; refine (bitses_any _).mono ?_; rintro e w1 ⟨rfl, hb⟩)
        | (go_at_call 11; refine (zig_any _ _ (by omega) (by omega)).mono ?_; rintro e w' ⟨rfl, rfl⟩)
        | (go_at_call 16; refine (put_any _ _ (by omega) (by omega)).mono ?_; rintro e w2 ⟨v, rfl, hown, hb2⟩; obtain ⟨a, cap, hv⟩ := hown.shape; rw [hv]; replace hb := Below.next hb hb2; clear hown hv hb2))
      go_ret
      refine ⟨?_, hb⟩
      first | (simp [*]; done) | (simp [*]; exact (congrArg P.zig (by omega)).trans zz)
  · have hp := P.put_mono (P.zig n) (P.zig m) (by omega) (by omega)
    have hz : P.zig m ≤ P.zig n := by omega
    by_cases hn0 : a0 < 0 <;> by_cases hm0 : a1 < 0 <;> simp only [hn0, hm0, if_true, if_false] at hn hm <;> subst hn hm <;>
    · go_enter Try.func7, Try.ntmps7
      go_wp2_with (first
        | (go_at_call 27; refine (bitses_any _).mono ?_; rintro e w1 ⟨rfl, hb⟩)
        | (go_at_call 11; refine (zig_any _ _ (by omega) (by omega)).mono ?_; rintro e w' ⟨rfl, rfl⟩)
        | (go_at_call 16; refine (put_any _ _ (by omega) (by omega)).mono ?_; rintro e w2 ⟨v, rfl, hown, hb2⟩; obtain ⟨a, cap, hv⟩ := hown.shape; rw [hv]; replace hb := Below.next hb hb2; clear hown hv hb2))
      go_ret
      refine ⟨?_, hb⟩
      first | (simp [*]; done) | (simp [*]; exact (congrArg P.zig (by omega)).trans zz)

theorem walk_BitsNear (a0 a1 : Int) (w : World) (h0 : -9223372036854775808 ≤ a0) (h0' : a0 ≤ 9223372036854775807) (h1 : -9223372036854775808 ≤ a1) (h1' : a1 ≤ 9223372036854775807) :
    Calls Try.prog 7 #[.int .i64 a0, .int .i64 a1] w fun e w' => e = .returned (.bool true) ∧ Below w.heap.size w w' :=
  near_core a0 a1 w h0 h0' h1 h1' _ _ rfl rfl

set_option maxRecDepth 100000 in
theorem lifted_BitsNear (os : Os) (started : os.Started) (H : Type) (enc : TypeId × Value → H) :
    ReturnsInHanded {} Try.checked os 7 .any (Rows.bitsNearSpec.pre6 enc Try.prog Try.f7 Rows.bitsNearRow.domain false) (Rows.bitsNearSpec.post enc Try.prog Try.f7 false true false false) := by
  refine returnsInHanded_of_change_sized (C := Try.checked) own started (by kernel_rfl) Try.func7
    (ChangeSpec.witness6 (enc := enc) (C := Try.checked) false ⟨#[], #[.int .i64 0, .int .i64 0], []⟩ 8 (by kernel_rfl) (by kernel_rfl) (by kernel_rfl) (by kernel_rfl)) ?_
  intro W base args ds gs before hval0 hW hcnd hsz0 _
  have hsz : (DataW.weightsEach Try.prog (Try.f7.params.toList ++ Rows.bitsNearSpec.plain.varTypes Try.prog) (ds ++ gs)).all (· ≤ reachBytes) = true := hsz0
  have hval : ∀ (j : Nat) t v, Try.f7.params[j]? = some t → args[j]? = some v → Value.okWide Try.prog W .any base t v := hval0
  have hW' := hW
  obtain ⟨p, q, hA0, hV, rfl, hfz, hnd⟩ := hW
  have hA : DataW.TrodAll enc Try.prog W 0 (fun _ => true) true Try.f7.params.toList args.toList ds p := hA0
  rw [Try.params7] at hA hval hsz
  obtain ⟨v0, vs0, d0, ds0, p0, q0, hargs, rfl, rfl, h0, r0⟩ := trodAll_cons hA
  obtain ⟨v1, vs1, d1, ds1, p1, q1, rfl, rfl, rfl, h1, r1⟩ := trodAll_cons r0
  obtain ⟨rfl, rfl, rfl⟩ := trodAll_nil r1
  obtain rfl : args = #[v0, v1] := by cases args; simp_all
  obtain ⟨rfl, rfl⟩ := trodVars_none hV
  have k0 := h0
  have lt0 : ∀ x ∈ p0, x.block < W.heap.size := by obtain ⟨m, hm⟩ := k0; exact DataW.trod_lt m _ _ _ hm
  obtain ⟨a0, rfl, rfl, rfl, w0⟩ := open_int Try.underlying2 (hval 0 2 v0 rfl rfl) h0
  have b0 := bounds_i64 w0
  have k1 := h1
  have lt1 : ∀ x ∈ p1, x.block < W.heap.size := by obtain ⟨m, hm⟩ := k1; exact DataW.trod_lt m _ _ _ hm
  obtain ⟨a1, rfl, rfl, rfl, w1⟩ := open_int Try.underlying2 (hval 1 2 v1 rfl rfl) h1
  have b1 := bounds_i64 w1
  clear hA0 hval0
  refine (walk_BitsNear a0 a1 W b0.1 b0.2 b1.1 b1.2).mono fun e W' ⟨he, bel⟩ => ?_
  subst he
  exact ⟨_, rfl, _, _, _, [], _, [], hW', trodAll_mk1 (shut_bool Try.underlying4 _), (trodAll_cons_mk (Below.trod laidOut (by kernel_rfl) (of_decide_eq_true (by kernel_rfl)) k0 bel lt0) (trodAll_cons_mk (Below.trod laidOut (by kernel_rfl) (of_decide_eq_true (by kernel_rfl)) k1 bel lt1) trodAll_mk0)), rfl, bel.frame _, fun h => by cases h⟩

theorem proved_BitsNear : Rows.BitsNearSaid :=
  OpenClaim.holds_of_wide 7 Try.f7 rfl rfl rfl rfl rfl rfl rfl ⟨rfl, rfl, rfl, rfl, rfl⟩ rfl rfl rfl rfl rfl (by kernel_rfl) Try.func7 (by kernel_rfl)
    (of_decide_eq_true (by kernel_rfl)) (by unfold Func.isWrapper; first | (rw [if_pos (by decide +kernel)]; kernel_rfl) | (rw [if_neg (by decide +kernel)]; exact ⟨rfl, rfl⟩))
    (fun os started H enc _ => lifted_BitsNear os started H enc)
#print axioms proved_BitsNear
end Go.Proofs.Ytimenpceegcboaa
