/- BitsPush holds where what is handed in is of bulk at most 1048576: Check, Push and Pull answer what the document says, and nothing that was there is changed. -/
import Derived.Test.YtimenpceegcboaaBpErr
import Derived.Test.YtimenpceegcboaaBpOk
namespace Go.Proofs.Ytimenpceegcboaa
open Go.ChangeShapes Go.WideShapes Go.ChangeAt Go.RowKit
set_option linter.unusedVariables false

theorem walk_BitsPush (v : Value) (l : List Int) (n a1 a2 a3 : Int) (w : World) (hr : RowB w v l) (hbt : Byt l) (hlen : l.length ≤ 140737488351232) (n0 : -9223372036854775808 ≤ n) (n1 : n ≤ 9223372036854775807)
    (u0 : 0 ≤ a1) (u1 : a1 ≤ 18446744073709551615) (k0 : -9223372036854775808 ≤ a2) (k1 : a2 ≤ 9223372036854775807) (p0 : -9223372036854775808 ≤ a3) (p1 : a3 ≤ 9223372036854775807) (hbulk : l.length ≤ 1048576) :
    Calls Try.prog 4 #[.agg #[v, .int .i64 n], .int .u64 a1, .int .i64 a2, .int .i64 a3] w fun e w' => e = .returned (.bool true) ∧ Below w.heap.size w w' := by
  by_cases hidle : 2000 < n ∧ n ≤ 80000
  · exact bp_idle v n a1 a2 a3 w hidle.1 hidle.2
  have hlook : (decide (2000 < n) = false) ∨ decide (2000 < n) = true ∧ decide (n ≤ 80000) = false := by
    simp only [decide_eq_false_iff_not, decide_eq_true_eq]; omega
  by_cases hok : P.OkB l n
  · by_cases hk : a2 < 0 ∨ 64 < a2
    · exact bp_width v l n a1 a2 a3 w hr hbt hlen n0 n1 hok hk hlook
    have hl := hok.2.1
    have hn0 := hok.1
    obtain ⟨bs, rfl, rfl⟩ := P.ok_pack l n hbt hok
    obtain ⟨u, rfl⟩ := Int.eq_ofNat_of_zero_le u0
    obtain ⟨m, rfl⟩ := Int.eq_ofNat_of_zero_le (show 0 ≤ a2 by omega)
    have hn : bs.length ≤ 8388608 := by omega
    have hm : m ≤ 64 := by omega
    by_cases hfit : u < 2 ^ m
    · have hfb : fitsB u m = true := by unfold fitsB; rw [decide_eq_true_eq, Int.toNat_natCast]; exact_mod_cast hfit
      have ht2 : (u : Int) / 2 ^ m ≤ 0 := by rw [(div_pow_zero u m (by omega)).2 (by exact_mod_cast hfit)]; exact Int.le_refl _
      by_cases hbig : 80000 < bs.length + m
      · by_cases hm6 : m < 64
        · by_cases q1 : a3 < 0
          · exact bp_la_1 v bs u m a3 w hr hn hm u1 p0 p1 hlook hfb hm6 ht2 hbig q1
          by_cases q2 : (bs.length : Int) - m < a3
          · exact bp_la_2 v bs u m a3 w hr hn hm u1 p0 p1 hlook hfb hm6 ht2 hbig (by omega) q2
          · obtain ⟨p, rfl⟩ := Int.eq_ofNat_of_zero_le (show 0 ≤ a3 by omega)
            exact bp_la_3 v bs u m p w hr hn hm u1 p0 p1 hlook p hfb hm6 ht2 hbig (by omega)
        · by_cases q1 : a3 < 0
          · exact bp_lb_1 v bs u m a3 w hr hn hm u1 p0 p1 hlook hfb (by omega) hbig q1
          by_cases q2 : (bs.length : Int) - m < a3
          · exact bp_lb_2 v bs u m a3 w hr hn hm u1 p0 p1 hlook hfb (by omega) hbig (by omega) q2
          · obtain ⟨p, rfl⟩ := Int.eq_ofNat_of_zero_le (show 0 ≤ a3 by omega)
            exact bp_lb_3 v bs u m p w hr hn hm u1 p0 p1 hlook p hfb (by omega) hbig (by omega)
      · have hsm : bs.length ≤ 2000 := by omega
        by_cases hm6 : m < 64
        · by_cases q1 : a3 < 0
          · exact bp_oa_1 v bs u m a3 w hr hn hm u1 p0 p1 hlook hfit hm6 ht2 hsm q1
          by_cases q2 : (bs.length : Int) - m < a3
          · exact bp_oa_2 v bs u m a3 w hr hn hm u1 p0 p1 hlook hfit hm6 ht2 hsm (by omega) q2
          · obtain ⟨p, rfl⟩ := Int.eq_ofNat_of_zero_le (show 0 ≤ a3 by omega)
            exact bp_oa_3 v bs u m p w hr hn hm u1 p0 p1 hlook p hfit hm6 ht2 hsm (by omega)
        · by_cases q1 : a3 < 0
          · exact bp_ob_1 v bs u m a3 w hr hn hm u1 p0 p1 hlook hfit (by omega) hsm q1
          by_cases q2 : (bs.length : Int) - m < a3
          · exact bp_ob_2 v bs u m a3 w hr hn hm u1 p0 p1 hlook hfit (by omega) hsm (by omega) q2
          · obtain ⟨p, rfl⟩ := Int.eq_ofNat_of_zero_le (show 0 ≤ a3 by omega)
            exact bp_ob_3 v bs u m p w hr hn hm u1 p0 p1 hlook p hfit (by omega) hsm (by omega)
    · have hfb : fitsB u m = false := by
        unfold fitsB; rw [decide_eq_false_iff_not, Int.toNat_natCast]; intro h; exact hfit (by exact_mod_cast h)
      have hm6 : m < 64 := by
        rcases Nat.lt_or_ge m 64 with h | h
        · exact h
        · have h2 : m = 64 := by omega
          rw [h2] at hfit
          have : (2 : Nat) ^ 64 = 18446744073709551616 := by decide
          omega
      have ht2 : 0 < (u : Int) / 2 ^ m := by
        have h1 : ¬ (u : Int) / 2 ^ m = 0 := fun h => hfit (by exact_mod_cast (div_pow_zero u m (by omega)).1 h)
        have h2 : 0 ≤ (u : Int) / 2 ^ m := Int.ediv_nonneg (by omega) (Int.le_of_lt (Int.pow_pos (by decide)))
        omega
      by_cases q1 : a3 < 0
      · exact bp_f_1 v bs u m a3 w hr hn hm u1 p0 p1 hlook hfb hm6 ht2 q1
      by_cases q2 : (bs.length : Int) - m < a3
      · exact bp_f_2 v bs u m a3 w hr hn hm u1 p0 p1 hlook hfb hm6 ht2 (by omega) q2
      · obtain ⟨p, rfl⟩ := Int.eq_ofNat_of_zero_le (show 0 ≤ a3 by omega)
        exact bp_f_3 v bs u m p w hr hn hm u1 p0 p1 hlook p hfb hm6 ht2 (by omega)
  · exact bp_bad v l n a1 a2 a3 w hr hbt hlen n0 n1 hok hlook

set_option maxRecDepth 100000 in
theorem lifted_BitsPush (os : Os) (started : os.Started) (H : Type) (enc : TypeId × Value → H) (F : Stop.Interp) :
    ReturnsInHanded {} Try.checked os 4 .any ((Rows.OpenSpec.upto Rows.bitsPushSpec).pre6 enc Try.prog Try.f4 Rows.bitsPushUptoRow.domain false) (((Rows.OpenSpec.upto Rows.bitsPushSpec).at F).post enc Try.prog Try.f4 false true false false) := by
  refine returnsInHanded_of_cond_sized (C := Try.checked) (s := Rows.OpenSpec.upto Rows.bitsPushSpec) (k := Rows.uptoSmall) rfl own started (by kernel_rfl) Try.func4
    (OpenSpec.witness (enc := enc) (C := Try.checked) (s := Rows.OpenSpec.upto Rows.bitsPushSpec) (k := Rows.uptoSmall) rfl false ⟨#[], #[.agg #[.slice none 0 0, .int .i64 0], .int .u64 0, .int .i64 0, .int .i64 0], []⟩ 8 (by kernel_rfl) (by kernel_rfl) (by kernel_rfl)
      (x := ([.agg [.nil, .lit (.int .i64 0)], .lit (.int .u64 0), .lit (.int .i64 0), .lit (.int .i64 0)], [], [])) (by kernel_rfl) rfl (by kernel_rfl)) ?_
  intro W base args ds gs before hval0 hW hcnd hk0 hsz0 _
  have hsz : (DataW.weightsEach Try.prog (Try.f4.params.toList ++ Rows.bitsPushSpec.plain.varTypes Try.prog) (ds ++ gs)).all (· ≤ reachBytes) = true := hsz0
  have hval : ∀ (j : Nat) t v, Try.f4.params[j]? = some t → args[j]? = some v → Value.okWide Try.prog W .any base t v := hval0
  have hW' := hW
  obtain ⟨p, q, hA0, hV, rfl, hfz, hnd⟩ := hW
  have hA : DataW.TrodAll enc Try.prog W 0 (fun _ => true) true Try.f4.params.toList args.toList ds p := hA0
  rw [Try.params4] at hA hval hsz
  obtain ⟨v0, vs0, d0, ds0, p0, q0, hargs, rfl, rfl, h0, r0⟩ := trodAll_cons hA
  obtain ⟨v1, vs1, d1, ds1, p1, q1, rfl, rfl, rfl, h1, r1⟩ := trodAll_cons r0
  obtain ⟨v2, vs2, d2, ds2, p2, q2, rfl, rfl, rfl, h2, r2⟩ := trodAll_cons r1
  obtain ⟨v3, vs3, d3, ds3, p3, q3, rfl, rfl, rfl, h3, r3⟩ := trodAll_cons r2
  obtain ⟨rfl, rfl, rfl⟩ := trodAll_nil r3
  obtain rfl : args = #[v0, v1, v2, v3] := by cases args; simp_all
  obtain ⟨rfl, rfl⟩ := trodVars_none hV
  have k0 := h0
  have lt0 : ∀ x ∈ p0, x.block < W.heap.size := by obtain ⟨m, hm⟩ := k0; exact DataW.trod_lt m _ _ _ hm
  obtain ⟨y0, l0, n0, rfl, row0, wf0, rc0, b0, es0, sp0, sh0⟩ := open_bits (hval 0 33 v0 rfl rfl) h0 hsz (j := 0) rfl rfl
  have k1 := h1
  have lt1 : ∀ x ∈ p1, x.block < W.heap.size := by obtain ⟨m, hm⟩ := k1; exact DataW.trod_lt m _ _ _ hm
  obtain ⟨a1, rfl, rfl, rfl, w1⟩ := open_int Try.underlying22 (hval 1 22 v1 rfl rfl) h1
  have b1 := bounds_u64 w1
  have k2 := h2
  have lt2 : ∀ x ∈ p2, x.block < W.heap.size := by obtain ⟨m, hm⟩ := k2; exact DataW.trod_lt m _ _ _ hm
  obtain ⟨a2, rfl, rfl, rfl, w2⟩ := open_int Try.underlying3 (hval 2 3 v2 rfl rfl) h2
  have b2 := bounds_i64 w2
  have k3 := h3
  have lt3 : ∀ x ∈ p3, x.block < W.heap.size := by obtain ⟨m, hm⟩ := k3; exact DataW.trod_lt m _ _ _ hm
  obtain ⟨a3, rfl, rfl, rfl, w3⟩ := open_int Try.underlying3 (hval 3 3 v3 rfl rfl) h3
  have b3 := bounds_i64 w3
  clear hA0 hval0
  have bk0 := bulk_bits (l := l0) hk0 (by simp) sh0
  refine (walk_BitsPush y0 l0 n0 a1 a2 a3 W row0 wf0 rc0 b0.1 b0.2 b1.1 b1.2 b2.1 b2.2 b3.1 b3.2 bk0).mono fun e W' ⟨he, bel⟩ => ?_
  subst he
  exact ⟨_, rfl, _, _, _, [], _, [], hW', trodAll_mk1 (shut_bool Try.underlying4 _), (trodAll_cons_mk (Below.trod laidOut (by kernel_rfl) (of_decide_eq_true (by kernel_rfl)) k0 bel lt0) (trodAll_cons_mk (Below.trod laidOut (by kernel_rfl) (of_decide_eq_true (by kernel_rfl)) k1 bel lt1) (trodAll_cons_mk (Below.trod laidOut (by kernel_rfl) (of_decide_eq_true (by kernel_rfl)) k2 bel lt2) (trodAll_cons_mk (Below.trod laidOut (by kernel_rfl) (of_decide_eq_true (by kernel_rfl)) k3 bel lt3) trodAll_mk0)))), rfl, bel.frame _, fun h => by cases h⟩

theorem proved_BitsPush : Rows.BitsPushUptoSaid :=
  OpenClaim.holds_of_cond 4 Try.f4 rfl rfl rfl rfl rfl rfl rfl ⟨rfl, rfl, rfl, rfl, rfl⟩ rfl rfl rfl rfl rfl (by kernel_rfl) Try.func4 (by kernel_rfl)
    (of_decide_eq_true (by kernel_rfl)) (by unfold Func.isWrapper; first | (rw [if_pos (by decide +kernel)]; kernel_rfl) | (rw [if_neg (by decide +kernel)]; exact ⟨rfl, rfl⟩))
    (fun os started H enc _ F => lifted_BitsPush os started H enc F)
#print axioms proved_BitsPush
end Go.Proofs.Ytimenpceegcboaa
