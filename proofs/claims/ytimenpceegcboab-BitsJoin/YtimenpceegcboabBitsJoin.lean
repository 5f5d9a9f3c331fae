/- BitsJoin holds: at all bits and places the law answers true and changes nothing that was there. -/
import Derived.Test.YtimenpceegcboabAlive
import Derived.Test.YtimenpceegcboabPull
import Derived.Test.YtimenpceegcboabGood
namespace Go.Proofs.Ytimenpceegcboab
open Go.ChangeShapes Go.WideShapes Go.ChangeAt Go.RowKit
set_option linter.unusedVariables false

set_option maxHeartbeats 2000000 in
theorem join_idle (y0 : Value) (n0 a1 a2 a3 : Int) (w : World) (h2 : -9223372036854775808 ≤ a2) (h2' : a2 ≤ 9223372036854775807) (h : a2 < 0 ∨ a3 < 0 ∨ 64 < a2 ∨ 64 - a2 < a3) :
    Calls Try.prog 3 #[.agg #[y0, .int .i64 n0], .int .i64 a1, .int .i64 a2, .int .i64 a3] w fun e w' => e = .returned (.bool true) ∧ Below w.heap.size w w' := by
  by_cases c1 : a2 < 0
  · go_enter Try.func3, Try.ntmps3
    go_wp2_with (go_at_call 4; refine (bitses_any _).mono ?_; rintro e w1 ⟨rfl, hb1⟩; obtain ⟨hx0, hx1, hb, hsz⟩ := box2 hb1; clear hb1)
    go_ret
    exact ⟨rfl, hb⟩
  have d1 : decide (a2 < 0) = false := by simp; omega
  by_cases c2 : a3 < 0
  · go_enter Try.func3, Try.ntmps3
    go_wp2_with (go_at_call 4; refine (bitses_any _).mono ?_; rintro e w1 ⟨rfl, hb1⟩; obtain ⟨hx0, hx1, hb, hsz⟩ := box2 hb1; clear hb1)
    go_ret
    exact ⟨rfl, hb⟩
  have d2 : decide (a3 < 0) = false := by simp; omega
  by_cases c3 : 64 < a2
  · go_enter Try.func3, Try.ntmps3
    go_wp2_with (go_at_call 4; refine (bitses_any _).mono ?_; rintro e w1 ⟨rfl, hb1⟩; obtain ⟨hx0, hx1, hb, hsz⟩ := box2 hb1; clear hb1)
    go_ret
    exact ⟨rfl, hb⟩
  have d3 : decide (64 < a2) = false := by simp; omega
  have c4 : 64 - a2 < a3 := by omega
  go_enter Try.func3, Try.ntmps3
  go_wp2_with (go_at_call 4; refine (bitses_any _).mono ?_; rintro e w1 ⟨rfl, hb1⟩; obtain ⟨hx0, hx1, hb, hsz⟩ := box2 hb1; clear hb1)
  go_ret
  exact ⟨rfl, hb⟩

set_option maxHeartbeats 2000000 in
/-- Pull of all refuses. -/
theorem join_err (y0 : Value) (n0 a1 a2 a3 : Int) (w : World) (h2 : 0 ≤ a2) (h3 : 0 ≤ a3) (h4 : a2 + a3 ≤ 64)
    (hp : ∀ w' : World, Below w.heap.size w w' → ∃ er : Int, er ≠ 0 ∧ Calls Try.prog 5 #[.agg #[y0, .int .i64 n0], .int .i64 a1, .int .i64 (a2 + a3)] w' fun e w2 => e = .returned (.tuple #[.int .u64 0, .int .i64 er]) ∧ Below w'.heap.size w' w2) :
    Calls Try.prog 3 #[.agg #[y0, .int .i64 n0], .int .i64 a1, .int .i64 a2, .int .i64 a3] w fun e w' => e = .returned (.bool true) ∧ Below w.heap.size w w' := by
  have HP := hide hp
  clear hp
  have d1 : decide (a2 < 0) = false := by simp; omega
  have d2 : decide (a3 < 0) = false := by simp; omega
  have d3 : decide (64 < a2) = false := by simp; omega
  have d4 : decide (64 - a2 < a3) = false := by simp; omega
  go_enter Try.func3, Try.ntmps3
  go_wp2_with (first
    | (go_at_call 4; refine (bitses_any _).mono ?_; rintro e w1 ⟨rfl, hb1⟩; obtain ⟨hx0, hx1, hb, hsz⟩ := box2 hb1; clear hb1)
    | (go_at_call 5; obtain ⟨er, her, hcall⟩ := HP.out _ hb; refine hcall.mono ?_; clear hcall; have hne : (er != 0) = true := bne_iff_ne.2 her; clear her; rintro e w2 ⟨rfl, hb2⟩; replace hb := Below.next hb hb2; clear hb2))
  go_ret
  exact ⟨rfl, hb⟩

set_option maxHeartbeats 4000000 in
theorem join_ok (y0 : Value) (bs : List Bool) (p n m : Nat) (w : World) (hr : RowB w y0 (P.pack bs)) (n1 : (bs.length : Int) ≤ 9223372036854775807) (h4 : n + m ≤ 64) (hin : p + n + m ≤ bs.length) :
    Calls Try.prog 3 #[.agg #[y0, .int .i64 bs.length], .int .i64 p, .int .i64 n, .int .i64 m] w fun e w' => e = .returned (.bool true) ∧ Below w.heap.size w w' := by
  have d1 : decide ((n : Int) < 0) = false := by simp
  have d2 : decide ((m : Int) < 0) = false := by simp
  have d3 : decide ((64 : Int) < n) = false := by simp; omega
  have d4 : decide (64 - (n : Int) < m) = false := by simp; omega
  have HP1 : Hid (∀ (v : Value) (w : World), RowB w v (P.pack bs) → Calls Try.prog 5 #[.agg #[v, .int .i64 bs.length], .int .i64 p, .int .i64 ((n : Int) + (m : Int))] w fun e w' => e = .returned (.tuple #[.int .u64 (P.val ((bs.drop p).take (n + m)) : Nat), .int .i64 0]) ∧ Below w.heap.size w w') := by
    intro v w hr
    have h := pull_ok v bs p (n + m) w hr n1 h4 (by omega)
    rw [Int.natCast_add] at h
    exact h
  have HP2 := hide (fun (v : Value) (w : World) (hr : RowB w v (P.pack bs)) => pull_ok v bs p n w hr n1 (by omega) (by omega))
  have HP3 : Hid (∀ (v : Value) (w : World), RowB w v (P.pack bs) → Calls Try.prog 5 #[.agg #[v, .int .i64 bs.length], .int .i64 ((p : Int) + (n : Int)), .int .i64 m] w fun e w' => e = .returned (.tuple #[.int .u64 (P.val ((bs.drop (p + n)).take m) : Nat), .int .i64 0]) ∧ Below w.heap.size w w') := by
    intro v w hr
    have h := pull_ok v bs (p + n) m w hr n1 (by omega) (by omega)
    rw [Int.natCast_add] at h
    exact h
  have hV := P.val_split bs p n m hin
  have hC := P.val_take_lt bs (p + n) m
  have hB := P.val_take_lt bs p n
  have hA : P.val ((bs.drop p).take (n + m)) < 18446744073709551616 := Nat.lt_of_lt_of_le (P.val_take_lt bs p (n + m)) (by
    have : (2 : Nat) ^ (n + m) ≤ 2 ^ 64 := Nat.pow_le_pow_right (by decide) h4
    exact this)
  generalize P.val ((bs.drop p).take (n + m)) = V at *
  generalize P.val ((bs.drop p).take n) = B at *
  generalize P.val ((bs.drop (p + n)).take m) = C at *
  have hor := P.or_join B C m V hC hV hA
  have HV := hide hV
  clear hV hC hB
  go_enter Try.func3, Try.ntmps3
  go_wp2_with (go_at_call 4; refine (bitses_any _).mono ?_; rintro e w1 ⟨rfl, hb1⟩; obtain ⟨hx0, hx1, hb, hsz⟩ := box2 hb1; clear hb1)
  refine (HP1.out _ _ (hr.below hb (Nat.le_refl _))).mono ?_
  rintro e w2 ⟨rfl, hb2⟩
  replace hx0 := keep_cell hx0 hb2; replace hx1 := keep_cell hx1 hb2; replace hb := Below.next hb hb2; clear hb2
  go_wp2_with fail
  refine (HP2.out _ _ (hr.below hb (Nat.le_refl _))).mono ?_
  rintro e w3 ⟨rfl, hb2⟩
  replace hx0 := keep_cell hx0 hb2; replace hx1 := keep_cell hx1 hb2; replace hb := Below.next hb hb2; clear hb2
  go_wp2_with fail
  refine (HP3.out _ _ (hr.below hb (Nat.le_refl _))).mono ?_
  rintro e w4 ⟨rfl, hb2⟩
  replace hb := Below.next hb hb2; clear hb2 hx0 hx1
  go_wp2_with (go_at_call 6; go_must (refine (good_zeros _ 2 _ (row_two_zeros _ _)).mono ?_); rintro e w5 ⟨rfl, rfl⟩)
  go_ret
  exact ⟨rfl, below_alloc hb _⟩

theorem walk_BitsJoin (y0 : Value) (l0 : List Int) (n0 a1 a2 a3 : Int) (w : World) (hr : RowB w y0 l0) (hbt : Byt l0) (_hlen : l0.length ≤ 140737488351232) (h0 : -9223372036854775808 ≤ n0) (h0' : n0 ≤ 9223372036854775807)
    (_h1 : -9223372036854775808 ≤ a1) (h1' : a1 ≤ 9223372036854775807) (h2 : -9223372036854775808 ≤ a2) (h2' : a2 ≤ 9223372036854775807) (_h3 : -9223372036854775808 ≤ a3) (_h3' : a3 ≤ 9223372036854775807) :
    Calls Try.prog 3 #[.agg #[y0, .int .i64 n0], .int .i64 a1, .int .i64 a2, .int .i64 a3] w fun e w' => e = .returned (.bool true) ∧ Below w.heap.size w w' := by
  by_cases hi : a2 < 0 ∨ a3 < 0 ∨ 64 < a2 ∨ 64 - a2 < a3
  · exact join_idle y0 n0 a1 a2 a3 w h2 h2' hi
  by_cases hok : P.OkB l0 n0
  · obtain ⟨bs, rfl, rfl⟩ := P.ok_pack l0 n0 hbt hok
    by_cases hin : 0 ≤ a1 ∧ a1 + (a2 + a3) ≤ bs.length
    · obtain ⟨p, rfl⟩ := Int.eq_ofNat_of_zero_le hin.1
      obtain ⟨n, rfl⟩ := Int.eq_ofNat_of_zero_le (show 0 ≤ a2 by omega)
      obtain ⟨m, rfl⟩ := Int.eq_ofNat_of_zero_le (show 0 ≤ a3 by omega)
      exact join_ok y0 bs p n m w hr h0' (by omega) (by omega)
    · refine join_err y0 _ a1 a2 a3 w (by omega) (by omega) (by omega) fun w' hb => ?_
      have ho := P.pull_out bs a1 (a2 + a3) (by omega)
      have h := pull_all y0 bs a1 (a2 + a3) w' (hr.below hb (Nat.le_refl _)) h0' h1'
      rw [ho.2] at h
      exact ⟨_, ho.1, h⟩
  · exact join_err y0 n0 a1 a2 a3 w (by omega) (by omega) (by omega) fun w' hb => ⟨4, by decide, pull_bad y0 l0 n0 a1 (a2 + a3) w' (hr.below hb (Nat.le_refl _)) hbt h0 h0' hok⟩

set_option maxRecDepth 100000 in
theorem lifted_BitsJoin (os : Os) (started : os.Started) (H : Type) (enc : TypeId × Value → H) :
    ReturnsInHanded {} Try.checked os 3 .any (Rows.bitsJoinSpec.pre6 enc Try.prog Try.f3 Rows.bitsJoinRow.domain false) (Rows.bitsJoinSpec.post enc Try.prog Try.f3 false true false false) := by
  refine returnsInHanded_of_change_sized (C := Try.checked) own started (by kernel_rfl) Try.func3
    (ChangeSpec.witness6 (enc := enc) (C := Try.checked) false ⟨#[], #[.agg #[.slice none 0 0, .int .i64 0], .int .i64 0, .int .i64 0, .int .i64 0], []⟩ 8 (by kernel_rfl) (by kernel_rfl) (by kernel_rfl) (by kernel_rfl)) ?_
  intro W base args ds gs before hval0 hW hcnd hsz0 _
  have hsz : (DataW.weightsEach Try.prog (Try.f3.params.toList ++ Rows.bitsJoinSpec.plain.varTypes Try.prog) (ds ++ gs)).all (· ≤ reachBytes) = true := hsz0
  have hval : ∀ (j : Nat) t v, Try.f3.params[j]? = some t → args[j]? = some v → Value.okWide Try.prog W .any base t v := hval0
  have hW' := hW
  obtain ⟨p, q, hA0, hV, rfl, hfz, hnd⟩ := hW
  have hA : DataW.TrodAll enc Try.prog W 0 (fun _ => true) true Try.f3.params.toList args.toList ds p := hA0
  rw [Try.params3] at hA hval hsz
  obtain ⟨v0, vs0, d0, ds0, p0, q0, hargs, rfl, rfl, h0, r0⟩ := trodAll_cons hA
  obtain ⟨v1, vs1, d1, ds1, p1, q1, rfl, rfl, rfl, h1, r1⟩ := trodAll_cons r0
  obtain ⟨v2, vs2, d2, ds2, p2, q2, rfl, rfl, rfl, h2, r2⟩ := trodAll_cons r1
  obtain ⟨v3, vs3, d3, ds3, p3, q3, rfl, rfl, rfl, h3, r3⟩ := trodAll_cons r2
  obtain ⟨rfl, rfl, rfl⟩ := trodAll_nil r3
  obtain rfl : args = #[v0, v1, v2, v3] := by cases args; simp_all
  obtain ⟨rfl, rfl⟩ := trodVars_none hV
  have k0 := h0
  have lt0 : ∀ x ∈ p0, x.block < W.heap.size := by obtain ⟨m, hm⟩ := k0; exact DataW.trod_lt m _ _ _ hm
  obtain ⟨y0, l0, n0, rfl, row0, wf0, rc0, b0, es0, sp0, sh0⟩ := open_bits (hval 0 24 v0 rfl rfl) h0 hsz (j := 0) rfl rfl
  have k1 := h1
  have lt1 : ∀ x ∈ p1, x.block < W.heap.size := by obtain ⟨m, hm⟩ := k1; exact DataW.trod_lt m _ _ _ hm
  obtain ⟨a1, rfl, rfl, rfl, w1⟩ := open_int Try.underlying3 (hval 1 3 v1 rfl rfl) h1
  have b1 := bounds_i64 w1
  have k2 := h2
  have lt2 : ∀ x ∈ p2, x.block < W.heap.size := by obtain ⟨m, hm⟩ := k2; exact DataW.trod_lt m _ _ _ hm
  obtain ⟨a2, rfl, rfl, rfl, w2⟩ := open_int Try.underlying3 (hval 2 3 v2 rfl rfl) h2
  have b2 := bounds_i64 w2
  have k3 := h3
  have lt3 : ∀ x ∈ p3, x.block < W.heap.size := by obtain ⟨m, hm⟩ := k3; exact DataW.trod_lt m _ _ _ hm
  obtain ⟨a3, rfl, rfl, rfl, w3⟩ := open_int Try.underlying3 (hval 3 3 v3 rfl rfl) h3
  have b3 := bounds_i64 w3
  clear hA0 hval0
  refine (walk_BitsJoin y0 l0 n0 a1 a2 a3 W row0 wf0 rc0 b0.1 b0.2 b1.1 b1.2 b2.1 b2.2 b3.1 b3.2).mono fun e W' ⟨he, bel⟩ => ?_
  subst he
  exact ⟨_, rfl, _, _, _, [], _, [], hW', trodAll_mk1 (shut_bool Try.underlying4 _), (trodAll_cons_mk (Below.trod laidOut (by kernel_rfl) (of_decide_eq_true (by kernel_rfl)) k0 bel lt0) (trodAll_cons_mk (Below.trod laidOut (by kernel_rfl) (of_decide_eq_true (by kernel_rfl)) k1 bel lt1) (trodAll_cons_mk (Below.trod laidOut (by kernel_rfl) (of_decide_eq_true (by kernel_rfl)) k2 bel lt2) (trodAll_cons_mk (Below.trod laidOut (by kernel_rfl) (of_decide_eq_true (by kernel_rfl)) k3 bel lt3) trodAll_mk0)))), rfl, bel.frame _, fun h => by cases h⟩

theorem proved_BitsJoin : Rows.BitsJoinSaid :=
  OpenClaim.holds_of_wide 3 Try.f3 rfl rfl rfl rfl rfl rfl rfl ⟨rfl, rfl, rfl, rfl, rfl⟩ rfl rfl rfl rfl rfl (by kernel_rfl) Try.func3 (by kernel_rfl)
    (of_decide_eq_true (by kernel_rfl)) (by unfold Func.isWrapper; first | (rw [if_pos (by decide +kernel)]; kernel_rfl) | (rw [if_neg (by decide +kernel)]; exact ⟨rfl, rfl⟩))
    (fun os started H enc _ => lifted_BitsJoin os started H enc)
#print axioms proved_BitsJoin
end Go.Proofs.Ytimenpceegcboab
