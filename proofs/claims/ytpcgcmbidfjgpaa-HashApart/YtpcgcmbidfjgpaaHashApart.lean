/- HashApart holds: at every two numbers and all bytes the law answers true and changes nothing that was there. No conditions. -/
import Derived.Test.YtpcgcmbidfjgpaaHlive
namespace Go.Proofs.Ytpcgcmbidfjgpaa
open Go.ChangeShapes Go.WideShapes Go.ChangeAt Go.RowKit
set_option linter.unusedVariables false
theorem apart_nat (n m : Nat) (v : Value) (l : List Int) (w : World) (h : n < 18446744073709551616) (h' : m < 18446744073709551616) (hr : RowB w v l) (hbt : Byt l) :
    Calls Try.prog 5 #[.int .u64 n, .int .u64 m, v] w fun e w' => e = .returned (.bool true) ∧ Below w.heap.size w w' := by
  have H1 := hide (fun w => mix_any n w h)
  have H2 := hide (fun w => mix_any m w h')
  have O1 := hide (of_any n v l w h hr hbt)
  have O2 := hide (of_any m v l w h' hr hbt)
  have HL := hide hashes_any
  have k1 := P.mix_lt n
  have k2 := P.mix_lt m
  have k3 := P.hof_lt n l
  have k4 := P.hof_lt m l
  have c1 : ((P.mix n : Int) == (P.mix m : Int)) = ((n : Int) == (m : Int)) := by
    rw [Bool.eq_iff_iff, beq_iff_eq, beq_iff_eq]
    constructor
    · intro e; rw [P.mix_inj n m h h' (by omega)]
    · intro e; rw [show n = m by omega]
  have c2 : ((P.hof n l : Int) == (P.hof m l : Int)) = ((n : Int) == (m : Int)) := by
    rw [Bool.eq_iff_iff, beq_iff_eq, beq_iff_eq]
    constructor
    · intro e; rw [P.hof_inj n m l h h' (by omega)]
    · intro e; rw [show n = m by omega]
  generalize P.mix n = m1 at H1 k1 c1
  generalize P.mix m = m2 at H2 k2 c1
  generalize P.hof n l = q1 at O1 k3 c2
  generalize P.hof m l = q2 at O2 k4 c2
  generalize hB : ((n : Int) == (m : Int)) = b at c1 c2
  obtain ⟨a, cap, rfl, _⟩ := hr
  have e1 : (b == b) = true := beq_self_eq_true b
  go_enter Try.func5, Try.ntmps5
  go_wp2_with fail
  refine (HL.out _).mono ?_
  rintro e w' ⟨rfl, rfl⟩
  go_wp2_with fail
  refine (H1.out _).mono ?_
  rintro e w' ⟨rfl, rfl⟩
  go_wp2_with fail
  refine (H2.out _).mono ?_
  rintro e w' ⟨rfl, rfl⟩
  go_wp2_with fail
  refine O1.out.mono ?_
  rintro e w' ⟨rfl, rfl⟩
  go_wp2_with fail
  refine O2.out.mono ?_
  rintro e w' ⟨rfl, rfl⟩
  go_wp2
  go_ret
  exact ⟨rfl, Below.refl _ _⟩
theorem walk_HashApart (a0 a1 : Int) (v : Value) (l : List Int) (w : World) (h0 : 0 ≤ a0) (h0' : a0 ≤ 18446744073709551615) (h1 : 0 ≤ a1) (h1' : a1 ≤ 18446744073709551615) (hr : RowB w v l) (hbt : Byt l) (_hlen : l.length ≤ 140737488351232) :
    Calls Try.prog 5 #[.int .u64 a0, .int .u64 a1, v] w fun e w' => e = .returned (.bool true) ∧ Below w.heap.size w w' := by
  obtain ⟨n, rfl⟩ := Int.eq_ofNat_of_zero_le h0
  obtain ⟨m, rfl⟩ := Int.eq_ofNat_of_zero_le h1
  exact apart_nat n m v l w (by omega) (by omega) hr hbt
set_option maxRecDepth 100000 in
theorem lifted_HashApart (os : Os) (started : os.Started) (H : Type) (enc : TypeId × Value → H) :
    ReturnsInHanded {} Try.checked os 5 .any (Rows.hashApartSpec.pre6 enc Try.prog Try.f5 Rows.hashApartRow.domain false) (Rows.hashApartSpec.post enc Try.prog Try.f5 false true false false) := by
  refine returnsInHanded_of_change_sized (C := Try.checked) own started (by kernel_rfl) Try.func5
    (ChangeSpec.witness6 (enc := enc) (C := Try.checked) false ⟨#[], #[.int .u64 0, .int .u64 0, .slice none 0 0], []⟩ 8 (by kernel_rfl) (by kernel_rfl) (by kernel_rfl) (by kernel_rfl)) ?_
  intro W base args ds gs before hval0 hW hcnd hsz0 _
  have hsz : (DataW.weightsEach Try.prog (Try.f5.params.toList ++ Rows.hashApartSpec.plain.varTypes Try.prog) (ds ++ gs)).all (· ≤ reachBytes) = true := hsz0
  have hval : ∀ (j : Nat) t v, Try.f5.params[j]? = some t → args[j]? = some v → Value.okWide Try.prog W .any base t v := hval0
  have hW' := hW
  obtain ⟨p, q, hA0, hV, rfl, hfz, hnd⟩ := hW
  have hA : DataW.TrodAll enc Try.prog W 0 (fun _ => true) true Try.f5.params.toList args.toList ds p := hA0
  rw [Try.params5] at hA hval hsz
  obtain ⟨v0, vs0, d0, ds0, p0, q0, hargs, rfl, rfl, h0, r0⟩ := trodAll_cons hA
  obtain ⟨v1, vs1, d1, ds1, p1, q1, rfl, rfl, rfl, h1, r1⟩ := trodAll_cons r0
  obtain ⟨v2, vs2, d2, ds2, p2, q2, rfl, rfl, rfl, h2, r2⟩ := trodAll_cons r1
  obtain ⟨rfl, rfl, rfl⟩ := trodAll_nil r2
  obtain rfl : args = #[v0, v1, v2] := by cases args; simp_all
  obtain ⟨rfl, rfl⟩ := trodVars_none hV
  have k0 := h0
  have lt0 : ∀ x ∈ p0, x.block < W.heap.size := by obtain ⟨m, hm⟩ := k0; exact DataW.trod_lt m _ _ _ hm
  obtain ⟨a0, rfl, rfl, rfl, w0⟩ := open_int Try.underlying22 (hval 0 22 v0 rfl rfl) h0
  have b0 := bounds_u64 w0
  have k1 := h1
  have lt1 : ∀ x ∈ p1, x.block < W.heap.size := by obtain ⟨m, hm⟩ := k1; exact DataW.trod_lt m _ _ _ hm
  obtain ⟨a1, rfl, rfl, rfl, w1⟩ := open_int Try.underlying22 (hval 1 22 v1 rfl rfl) h1
  have b1 := bounds_u64 w1
  have k2 := h2
  have lt2 : ∀ x ∈ p2, x.block < W.heap.size := by obtain ⟨m, hm⟩ := k2; exact DataW.trod_lt m _ _ _ hm
  obtain ⟨s2, len2, cap2, rfl⟩ := okWide_slice Try.underlying23 (hval 2 23 v2 rfl rfl)
  obtain ⟨l2, row2, wf2, sh2⟩ := open_row Try.underlying23 Try.underlying5 cells5 h2
  have rc2 := row_reach hsz (j := 2) (t := 23) rfl rfl Try.underlying23 sh2
  rw [bytes5, Nat.mul_one] at rc2
  clear hA0 hval0
  refine (walk_HashApart a0 a1 (.slice s2 len2 cap2) l2 W b0.1 b0.2 b1.1 b1.2 row2 (wf_bytes wf2) rc2).mono fun e W' ⟨he, bel⟩ => ?_
  subst he
  exact ⟨_, rfl, _, _, _, [], _, [], hW', trodAll_mk1 (shut_bool Try.underlying4 _), (trodAll_cons_mk (Below.trod laidOut (by kernel_rfl) (of_decide_eq_true (by kernel_rfl)) k0 bel lt0) (trodAll_cons_mk (Below.trod laidOut (by kernel_rfl) (of_decide_eq_true (by kernel_rfl)) k1 bel lt1) (trodAll_cons_mk (Below.trod laidOut (by kernel_rfl) (of_decide_eq_true (by kernel_rfl)) k2 bel lt2) trodAll_mk0))), rfl, bel.frame _, fun h => by cases h⟩

theorem proved_HashApart : Rows.HashApartSaid :=
  OpenClaim.holds_of_wide 5 Try.f5 rfl rfl rfl rfl rfl rfl rfl ⟨rfl, rfl, rfl, rfl, rfl⟩ rfl rfl rfl rfl rfl (by kernel_rfl) Try.func5 (by kernel_rfl)
    (of_decide_eq_true (by kernel_rfl)) (by unfold Func.isWrapper; first | (rw [if_pos (by decide +kernel)]; kernel_rfl) | (rw [if_neg (by decide +kernel)]; exact ⟨rfl, rfl⟩))
    (fun os started H enc _ => lifted_HashApart os started H enc)
#print axioms proved_HashApart
end Go.Proofs.Ytpcgcmbidfjgpaa
