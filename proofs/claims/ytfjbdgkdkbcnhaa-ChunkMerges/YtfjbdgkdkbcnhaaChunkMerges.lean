/- ChunkMerges holds: at all samples and times the law answers true and changes nothing that was there. -/
import Derived.Test.YtfjbdgkdkbcnhaaChunkM
import Derived.Test.YtfjbdgkdkbcnhaaRefFault
import Derived.Test.YtfjbdgkdkbcnhaaRefBtw
import Derived.Test.YtfjbdgkdkbcnhaaRefMerge
namespace Go.Proofs.Ytfjbdgkdkbcnhaa
open Go.ChangeShapes Go.WideShapes Go.ChangeAt Go.RowKit
set_option linter.unusedVariables false
theorem merges_1 (va vb : Value) (a b : List (Int × Int)) (f t : Int) (w : World) (ha : RowS w va a) (hb : RowS w vb b) (hc : P.chk a ≠ 0) :
    Calls Try.prog 3 #[va, vb, .int .i64 f, .int .i64 t] w fun e w' => e = .returned (.bool true) ∧ Below w.heap.size w w' := by
  have he : P.merr a b ≠ 0 := by rw [P.merr_1 hc]; exact hc
  have HM := hide (merge_bad va vb a b w ha hb he)
  rw [P.merr_1 hc] at HM
  have HR := hide (fun (w' : World) (h : Below w.heap.size w w') => range_bad va a f t w' (ha.below h (Nat.le_refl _)) hc)
  have HF := hide (fun (w' : World) (h : Below w.heap.size w w') => samplesFault_any va a w' (ha.below h (Nat.le_refl _)))
  generalize P.chk a = c at *
  have t1 : (c != 0) = true := by simpa using hc
  have t2 : (c == c) = true := by simp
  clear hc ha hb he
  go_enter Try.func3, Try.ntmps3
  go_wp2_with (first
    | (go_at_call 5; go_must (refine HM.out.mono ?_); rintro e w1 ⟨rfl, hb⟩)
    | (go_at_call 6; go_must (refine (HR.out _ hb).mono ?_); rintro e w2 ⟨rfl, hb2⟩; replace hb := Below.next hb hb2; clear hb2)
    | (go_at_call 7; go_must (refine (HF.out _ hb).mono ?_); rintro e w2 ⟨rfl, hb2⟩; replace hb := Below.next hb hb2; clear hb2))
  go_ret
  exact ⟨rfl, hb⟩
set_option maxHeartbeats 1000000 in
theorem merges_2 (va vb : Value) (a b : List (Int × Int)) (f t : Int) (w : World) (ha : RowS w va a) (hb : RowS w vb b) (hc : P.chk a = 0) (hc2 : P.chk b ≠ 0) :
    Calls Try.prog 3 #[va, vb, .int .i64 f, .int .i64 t] w fun e w' => e = .returned (.bool true) ∧ Below w.heap.size w w' := by
  have he : P.merr a b ≠ 0 := by rw [P.merr_2 hc hc2]; exact hc2
  have HM := hide (merge_bad va vb a b w ha hb he)
  rw [P.merr_2 hc hc2] at HM
  have HR := hide (fun (w' : World) (h : Below w.heap.size w w') => range_ok va a f t w' (ha.below h (Nat.le_refl _)) hc)
  have HF := hide (fun (w' : World) (h : Below w.heap.size w w') => samplesFault_any va a w' (ha.below h (Nat.le_refl _)))
  rw [hc] at HF
  have HF2 := hide (fun (w' : World) (h : Below w.heap.size w w') => samplesFault_any vb b w' (hb.below h (Nat.le_refl _)))
  have HB := hide (fun (w' : World) (h : Below w.heap.size w w') => between_any va a f t w' (ha.below h (Nat.le_refl _)) (P.chk_zero hc).1)
  generalize P.chk b = c at *
  have t1 : (c != 0) = true := by simpa using hc2
  have t2 : (c == c) = true := by simp
  clear hc ha hb he hc2
  generalize P.btw a f t = m at *
  go_enter Try.func3, Try.ntmps3
  go_wp2_with fail
  refine HM.out.mono ?_
  rintro e w1 ⟨rfl, hb⟩
  go_wp2_with fail
  refine (HR.out _ hb).mono ?_
  rintro e w2 ⟨v2, rfl, own2, hb2⟩
  replace hb := Below.next hb hb2
  clear hb2
  go_wp2_with fail
  refine (HF.out _ hb).mono ?_
  rintro e w3 ⟨rfl, hb2⟩
  replace own2 := own2.below hb2 (Nat.le_refl _)
  replace hb := Below.next hb hb2
  clear hb2
  go_wp2_with fail
  refine (HB.out _ hb).mono ?_
  rintro e w4 ⟨v4, rfl, own4, hb2⟩
  replace own2 := own2.below hb2 (Nat.le_refl _)
  replace hb := Below.next hb hb2
  clear hb2
  go_wp2_with fail
  refine (sameSamples_any _ _ m m _ own2.row own4.row).mono ?_
  rw [sameS_self]
  rintro e w5 ⟨rfl, hb2⟩
  replace hb := Below.next hb hb2
  clear hb2
  go_wp2_with fail
  refine (HF2.out _ hb).mono ?_
  rintro e w6 ⟨rfl, hb2⟩
  replace hb := Below.next hb hb2
  clear hb2
  go_wp2
  go_ret
  exact ⟨rfl, hb⟩
set_option maxHeartbeats 1000000 in
theorem merges_3 (va vb : Value) (a b : List (Int × Int)) (f t : Int) (w : World) (ha : RowS w va a) (hb : RowS w vb b) (hc : P.chk a = 0) (hc2 : P.chk b = 0) :
    Calls Try.prog 3 #[va, vb, .int .i64 f, .int .i64 t] w fun e w' => e = .returned (.bool true) ∧ Below w.heap.size w w' := by
  have HR := hide (fun (w' : World) (h : Below w.heap.size w w') => range_ok va a f t w' (ha.below h (Nat.le_refl _)) hc)
  have HF := hide (fun (w' : World) (h : Below w.heap.size w w') => samplesFault_any va a w' (ha.below h (Nat.le_refl _)))
  rw [hc] at HF
  have HF2 := hide (fun (w' : World) (h : Below w.heap.size w w') => samplesFault_any vb b w' (hb.below h (Nat.le_refl _)))
  rw [hc2] at HF2
  have HB := hide (fun (w' : World) (h : Below w.heap.size w w') => between_any va a f t w' (ha.below h (Nat.le_refl _)) (P.chk_zero hc).1)
  have HG := hide (fun (w' : World) (h : Below w.heap.size w w') => merged_any va vb a b w' (ha.below h (Nat.le_refl _)) (hb.below h (Nat.le_refl _)) (P.chk_zero hc).2 (P.chk_zero hc2).2 (P.chk_zero hc).1 (P.chk_zero hc2).1)
  generalize P.btw a f t = m at *
  by_cases hl : (P.mrg a b).length ≤ 1000
  · have HM := hide (merge_ok va vb a b w ha hb (P.merr_ok hc hc2 hl))
    have t3 : decide ((1000 : Int) < ((P.mrg a b).length : Int)) = false := by rw [decide_eq_false_iff_not]; omega
    clear hc ha hb hc2
    generalize P.mrg a b = g at *
    go_enter Try.func3, Try.ntmps3
    go_wp2_with fail
    refine HM.out.mono ?_
    rintro e w1 ⟨v1, rfl, own1, hb⟩
    go_wp2_with fail
    refine (HR.out _ hb).mono ?_
    rintro e w2 ⟨v2, rfl, own2, hb2⟩
    replace own1 := own1.below hb2 (Nat.le_refl _)
    replace hb := Below.next hb hb2
    clear hb2
    go_wp2_with fail
    refine (HF.out _ hb).mono ?_
    rintro e w3 ⟨rfl, hb2⟩
    replace own1 := own1.below hb2 (Nat.le_refl _)
    replace own2 := own2.below hb2 (Nat.le_refl _)
    replace hb := Below.next hb hb2
    clear hb2
    go_wp2_with fail
    refine (HB.out _ hb).mono ?_
    rintro e w4 ⟨v4, rfl, own4, hb2⟩
    replace own1 := own1.below hb2 (Nat.le_refl _)
    replace own2 := own2.below hb2 (Nat.le_refl _)
    replace hb := Below.next hb hb2
    clear hb2
    go_wp2_with fail
    refine (sameSamples_any _ _ m m _ own2.row own4.row).mono ?_
    rw [sameS_self]
    rintro e w5 ⟨rfl, hb2⟩
    replace own1 := own1.below hb2 (Nat.le_refl _)
    replace hb := Below.next hb hb2
    clear hb2 own2 own4
    go_wp2_with fail
    refine (HF2.out _ hb).mono ?_
    rintro e w6 ⟨rfl, hb2⟩
    replace own1 := own1.below hb2 (Nat.le_refl _)
    replace hb := Below.next hb hb2
    clear hb2
    go_wp2_with fail
    refine (HG.out _ hb).mono ?_
    rintro e w7 ⟨v7, rfl, own7, hb2⟩
    replace own1 := own1.below hb2 (Nat.le_refl _)
    replace hb := Below.next hb hb2
    obtain ⟨x7, c7, hv7⟩ := own7.shp
    rw [hv7] at own7 ⊢
    clear hb2 hv7
    have HQ := hide (sameSamples_any _ _ g g _ own1.row own7.row)
    rw [sameS_self] at HQ
    go_wp2_with (go_at_call 8; go_must (refine HQ.out.mono ?_); rintro e w8 ⟨rfl, hb8⟩)
    go_ret
    exact ⟨rfl, Below.next hb hb8⟩
  · have he : P.merr a b = 2 := P.merr_3 hc hc2 (by omega)
    have HM := hide (merge_bad va vb a b w ha hb (by rw [he]; decide))
    rw [he] at HM
    have t3 : decide ((1000 : Int) < ((P.mrg a b).length : Int)) = true := by rw [decide_eq_true_eq]; omega
    clear hc ha hb hc2 he
    generalize P.mrg a b = g at *
    go_enter Try.func3, Try.ntmps3
    go_wp2_with fail
    refine HM.out.mono ?_
    rintro e w1 ⟨rfl, hb⟩
    go_wp2_with fail
    refine (HR.out _ hb).mono ?_
    rintro e w2 ⟨v2, rfl, own2, hb2⟩
    replace hb := Below.next hb hb2
    clear hb2
    go_wp2_with fail
    refine (HF.out _ hb).mono ?_
    rintro e w3 ⟨rfl, hb2⟩
    replace own2 := own2.below hb2 (Nat.le_refl _)
    replace hb := Below.next hb hb2
    clear hb2
    go_wp2_with fail
    refine (HB.out _ hb).mono ?_
    rintro e w4 ⟨v4, rfl, own4, hb2⟩
    replace own2 := own2.below hb2 (Nat.le_refl _)
    replace hb := Below.next hb hb2
    clear hb2
    go_wp2_with fail
    refine (sameSamples_any _ _ m m _ own2.row own4.row).mono ?_
    rw [sameS_self]
    rintro e w5 ⟨rfl, hb2⟩
    replace hb := Below.next hb hb2
    clear hb2 own2 own4
    go_wp2_with fail
    refine (HF2.out _ hb).mono ?_
    rintro e w6 ⟨rfl, hb2⟩
    replace hb := Below.next hb hb2
    clear hb2
    go_wp2_with fail
    refine (HG.out _ hb).mono ?_
    rintro e w7 ⟨v7, rfl, own7, hb2⟩
    replace hb := Below.next hb hb2
    obtain ⟨x7, c7, hv7⟩ := own7.shp
    rw [hv7] at own7 ⊢
    clear hb2 hv7
    go_wp2
    go_ret
    exact ⟨rfl, hb⟩
theorem walk_ChunkMerges (va : Value) (a : List (Int × Int)) (vb : Value) (b : List (Int × Int)) (f t : Int) (w : World) (ha : RowS w va a) (hia : P.I64s a) (hla : a.length * 16 ≤ 140737488351232) (hb : RowS w vb b) (hib : P.I64s b) (hlb : b.length * 16 ≤ 140737488351232) (_ : -9223372036854775808 ≤ f) (_ : f ≤ 9223372036854775807) (_ : -9223372036854775808 ≤ t) (_ : t ≤ 9223372036854775807) :
    Calls Try.prog 3 #[va, vb, .int .i64 f, .int .i64 t] w fun e w' => e = .returned (.bool true) ∧ Below w.heap.size w w' := by
  by_cases hc : P.chk a = 0
  · by_cases hc2 : P.chk b = 0
    · exact merges_3 va vb a b f t w ha hb hc hc2
    · exact merges_2 va vb a b f t w ha hb hc hc2
  · exact merges_1 va vb a b f t w ha hb hc

set_option maxRecDepth 100000 in
theorem lifted_ChunkMerges (os : Os) (started : os.Started) (H : Type) (enc : TypeId × Value → H) :
    ReturnsInHanded {} Try.checked os 3 .any (Rows.chunkMergesSpec.pre6 enc Try.prog Try.f3 Rows.chunkMergesRow.domain false) (Rows.chunkMergesSpec.post enc Try.prog Try.f3 false true false false) := by
  refine returnsInHanded_of_change_sized (C := Try.checked) own started (by kernel_rfl) Try.func3
    (ChangeSpec.witness6 (enc := enc) (C := Try.checked) false ⟨#[], #[.slice none 0 0, .slice none 0 0, .int .i64 0, .int .i64 0], []⟩ 8 (by kernel_rfl) (by kernel_rfl) (by kernel_rfl) (by kernel_rfl)) ?_
  intro W base args ds gs before hval0 hW hcnd hsz0 _
  have hsz : (DataW.weightsEach Try.prog (Try.f3.params.toList ++ Rows.chunkMergesSpec.plain.varTypes Try.prog) (ds ++ gs)).all (· ≤ reachBytes) = true := hsz0
  have hval : ∀ (j : Nat) t v, Try.f3.params[j]? = some t → args[j]? = some v → Value.okWide Try.prog W .any base t v := hval0
  have hW' := hW
  obtain ⟨p, q, hA0, hV, rfl, hfz, hnd⟩ := hW
  have hA : DataW.TrodAll enc Try.prog W 0 (fun _ => true) true Try.f3.params.toList args.toList ds p := hA0
  rw [Try.params3] at hA hval hsz
  obtain ⟨v0, vs0, d0, ds0, p0, q0, hargs, rfl, rfl, h0, r0⟩ := trodAll_cons hA
  obtain ⟨v1, vs1, d1, ds1, p1, q1, rfl, rfl, rfl, h1, r1⟩ := trodAll_cons r0
  obtain ⟨v2, vs2, d2, ds2, p2, q2, rfl, rfl, rfl, h2, r2⟩ := trodAll_cons r1
  obtain ⟨v3, vs3, d3, ds3, p3, q3, rfl, rfl, rfl, h3, r3⟩ := trodAll_cons r2
  obtain ⟨rfl, rfl, rfl⟩ := trodAll_nil r3
  obtain rfl : args = #[v0, v1, v2, v3] := by cases args; simp_all
  obtain ⟨rfl, rfl⟩ := trodVars_none hV
  have k0 := h0
  have lt0 : ∀ x ∈ p0, x.block < W.heap.size := by obtain ⟨m, hm⟩ := k0; exact DataW.trod_lt m _ _ _ hm
  obtain ⟨s0, len0, cap0, rfl⟩ := okWide_slice Try.underlying22 (hval 0 22 v0 rfl rfl)
  obtain ⟨l0, row0, wf0, sh0⟩ := open_samples h0
  have rc0 := row_reachN hsz (j := 0) (t := 22) rfl rfl Try.underlying22 sh0
  rw [bytes37] at rc0
  have k1 := h1
  have lt1 : ∀ x ∈ p1, x.block < W.heap.size := by obtain ⟨m, hm⟩ := k1; exact DataW.trod_lt m _ _ _ hm
  obtain ⟨s1, len1, cap1, rfl⟩ := okWide_slice Try.underlying22 (hval 1 22 v1 rfl rfl)
  obtain ⟨l1, row1, wf1, sh1⟩ := open_samples h1
  have rc1 := row_reachN hsz (j := 1) (t := 22) rfl rfl Try.underlying22 sh1
  rw [bytes37] at rc1
  have k2 := h2
  have lt2 : ∀ x ∈ p2, x.block < W.heap.size := by obtain ⟨m, hm⟩ := k2; exact DataW.trod_lt m _ _ _ hm
  obtain ⟨a2, rfl, rfl, rfl, w2⟩ := open_int Try.underlying2 (hval 2 2 v2 rfl rfl) h2
  have b2 := bounds_i64 w2
  have k3 := h3
  have lt3 : ∀ x ∈ p3, x.block < W.heap.size := by obtain ⟨m, hm⟩ := k3; exact DataW.trod_lt m _ _ _ hm
  obtain ⟨a3, rfl, rfl, rfl, w3⟩ := open_int Try.underlying2 (hval 3 2 v3 rfl rfl) h3
  have b3 := bounds_i64 w3
  clear hA0 hval0
  refine (walk_ChunkMerges (.slice s0 len0 cap0) l0 (.slice s1 len1 cap1) l1 a2 a3 W row0 wf0 rc0 row1 wf1 rc1 b2.1 b2.2 b3.1 b3.2).mono fun e W' ⟨he, bel⟩ => ?_
  subst he
  exact ⟨_, rfl, _, _, _, [], _, [], hW', trodAll_mk1 (shut_bool Try.underlying4 _), (trodAll_cons_mk (Below.trod laidOut (by kernel_rfl) (of_decide_eq_true (by kernel_rfl)) k0 bel lt0) (trodAll_cons_mk (Below.trod laidOut (by kernel_rfl) (of_decide_eq_true (by kernel_rfl)) k1 bel lt1) (trodAll_cons_mk (Below.trod laidOut (by kernel_rfl) (of_decide_eq_true (by kernel_rfl)) k2 bel lt2) (trodAll_cons_mk (Below.trod laidOut (by kernel_rfl) (of_decide_eq_true (by kernel_rfl)) k3 bel lt3) trodAll_mk0)))), rfl, bel.frame _, fun h => by cases h⟩

theorem proved_ChunkMerges : Rows.ChunkMergesSaid :=
  OpenClaim.holds_of_wide 3 Try.f3 rfl rfl rfl rfl rfl rfl rfl ⟨rfl, rfl, rfl, rfl, rfl⟩ rfl rfl rfl rfl rfl (by kernel_rfl) Try.func3 (by kernel_rfl)
    (of_decide_eq_true (by kernel_rfl)) (by unfold Func.isWrapper; first | (rw [if_pos (by decide +kernel)]; kernel_rfl) | (rw [if_neg (by decide +kernel)]; exact ⟨rfl, rfl⟩))
    (fun os started H enc _ => lifted_ChunkMerges os started H enc)
#print axioms proved_ChunkMerges
end Go.Proofs.Ytfjbdgkdkbcnhaa
