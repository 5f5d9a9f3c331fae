/- ChunkLattice holds: at all samples the law answers true and changes nothing that was there. -/
import Derived.Test.YtfjbdgkdkbcnhaaClive
import Derived.Test.YtfjbdgkdkbcnhaaChunkM
import Derived.Test.YtfjbdgkdkbcnhaaEqS
import Derived.Test.YtfjbdgkdkbcnhaaGoodAny
namespace Go.Proofs.Ytfjbdgkdkbcnhaa
open Go.ChangeShapes Go.WideShapes Go.ChangeAt Go.RowKit
set_option linter.unusedVariables false
namespace P
/-- The samples that Merge answers. -/
def mans (a b : List (Int × Int)) : List (Int × Int) := if merr a b = 0 then mrg a b else []
theorem mans_ok {a b : List (Int × Int)} (h : merr a b = 0) : mans a b = mrg a b := if_pos h
theorem merr_comm {a b : List (Int × Int)} (h : merr a b = 0) : merr b a = 0 := by
  obtain ⟨h1, h2, h3⟩ := merr_zero h
  exact merr_ok h2 h1 (by rw [mrg_comm (chk_zero h2).2 (chk_zero h1).2]; exact h3)
theorem merr_again {a b : List (Int × Int)} (h : merr a b = 0) : merr (mrg a b) b = 0 := by
  obtain ⟨h1, h2, h3⟩ := merr_zero h
  exact merr_ok (mrg_chk h) h2 (by rw [mrg_again (chk_zero h1).2 (chk_zero h2).2]; exact h3)
end P
theorem merge_any (va vb : Value) (a b : List (Int × Int)) (w : World) (ha : RowS w va a) (hb : RowS w vb b) :
    Calls Try.prog 5 #[va, vb] w fun e w' => ∃ x c, e = .returned (.tuple #[.slice x (P.mans a b).length c, .int .i64 (P.merr a b)]) ∧ OwnS w' w.heap.size (.slice x (P.mans a b).length c) (P.mans a b) ∧ Below w.heap.size w w' := by
  by_cases h : P.merr a b = 0
  · refine (merge_ok va vb a b w ha hb h).mono ?_
    rintro e w' ⟨v', rfl, hown, hb⟩
    rw [P.mans_ok h, h]
    obtain ⟨x, c, rfl⟩ := hown.shp
    exact ⟨x, c, rfl, hown, hb⟩
  · refine (merge_bad va vb a b w ha hb h).mono ?_
    rintro e w' ⟨rfl, hb⟩
    rw [show P.mans a b = [] from if_neg h]
    exact ⟨none, 0, rfl, OwnS.nil _ _, hb⟩
theorem lattice_bad (va vb vc : Value) (a b c : List (Int × Int)) (w : World) (ha : RowS w va a) (hb : RowS w vb b) (hc : RowS w vc c) (he : P.merr a b ≠ 0) :
    Calls Try.prog 4 #[va, vb, vc] w fun e w' => e = .returned (.bool true) ∧ Below w.heap.size w w' := by
  have HM1 := hide (fun (w' : World) (h : Below w.heap.size w w') => merge_bad va vb a b w' (ha.below h (Nat.le_refl _)) (hb.below h (Nat.le_refl _)) he)
  have HM2 := hide (fun (w' : World) (h : Below w.heap.size w w') => merge_bad vb va b a w' (hb.below h (Nat.le_refl _)) (ha.below h (Nat.le_refl _)) (fun h => he (P.merr_comm h)))
  have he2 : P.merr b a ≠ 0 := fun h => he (P.merr_comm h)
  obtain ⟨xa, ca, rfl⟩ := ha.shp
  obtain ⟨xb, cb, rfl⟩ := hb.shp
  obtain ⟨xc, cc, rfl⟩ := hc.shp
  clear ha hb hc
  generalize P.merr a b = e1 at *
  generalize P.merr b a = e2 at *
  have t1 : (e1 != 0) = true := by simpa using he
  have t2 : (e1 == 0) = false := by simpa using he
  have t3 : (e2 == 0) = false := by simpa using he2
  clear he he2
  go_enter Try.func4, Try.ntmps4
  go_wp2_with (go_at_call 11; go_must (refine (chunks_any _).mono ?_); rintro e w1 ⟨rfl, hb⟩)
  refine (HM1.out _ hb).mono ?_
  rintro e w2 ⟨rfl, hb2⟩
  replace hb := Below.next hb hb2
  clear hb2
  go_wp2_with fail
  refine (HM2.out _ hb).mono ?_
  rintro e w2 ⟨rfl, hb2⟩
  replace hb := Below.next hb hb2
  clear hb2
  go_wp2
  go_ret
  exact ⟨rfl, hb⟩
set_option maxHeartbeats 2000000 in
theorem lattice_ok (va vb vc : Value) (a b c : List (Int × Int)) (w : World) (ha : RowS w va a) (hb : RowS w vb b) (hc : RowS w vc c) (he : P.merr a b = 0) :
    Calls Try.prog 4 #[va, vb, vc] w fun e w' => e = .returned (.bool true) ∧ Below w.heap.size w w' := by
  have hra := (P.chk_zero (P.merr_zero he).1).2
  have hrb := (P.chk_zero (P.merr_zero he).2.1).2
  have HRA := hide (fun (w' : World) (h : Below w.heap.size w w') => ha.below h (Nat.le_refl _))
  have HRB := hide (fun (w' : World) (h : Below w.heap.size w w') => hb.below h (Nat.le_refl _))
  have HRC := hide (fun (w' : World) (h : Below w.heap.size w w') => hc.below h (Nat.le_refl _))
  have HM1 := hide (fun (w' : World) (h : Below w.heap.size w w') => merge_ok va vb a b w' (HRA.out _ h) (HRB.out _ h) he)
  have HM2 := hide (fun (w' : World) (h : Below w.heap.size w w') => merge_ok vb va b a w' (HRB.out _ h) (HRA.out _ h) (P.merr_comm he))
  rw [P.mrg_comm hrb hra] at HM2
  have HM3 := hide (fun (v : Value) (w' : World) (hr : RowS w' v (P.mrg a b)) (h : Below w.heap.size w w') => merge_ok v vb (P.mrg a b) b w' hr (HRB.out _ h) (P.merr_again he))
  rw [P.mrg_again hra hrb] at HM3
  have HM4 := hide (fun (w' : World) (h : Below w.heap.size w w') => merge_any vb vc b c w' (HRB.out _ h) (HRC.out _ h))
  have HM5 := hide (fun (v : Value) (w' : World) (hr : RowS w' v (P.mrg a b)) (h : Below w.heap.size w w') => merge_any v vc (P.mrg a b) c w' hr (HRC.out _ h))
  have HM6 := hide (fun (v : Value) (l : List (Int × Int)) (w' : World) (hr : RowS w' v l) (h : Below w.heap.size w w') => merge_any va v a l w' (HRA.out _ h) hr)
  have HEnd : Hid (∀ l, l = P.mans b c → P.merr b c = 0 → P.merr (P.mrg a b) c = 0 → P.merr a l = 0 → P.mans (P.mrg a b) c = P.mans a l) := by
    intro l hl h1 h2 h3
    have hrc := (P.chk_zero (P.merr_zero h1).2.1).2
    rw [P.mans_ok h2, P.mans_ok h3, hl, P.mans_ok h1, P.mrg_assoc hra hrb hrc]
  obtain ⟨xa, ca, hva⟩ := ha.shp
  obtain ⟨xb, cb, hvb⟩ := hb.shp
  obtain ⟨xc, cc, hvc⟩ := hc.shp
  rw [hva] at HM1 HM2 HM6
  rw [hvb] at HM1 HM2 HM3 HM4
  rw [hvc] at HM4 HM5
  rw [hva, hvb, hvc]
  clear ha hb hc he hra hrb HRA HRB HRC hva hvb hvc
  have HEnd2 := hide (HEnd.out _ rfl)
  obtain ⟨l, hl⟩ : ∃ l, l = P.mans b c := ⟨_, rfl⟩
  rw [← hl] at HEnd2 HM4
  have HM6' := hide (fun (v : Value) => HM6.out v l)
  clear HEnd hl HM6
  generalize P.mrg a b = ab at *
  generalize P.mans ab c = x at *
  generalize P.mans a l = y at *
  generalize P.merr b c = e1 at *
  generalize P.merr ab c = e2 at *
  generalize P.merr a l = e3 at *
  go_enter Try.func4, Try.ntmps4
  go_wp2_with (go_at_call 11; go_must (refine (chunks_any _).mono ?_); rintro e w1 ⟨rfl, hb⟩)
  refine (HM1.out _ hb).mono ?_
  rintro e w2 ⟨v1, rfl, own1, hb2⟩
  obtain ⟨x1, c1, rfl⟩ := own1.shp
  replace hb := Below.next hb hb2
  clear hb2 HM1
  go_wp2_with fail
  refine (HM2.out _ hb).mono ?_
  rintro e w3 ⟨v2, rfl, own2, hb2⟩
  obtain ⟨x2, c2, rfl⟩ := own2.shp
  replace own1 := own1.below hb2 (Nat.le_refl _)
  replace hb := Below.next hb hb2
  clear hb2 HM2
  go_wp2_with fail
  refine (HM3.out _ _ own1.row hb).mono ?_
  rintro e w4 ⟨v3, rfl, own3, hb2⟩
  obtain ⟨x3, c3, rfl⟩ := own3.shp
  replace own1 := own1.below hb2 (Nat.le_refl _)
  replace own2 := own2.below hb2 (Nat.le_refl _)
  replace hb := Below.next hb hb2
  clear hb2 HM3
  go_wp2_with fail
  refine (same_any _ _ ab ab _ own1.row own2.row).mono ?_
  rw [sameS_self]
  rintro e w5 ⟨rfl, hb2⟩
  replace own1 := own1.below hb2 (Nat.le_refl _)
  replace own3 := own3.below hb2 (Nat.le_refl _)
  replace hb := Below.next hb hb2
  clear hb2 own2
  go_wp2_with fail
  refine (same_any _ _ ab ab _ own3.row own1.row).mono ?_
  rw [sameS_self]
  rintro e w6 ⟨rfl, hb2⟩
  replace own1 := own1.below hb2 (Nat.le_refl _)
  replace hb := Below.next hb hb2
  clear hb2 own3
  go_wp2_with fail
  refine (HM4.out _ hb).mono ?_
  rintro e w7 ⟨x4, c4, rfl, own4, hb2⟩
  replace own1 := own1.below hb2 (Nat.le_refl _)
  replace hb := Below.next hb hb2
  clear hb2 HM4
  go_wp2_with fail
  refine (HM5.out _ _ own1.row hb).mono ?_
  rintro e w8 ⟨x5, c5, rfl, own5, hb2⟩
  replace own4 := own4.below hb2 (Nat.le_refl _)
  replace hb := Below.next hb hb2
  clear hb2 HM5 own1
  go_wp2_with fail
  refine (HM6'.out _ _ own4.row hb).mono ?_
  rintro e w9 ⟨x6, c6, rfl, own6, hb2⟩
  replace own5 := own5.below hb2 (Nat.le_refl _)
  replace hb := Below.next hb hb2
  clear hb2 HM6' own4
  have HG := hide (good_any _ [e1, e2, e3] _ (row_three w9 e1 e2 e3 23))
  have own5' := own5.below ((Below.refl _ _).alloc (Nat.le_refl _) (.cells #[.int .i64 e1, .int .i64 e2, .int .i64 e3] 23)) (Nat.le_refl _)
  have own6' := own6.below ((Below.refl _ _).alloc (Nat.le_refl _) (.cells #[.int .i64 e1, .int .i64 e2, .int .i64 e3] 23)) (Nat.le_refl _)
  have hb' := below_alloc hb (.cells #[.int .i64 e1, .int .i64 e2, .int .i64 e3] 23)
  clear own5 own6 hb
  by_cases hz : allZ [e1, e2, e3] = true
  · obtain ⟨z1, z2, z3⟩ := allZ_three hz
    have hxy := HEnd2.out z1 z2 z3
    have HS := hide (same_any _ _ x y _ own5'.row own6'.row)
    rw [hxy, sameS_self] at HS
    rw [hz] at HG
    clear z1 z2 z3 hz HEnd2
    go_wp2_with (first
      | (go_at_call 13; go_must (refine HG.out.mono ?_); rintro e wA ⟨rfl, rfl⟩)
      | (go_at_call 12; go_must (refine HS.out.mono ?_); rintro e wB ⟨rfl, hbB⟩))
    go_ret
    exact ⟨rfl, Below.next hb' hbB⟩
  · rw [Bool.not_eq_true] at hz
    rw [hz] at HG
    clear hz HEnd2
    go_wp2_with (go_at_call 13; go_must (refine HG.out.mono ?_); rintro e wA ⟨rfl, rfl⟩)
    go_ret
    exact ⟨rfl, hb'⟩
theorem walk_ChunkLattice (va : Value) (a : List (Int × Int)) (vb : Value) (b : List (Int × Int)) (vc : Value) (c : List (Int × Int)) (w : World) (ha : RowS w va a) (hia : P.I64s a) (hla : a.length * 16 ≤ 140737488351232) (hb : RowS w vb b) (hib : P.I64s b) (hlb : b.length * 16 ≤ 140737488351232) (hc : RowS w vc c) (hic : P.I64s c) (hlc : c.length * 16 ≤ 140737488351232) :
    Calls Try.prog 4 #[va, vb, vc] w fun e w' => e = .returned (.bool true) ∧ Below w.heap.size w w' := by
  by_cases he : P.merr a b = 0
  · exact lattice_ok va vb vc a b c w ha hb hc he
  · exact lattice_bad va vb vc a b c w ha hb hc he

set_option maxRecDepth 100000 in
theorem lifted_ChunkLattice (os : Os) (started : os.Started) (H : Type) (enc : TypeId × Value → H) :
    ReturnsInHanded {} Try.checked os 4 .any (Rows.chunkLatticeSpec.pre6 enc Try.prog Try.f4 Rows.chunkLatticeRow.domain false) (Rows.chunkLatticeSpec.post enc Try.prog Try.f4 false true false false) := by
  refine returnsInHanded_of_change_sized (C := Try.checked) own started (by kernel_rfl) Try.func4
    (ChangeSpec.witness6 (enc := enc) (C := Try.checked) false ⟨#[], #[.slice none 0 0, .slice none 0 0, .slice none 0 0], []⟩ 8 (by kernel_rfl) (by kernel_rfl) (by kernel_rfl) (by kernel_rfl)) ?_
  intro W base args ds gs before hval0 hW hcnd hsz0 _
  have hsz : (DataW.weightsEach Try.prog (Try.f4.params.toList ++ Rows.chunkLatticeSpec.plain.varTypes Try.prog) (ds ++ gs)).all (· ≤ reachBytes) = true := hsz0
  have hval : ∀ (j : Nat) t v, Try.f4.params[j]? = some t → args[j]? = some v → Value.okWide Try.prog W .any base t v := hval0
  have hW' := hW
  obtain ⟨p, q, hA0, hV, rfl, hfz, hnd⟩ := hW
  have hA : DataW.TrodAll enc Try.prog W 0 (fun _ => true) true Try.f4.params.toList args.toList ds p := hA0
  rw [Try.params4] at hA hval hsz
  obtain ⟨v0, vs0, d0, ds0, p0, q0, hargs, rfl, rfl, h0, r0⟩ := trodAll_cons hA
  obtain ⟨v1, vs1, d1, ds1, p1, q1, rfl, rfl, rfl, h1, r1⟩ := trodAll_cons r0
  obtain ⟨v2, vs2, d2, ds2, p2, q2, rfl, rfl, rfl, h2, r2⟩ := trodAll_cons r1
  obtain ⟨rfl, rfl, rfl⟩ := trodAll_nil r2
  obtain rfl : args = #[v0, v1, v2] := by cases args; simp_all
  obtain ⟨rfl, rfl⟩ := trodVars_none hV
  have k0 := h0
  have lt0 : ∀ x ∈ p0, x.block < W.heap.size := by obtain ⟨m, hm⟩ := k0; exact DataW.trod_lt m _ _ _ hm
  obtain ⟨s0, len0, cap0, rfl⟩ := okWide_slice Try.underlying22 (hval 0 22 v0 rfl rfl)
  obtain ⟨l0, row0, wf0, sh0⟩ := open_samples h0
  have rc0 := row_reachN hsz (j := 0) (t := 22) rfl rfl Try.underlying22 sh0
  rw [bytes37] at rc0
  have k1 := h1
  have lt1 : ∀ x ∈ p1, x.block < W.heap.size := by obtain ⟨m, hm⟩ := k1; exact DataW.trod_lt m _ _ _ hm
  obtain ⟨s1, len1, cap1, rfl⟩ := okWide_slice Try.underlying22 (hval 1 22 v1 rfl rfl)
  obtain ⟨l1, row1, wf1, sh1⟩ := open_samples h1
  have rc1 := row_reachN hsz (j := 1) (t := 22) rfl rfl Try.underlying22 sh1
  rw [bytes37] at rc1
  have k2 := h2
  have lt2 : ∀ x ∈ p2, x.block < W.heap.size := by obtain ⟨m, hm⟩ := k2; exact DataW.trod_lt m _ _ _ hm
  obtain ⟨s2, len2, cap2, rfl⟩ := okWide_slice Try.underlying22 (hval 2 22 v2 rfl rfl)
  obtain ⟨l2, row2, wf2, sh2⟩ := open_samples h2
  have rc2 := row_reachN hsz (j := 2) (t := 22) rfl rfl Try.underlying22 sh2
  rw [bytes37] at rc2
  clear hA0 hval0
  refine (walk_ChunkLattice (.slice s0 len0 cap0) l0 (.slice s1 len1 cap1) l1 (.slice s2 len2 cap2) l2 W row0 wf0 rc0 row1 wf1 rc1 row2 wf2 rc2).mono fun e W' ⟨he, bel⟩ => ?_
  subst he
  exact ⟨_, rfl, _, _, _, [], _, [], hW', trodAll_mk1 (shut_bool Try.underlying4 _), (trodAll_cons_mk (Below.trod laidOut (by kernel_rfl) (of_decide_eq_true (by kernel_rfl)) k0 bel lt0) (trodAll_cons_mk (Below.trod laidOut (by kernel_rfl) (of_decide_eq_true (by kernel_rfl)) k1 bel lt1) (trodAll_cons_mk (Below.trod laidOut (by kernel_rfl) (of_decide_eq_true (by kernel_rfl)) k2 bel lt2) trodAll_mk0))), rfl, bel.frame _, fun h => by cases h⟩

theorem proved_ChunkLattice : Rows.ChunkLatticeSaid :=
  OpenClaim.holds_of_wide 4 Try.f4 rfl rfl rfl rfl rfl rfl rfl ⟨rfl, rfl, rfl, rfl, rfl⟩ rfl rfl rfl rfl rfl (by kernel_rfl) Try.func4 (by kernel_rfl)
    (of_decide_eq_true (by kernel_rfl)) (by unfold Func.isWrapper; first | (rw [if_pos (by decide +kernel)]; kernel_rfl) | (rw [if_neg (by decide +kernel)]; exact ⟨rfl, rfl⟩))
    (fun os started H enc _ => lifted_ChunkLattice os started H enc)
#print axioms proved_ChunkLattice
end Go.Proofs.Ytfjbdgkdkbcnhaa
