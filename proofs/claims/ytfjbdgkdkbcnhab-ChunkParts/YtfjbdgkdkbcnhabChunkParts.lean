/- ChunkParts holds: at all samples and times the law answers true and changes nothing that was there. -/
import Derived.Test.YtfjbdgkdkbcnhabClive
import Derived.Test.YtfjbdgkdkbcnhabEqS
import Derived.Test.YtfjbdgkdkbcnhabGood
namespace Go.Proofs.Ytfjbdgkdkbcnhab
open Go.ChangeShapes Go.WideShapes Go.ChangeAt Go.RowKit
set_option linter.unusedVariables false
theorem parts_bad (v : Value) (l : List (Int × Int)) (a b c : Int) (w : World) (hr : RowS w v l) (hc : P.chk l ≠ 0) :
    Calls Try.prog 4 #[v, .int .i64 a, .int .i64 b, .int .i64 c] w fun e w' => e = .returned (.bool true) ∧ Below w.heap.size w w' := by
  have HR := hide (fun (f t : Int) (w' : World) (hb : Below w.heap.size w w') => range_bad v l f t w' (hr.below hb (Nat.le_refl _)) hc)
  obtain ⟨x, cap, rfl, ⟨hlc, hmax, hnn⟩, hcase⟩ := hr
  clear hcase hnn
  generalize P.chk l = e0 at *
  have ht : (e0 != 0) = true := by simpa using hc
  have ht2 : (e0 == 0) = false := by simpa using hc
  have ht3 : (e0 == e0) = true := by simp
  clear hc
  go_enter Try.func4, Try.ntmps4
  go_wp2_with (first
    | (go_at_call 5; go_must (refine (chunks_any _).mono ?_); rintro e w1 ⟨rfl, hb⟩)
    | (go_at_call 7; go_must (refine (HR.out _ _ _ hb).mono ?_); rintro e w2 ⟨rfl, hb2⟩; replace hb := Below.next hb hb2; clear hb2))
  go_ret
  exact ⟨rfl, hb⟩
theorem parts_order (v : Value) (l : List (Int × Int)) (a b c : Int) (w : World) (hr : RowS w v l) (hc : P.chk l = 0) (ho : ¬ (a ≤ b ∧ b ≤ c)) :
    Calls Try.prog 4 #[v, .int .i64 a, .int .i64 b, .int .i64 c] w fun e w' => e = .returned (.bool true) ∧ Below w.heap.size w w' := by
  have HR := hide (fun (f t : Int) (w' : World) (hb : Below w.heap.size w w') => (range_ok v l f t w' (hr.below hb (Nat.le_refl _)) hc).mono (show ∀ e w'', _ → (fun (e : Ending) (w'' : World) => ∃ a n cap, e = .returned (.tuple #[.slice a n cap, .int .i64 0]) ∧ Below w'.heap.size w' w'') e w'' by
    rintro e w2 ⟨v', rfl, hown, hb2⟩
    obtain ⟨a, cap, rfl⟩ := hown.shp
    exact ⟨_, _, _, rfl, hb2⟩))
  obtain ⟨x, cap, rfl, ⟨hlc, hmax, hnn⟩, hcase⟩ := hr
  clear hcase hnn hc
  by_cases hab : a ≤ b
  · have hbc : ¬ b ≤ c := fun h => ho ⟨hab, h⟩
    have d1 : decide (a > b) = false := by simp; omega
    have d2 : decide (b > c) = true := by simp; omega
    clear ho
    go_enter Try.func4, Try.ntmps4
    go_wp2_with (first
      | (go_at_call 5; go_must (refine (chunks_any _).mono ?_); rintro e w1 ⟨rfl, hb⟩)
      | (go_at_call 7; go_must (refine (HR.out _ _ _ hb).mono ?_); rintro e w2 ⟨_, _, _, rfl, hb2⟩; replace hb := Below.next hb hb2; clear hb2))
    go_ret
    exact ⟨rfl, hb⟩
  · have d1 : decide (a > b) = true := by simp; omega
    clear ho
    go_enter Try.func4, Try.ntmps4
    go_wp2_with (first
      | (go_at_call 5; go_must (refine (chunks_any _).mono ?_); rintro e w1 ⟨rfl, hb⟩)
      | (go_at_call 7; go_must (refine (HR.out _ _ _ hb).mono ?_); rintro e w2 ⟨_, _, _, rfl, hb2⟩; replace hb := Below.next hb hb2; clear hb2))
    go_ret
    exact ⟨rfl, hb⟩
set_option maxHeartbeats 1000000 in
theorem parts_ok (v : Value) (l : List (Int × Int)) (a b c : Int) (w : World) (hr : RowS w v l) (hc : P.chk l = 0) (hab : a ≤ b) (hbc : b ≤ c) :
    Calls Try.prog 4 #[v, .int .i64 a, .int .i64 b, .int .i64 c] w fun e w' => e = .returned (.bool true) ∧ Below w.heap.size w w' := by
  have HR := hide (fun (f t : Int) (w' : World) (hb : Below w.heap.size w w') => range_ok v l f t w' (hr.below hb (Nat.le_refl _)) hc)
  have hp := P.filter_parts (P.chk_zero hc).2 hab hbc
  have hx := P.btw_length l a b
  have hy := P.btw_length l b c
  have hz := P.btw_length l a c
  have hn := (P.chk_zero hc).1
  have HX := hide (fun w' hb => HR.out a b w' hb)
  have HY := hide (fun w' hb => HR.out b c w' hb)
  have HZ := hide (fun w' hb => HR.out a c w' hb)
  generalize P.btw l a b = X at *
  generalize P.btw l b c = Y at *
  generalize P.btw l a c = Z at *
  have HP := hide hp
  obtain ⟨x, cap, rfl, ⟨hlc, hmax, hnn⟩, hcase⟩ := hr
  clear hcase hnn hc hp HR
  have d1 : decide (a > b) = false := by simp; omega
  have d2 : decide (b > c) = false := by simp; omega
  go_enter Try.func4, Try.ntmps4
  go_wp2_with (go_at_call 5; go_must (refine (chunks_any _).mono ?_); rintro e w1 ⟨rfl, hb⟩)
  refine (HX.out _ hb).mono ?_
  rintro e w2 ⟨vx, rfl, ownx, hb2⟩
  replace ownx := ownx.base hb.size
  obtain ⟨ax, cx, hvx⟩ := ownx.shp
  rw [hvx] at ownx ⊢
  replace hb := Below.next hb hb2
  clear hvx hb2
  go_wp2_with fail
  refine (HY.out _ hb).mono ?_
  rintro e w3 ⟨vy, rfl, owny, hb3⟩
  replace owny := owny.base hb.size
  replace ownx := ownx.below hb3 (Nat.le_refl _)
  obtain ⟨ay, cy, hvy⟩ := owny.shp
  rw [hvy] at owny ⊢
  replace hb := Below.next hb hb3
  clear hvy hb3
  go_wp2_with fail
  refine (HZ.out _ hb).mono ?_
  rintro e w4 ⟨vz, rfl, ownz, hb4⟩
  have HLT := hide (fun k hk => (ownx.lt k hk).2)
  replace ownx := ownx.below hb4 (Nat.le_refl _)
  replace owny := owny.below hb4 (Nat.le_refl _)
  obtain ⟨az, cz, hvz⟩ := ownz.shp
  rw [hvz] at ownz ⊢
  replace hb := Below.next hb hb4
  clear hvz hb4 HX HY HZ
  go_wp2_with (first
    | (go_at_call 9; go_must (refine (good_zeros _ 2 _ (row_two_zeros _ _)).mono ?_); rintro e w6 ⟨rfl, rfl⟩; replace ownx := ownx.below ((Below.refl _ _).alloc (Nat.le_refl _) (.cells #[.int .i64 0, .int .i64 0] 24)) (Nat.le_refl _); replace owny := owny.below ((Below.refl _ _).alloc (Nat.le_refl _) (.cells #[.int .i64 0, .int .i64 0] 24)) (Nat.le_refl _); replace ownz := ownz.below ((Below.refl _ _).alloc (Nat.le_refl _) (.cells #[.int .i64 0, .int .i64 0] 24)) (Nat.le_refl _); replace hb := below_alloc hb (.cells #[.int .i64 0, .int .i64 0] 24))
    | (at_builtin; go_must (refine wp_appSg rfl _ _ rfl w.heap.size w.heap.size w _ _ _ X Y ownx owny.row hb (Nat.le_refl _) rfl rfl (by omega) hb.size ?_); intro v' w7 own' hb' _ hg')
    | (go_at_call 10; go_must (refine (same_any _ _ Z (X ++ Y) _ (ownz.grown hg' HLT.out).row own'.row).mono ?_); rw [HP.out, sameS_self]; rintro e w8 ⟨rfl, hb8⟩))
  go_ret
  exact ⟨rfl, Below.next hb' hb8⟩
theorem walk_ChunkParts (v : Value) (l : List (Int × Int)) (a b c : Int) (w : World) (hr : RowS w v l) (hi : P.I64s l) (hlen : l.length * 16 ≤ 140737488351232) (_ : -9223372036854775808 ≤ a) (_ : a ≤ 9223372036854775807) (_ : -9223372036854775808 ≤ b) (_ : b ≤ 9223372036854775807) (_ : -9223372036854775808 ≤ c) (_ : c ≤ 9223372036854775807) :
    Calls Try.prog 4 #[v, .int .i64 a, .int .i64 b, .int .i64 c] w fun e w' => e = .returned (.bool true) ∧ Below w.heap.size w w' := by
  by_cases hc : P.chk l = 0
  · by_cases ho : a ≤ b ∧ b ≤ c
    · exact parts_ok v l a b c w hr hc ho.1 ho.2
    · exact parts_order v l a b c w hr hc ho
  · exact parts_bad v l a b c w hr hc

set_option maxRecDepth 100000 in
theorem lifted_ChunkParts (os : Os) (started : os.Started) (H : Type) (enc : TypeId × Value → H) :
    ReturnsInHanded {} Try.checked os 4 .any (Rows.chunkPartsSpec.pre6 enc Try.prog Try.f4 Rows.chunkPartsRow.domain false) (Rows.chunkPartsSpec.post enc Try.prog Try.f4 false true false false) := by
  refine returnsInHanded_of_change_sized (C := Try.checked) own started (by kernel_rfl) Try.func4
    (ChangeSpec.witness6 (enc := enc) (C := Try.checked) false ⟨#[], #[.slice none 0 0, .int .i64 0, .int .i64 0, .int .i64 0], []⟩ 8 (by kernel_rfl) (by kernel_rfl) (by kernel_rfl) (by kernel_rfl)) ?_
  intro W base args ds gs before hval0 hW hcnd hsz0 _
  have hsz : (DataW.weightsEach Try.prog (Try.f4.params.toList ++ Rows.chunkPartsSpec.plain.varTypes Try.prog) (ds ++ gs)).all (· ≤ reachBytes) = true := hsz0
  have hval : ∀ (j : Nat) t v, Try.f4.params[j]? = some t → args[j]? = some v → Value.okWide Try.prog W .any base t v := hval0
  have hW' := hW
  obtain ⟨p, q, hA0, hV, rfl, hfz, hnd⟩ := hW
  have hA : DataW.TrodAll enc Try.prog W 0 (fun _ => true) true Try.f4.params.toList args.toList ds p := hA0
  rw [Try.params4] at hA hval hsz
  obtain ⟨v0, vs0, d0, ds0, p0, q0, hargs, rfl, rfl, h0, r0⟩ := trodAll_cons hA
  obtain ⟨v1, vs1, d1, ds1, p1, q1, rfl, rfl, rfl, h1, r1⟩ := trodAll_cons r0
  obtain ⟨v2, vs2, d2, ds2, p2, q2, rfl, rfl, rfl, h2, r2⟩ := trodAll_cons r1
  obtain ⟨v3, vs3, d3, ds3, p3, q3, rfl, rfl, rfl, h3, r3⟩ := trodAll_cons r2
  obtain ⟨rfl, rfl, rfl⟩ := trodAll_nil r3
  obtain rfl : args = #[v0, v1, v2, v3] := by cases args; simp_all
  obtain ⟨rfl, rfl⟩ := trodVars_none hV
  have k0 := h0
  have lt0 : ∀ x ∈ p0, x.block < W.heap.size := by obtain ⟨m, hm⟩ := k0; exact DataW.trod_lt m _ _ _ hm
  obtain ⟨s0, len0, cap0, rfl⟩ := okWide_slice Try.underlying22 (hval 0 22 v0 rfl rfl)
  obtain ⟨l0, row0, wf0, sh0⟩ := open_samples h0
  have rc0 := row_reachN hsz (j := 0) (t := 22) rfl rfl Try.underlying22 sh0
  rw [bytes29] at rc0
  have k1 := h1
  have lt1 : ∀ x ∈ p1, x.block < W.heap.size := by obtain ⟨m, hm⟩ := k1; exact DataW.trod_lt m _ _ _ hm
  obtain ⟨a1, rfl, rfl, rfl, w1⟩ := open_int Try.underlying2 (hval 1 2 v1 rfl rfl) h1
  have b1 := bounds_i64 w1
  have k2 := h2
  have lt2 : ∀ x ∈ p2, x.block < W.heap.size := by obtain ⟨m, hm⟩ := k2; exact DataW.trod_lt m _ _ _ hm
  obtain ⟨a2, rfl, rfl, rfl, w2⟩ := open_int Try.underlying2 (hval 2 2 v2 rfl rfl) h2
  have b2 := bounds_i64 w2
  have k3 := h3
  have lt3 : ∀ x ∈ p3, x.block < W.heap.size := by obtain ⟨m, hm⟩ := k3; exact DataW.trod_lt m _ _ _ hm
  obtain ⟨a3, rfl, rfl, rfl, w3⟩ := open_int Try.underlying2 (hval 3 2 v3 rfl rfl) h3
  have b3 := bounds_i64 w3
  clear hA0 hval0
  refine (walk_ChunkParts (.slice s0 len0 cap0) l0 a1 a2 a3 W row0 wf0 rc0 b1.1 b1.2 b2.1 b2.2 b3.1 b3.2).mono fun e W' ⟨he, bel⟩ => ?_
  subst he
  exact ⟨_, rfl, _, _, _, [], _, [], hW', trodAll_mk1 (shut_bool Try.underlying4 _), (trodAll_cons_mk (Below.trod laidOut (by kernel_rfl) (of_decide_eq_true (by kernel_rfl)) k0 bel lt0) (trodAll_cons_mk (Below.trod laidOut (by kernel_rfl) (of_decide_eq_true (by kernel_rfl)) k1 bel lt1) (trodAll_cons_mk (Below.trod laidOut (by kernel_rfl) (of_decide_eq_true (by kernel_rfl)) k2 bel lt2) (trodAll_cons_mk (Below.trod laidOut (by kernel_rfl) (of_decide_eq_true (by kernel_rfl)) k3 bel lt3) trodAll_mk0)))), rfl, bel.frame _, fun h => by cases h⟩

theorem proved_ChunkParts : Rows.ChunkPartsSaid :=
  OpenClaim.holds_of_wide 4 Try.f4 rfl rfl rfl rfl rfl rfl rfl ⟨rfl, rfl, rfl, rfl, rfl⟩ rfl rfl rfl rfl rfl (by kernel_rfl) Try.func4 (by kernel_rfl)
    (of_decide_eq_true (by kernel_rfl)) (by unfold Func.isWrapper; first | (rw [if_pos (by decide +kernel)]; kernel_rfl) | (rw [if_neg (by decide +kernel)]; exact ⟨rfl, rfl⟩))
    (fun os started H enc _ => lifted_ChunkParts os started H enc)
#print axioms proved_ChunkParts

end Go.Proofs.Ytfjbdgkdkbcnhab
