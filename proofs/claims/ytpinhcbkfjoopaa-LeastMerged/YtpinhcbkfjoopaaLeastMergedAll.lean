/- LeastMerged holds: at all inputs the law answers true and changes nothing that was there. -/
import Derived.Test.YtpinhcbkfjoopaaLeBAll
namespace Go.Proofs.Ytpinhcbkfjoopaa
open Go.ChangeShapes Go.WideShapes Go.ChangeAt Go.RowKit
set_option linter.unusedVariables false
set_option maxRecDepth 100000 in
set_option maxHeartbeats 4000000 in
theorem merged_bad (k : Int) (v1 v2 : Value) (L M : List (List Int)) (w : World) (hk : ¬ (2 ≤ k ∧ k ≤ 64)) (hr1 : RowsB w v1 L) (hr2 : RowsB w v2 M) (hn1 : L.length * 24 ≤ 140737488351232) (hn2 : M.length * 24 ≤ 140737488351232) :
    Calls Try.prog 5 #[.int .i64 k, v1, v2] w fun e w' => e = .returned (.bool true) ∧ Below w.heap.size w w' := by
  obtain ⟨vs, hrs1, hall1⟩ := hr1.parts
  obtain ⟨us, hrs2, hall2⟩ := hr2.parts
  have hvl := hall1.1
  have hul := hall2.1
  have HSv := hide (fun wx => sieves_any wx)
  have HS1 := hide (fun wx v2 M (h : RowsB wx v2 M) => sieved_bad k v2 M wx hk h)
  have HR1 := hide (fun wx (h : Below w.heap.size w wx) => hr1.below h (Nat.le_refl _))
  have HR2 := hide (fun wx (h : Below w.heap.size w wx) => hr2.below h (Nat.le_refl _))
  have HRS1 := hide (fun wx (h : Below w.heap.size w wx) => hrs1.below h (Nat.le_refl _))
  have HRS2 := hide (fun wx (h : Below w.heap.size w wx) => hrs2.below h (Nat.le_refl _))
  have HAll := hide (fun wx (h : Below w.heap.size w wx) => AllB.app (hall1.below h (Nat.le_refl _)) (hall2.below h (Nat.le_refl _)))
  have HCat := hide (fun wx b (hb : b < wx.heap.size) (hr : RowsS wx b [(v1, vs), (v2, us)]) => concatS_any b 2 2 [(v1, vs), (v2, us)] wx rfl (by decide) hb hr (by rw [catS_two]; simp; omega))
  have hkk : k < 2 ∨ 64 < k := by omega
  obtain ⟨aa, ac, rfl⟩ := hr1.shp
  obtain ⟨ba, bc, rfl⟩ := hr2.shp
  clear hr1 hr2 hrs1 hrs2 hall1 hall2 hk
  go_enter Try.func5, Try.ntmps5
  go_upto_region 3 with (go_at_call 18; go_must (refine (HSv.out _).mono ?_); rintro e w1 ⟨rfl, hb1⟩)
  have HB1 := hide hb1
  have H1 := hide (HS1.out w1 _ _ (HR1.out w1 hb1))
  clear hb1 HSv HR1
  go_upto_region 4 with (go_at_call 19; go_must (refine H1.out.mono ?_); rintro e w2 ⟨rfl, hb2⟩)
  have HB2 := hide ((Below.next HB1.out hb2).alloc (Below.next HB1.out hb2).size (.cells #[.int .i64 0, .slice none 0 0] 24))
  clear HB1 H1 hb2
  generalize w2.alloc (.cells #[.int .i64 0, .slice none 0 0] 24) = W2 at *
  have H2 := hide (HS1.out W2 _ _ (HR2.out W2 HB2.out))
  clear HR2
  go_upto_region 5 with (go_at_call 19; go_must (refine H2.out.mono ?_); rintro e w3 ⟨rfl, hb3⟩)
  have HB3 := hide ((Below.next HB2.out hb3).alloc (Below.next HB2.out hb3).size (.cells #[.int .i64 0, .slice none 0 0] 24))
  clear HB2 H2 hb3
  generalize w3.alloc (.cells #[.int .i64 0, .slice none 0 0] 24) = W3 at *
  have hrows := rows_twoS W3 (.slice aa L.length ac) (.slice ba M.length bc) vs us 40 (HRS1.out W3 HB3.out) (HRS2.out W3 HB3.out)
  have HB4 := hide (HB3.out.alloc HB3.out.size (.cells #[.slice aa L.length ac, .slice ba M.length bc] 40))
  have HC4 := hide (HCat.out _ W3.heap.size (by simp) hrows)
  clear HB3 hrows HCat HRS1 HRS2
  go_wp2_with fail
  refine HC4.out.mono ?_
  rintro e w5 ⟨v5, rfl, own5, hb5⟩
  have hcat := catS_two (.slice aa L.length ac) (.slice ba M.length bc) vs us
  rw [hcat] at own5
  have HB5 := hide (Below.next HB4.out hb5)
  have H5 := hide (HS1.out w5 v5 _ (RowsB.made own5.row (HAll.out w5 HB5.out)))
  clear HC4 hcat own5 hb5 HB4 HS1 HAll
  go_wp2_with fail
  refine H5.out.mono ?_
  rintro e w6 ⟨rfl, hb6⟩
  have HB7 := hide (Below.next HB5.out hb6)
  have HB8 := hide (HB7.out.alloc HB7.out.size (.cells #[.int .i64 0, .slice none 0 0] 24))
  clear H5 hb6 HB5 HB7
  by_cases h2 : k < 2
  · have hd : decide (k < 2) = true := by simpa using h2
    go_wp2
    go_ret
    exact ⟨rfl, HB8.out⟩
  · have hd : decide (k < 2) = false := by simpa using h2
    have hd2 : decide (64 < k) = true := by simp; omega
    go_wp2
    go_ret
    exact ⟨rfl, HB8.out⟩
set_option maxRecDepth 100000 in
set_option maxHeartbeats 8000000 in
theorem merged_good (k : Nat) (v1 v2 : Value) (L M : List (List Int)) (w : World) (hk1 : 2 ≤ k) (hk2 : k ≤ 64) (hr1 : RowsB w v1 L) (hr2 : RowsB w v2 M) (hbt1 : ∀ y ∈ L, Byt y) (hbt2 : ∀ y ∈ M, Byt y) (hn1 : L.length * 24 ≤ 140737488351232) (hn2 : M.length * 24 ≤ 140737488351232) :
    Calls Try.prog 5 #[.int .i64 k, v1, v2] w fun e w' => e = .returned (.bool true) ∧ Below w.heap.size w w' := by
  obtain ⟨vs, hrs1, hall1⟩ := hr1.parts
  obtain ⟨us, hrs2, hall2⟩ := hr2.parts
  have hvl := hall1.1
  have hul := hall2.1
  have HSv := hide (fun wx => sieves_any wx)
  have HS1 := hide (fun wx v2 M (h : RowsB wx v2 M) (h2 : ∀ y ∈ M, Byt y) => sieved_ok k v2 M wx hk1 hk2 h h2)
  have HR1 := hide (fun wx (h : Below w.heap.size w wx) => hr1.below h (Nat.le_refl _))
  have HR2 := hide (fun wx (h : Below w.heap.size w wx) => hr2.below h (Nat.le_refl _))
  have HRS1 := hide (fun wx (h : Below w.heap.size w wx) => hrs1.below h (Nat.le_refl _))
  have HRS2 := hide (fun wx (h : Below w.heap.size w wx) => hrs2.below h (Nat.le_refl _))
  have HAll := hide (fun wx (h : Below w.heap.size w wx) => AllB.app (hall1.below h (Nat.le_refl _)) (hall2.below h (Nat.le_refl _)))
  have HCat := hide (fun wx b (hb : b < wx.heap.size) (hr : RowsS wx b [(v1, vs), (v2, us)]) => concatS_any b 2 2 [(v1, vs), (v2, us)] wx rfl (by decide) hb hr (by rw [catS_two]; simp; omega))
  have HBt1 := hide hbt1
  have HBt2 := hide hbt2
  have HK := hide (And.intro hk1 hk2)
  obtain ⟨aa, ac, rfl⟩ := hr1.shp
  obtain ⟨ba, bc, rfl⟩ := hr2.shp
  clear hr1 hr2 hrs1 hrs2 hall1 hall2 hbt1 hbt2 hk1 hk2
  go_enter Try.func5, Try.ntmps5
  go_upto_region 3 with (go_at_call 18; go_must (refine (HSv.out _).mono ?_); rintro e w1 ⟨rfl, hb1⟩)
  have HB1 := hide hb1
  have H1 := hide (HS1.out w1 _ _ (HR1.out w1 hb1) HBt1.out)
  clear hb1 HSv HR1
  go_upto_region 4 with (go_at_call 19; go_must (refine H1.out.mono ?_); rintro e w2 ⟨va, R, rfl, ownA, botA, hb2⟩; obtain ⟨xa, xc, rfl⟩ := ownA.shape; have HBotA := hide botA; clear botA)
  have HB2 := hide ((Below.next HB1.out hb2).alloc (Below.next HB1.out hb2).size (.cells #[.int .i64 k, .slice xa R.length xc] 24))
  have HKa := hide (KL.new (k := (k : Int)) ownA)
  clear HB1 H1 hb2 ownA
  generalize w2.heap.size = ga at *
  generalize w2.alloc (.cells #[.int .i64 k, .slice xa R.length xc] 24) = W2 at *
  have H2 := hide (HS1.out W2 _ _ (HR2.out W2 HB2.out) HBt2.out)
  clear HR2
  go_upto_region 5 with (go_at_call 19; go_must (refine H2.out.mono ?_); rintro e w3 ⟨vb, S, rfl, ownB, botB, hb3⟩; obtain ⟨ya, yc, rfl⟩ := ownB.shape; have HBotB := hide botB; clear botB)
  have hbn := below_new w3 (.cells #[.int .i64 k, .slice ya S.length yc] 24)
  have HB3 := hide ((Below.next HB2.out hb3).alloc (Below.next HB2.out hb3).size (.cells #[.int .i64 k, .slice ya S.length yc] 24))
  have HKb := hide (KL.new (k := (k : Int)) ownB)
  have HKa3 := hide ((HKa.out.below hb3).below hbn)
  clear HB2 H2 hb3 ownB HKa hbn
  generalize w3.heap.size = gb at *
  generalize w3.alloc (.cells #[.int .i64 k, .slice ya S.length yc] 24) = W3 at *
  have hrows := rows_twoS W3 (.slice aa L.length ac) (.slice ba M.length bc) vs us 40 (HRS1.out W3 HB3.out) (HRS2.out W3 HB3.out)
  have hbn := below_new W3 (.cells #[.slice aa L.length ac, .slice ba M.length bc] 40)
  have HB4 := hide (HB3.out.alloc HB3.out.size (.cells #[.slice aa L.length ac, .slice ba M.length bc] 40))
  have HC4 := hide (HCat.out _ W3.heap.size (by simp) hrows)
  have HKa4 := hide (HKa3.out.below hbn)
  have HKb4 := hide (HKb.out.below hbn)
  clear HB3 hrows HCat HRS1 HRS2 HKa3 HKb hbn
  go_wp2_with fail
  refine HC4.out.mono ?_
  rintro e w5 ⟨v5, rfl, own5, hb5⟩
  have hcat := catS_two (.slice aa L.length ac) (.slice ba M.length bc) vs us
  rw [hcat] at own5
  have HB5 := hide (Below.next HB4.out hb5)
  have H5 := hide (HS1.out w5 v5 _ (RowsB.made own5.row (HAll.out w5 HB5.out)) (fun y hy => (List.mem_append.1 hy).elim (HBt1.out y) (HBt2.out y)))
  have HKa5 := hide (HKa4.out.below hb5)
  have HKb5 := hide (HKb4.out.below hb5)
  clear HC4 hcat own5 hb5 HB4 HS1 HAll HKa4 HKb4
  go_upto_region 6 with (go_at_call 19; go_must (refine H5.out.mono ?_); rintro e w6 ⟨vc, C, rfl, ownC, botC, hb6⟩; obtain ⟨za, zc, rfl⟩ := ownC.shape; have HBotC := hide botC; clear botC)
  have hRR : lstU k R S = C := (Bot_two HBotA.out HBotB.out).one (HBotC.out.iff fun x => by rw [hs_app])
  have HRR := hide hRR
  have hbn := below_new w6 (.cells #[.int .i64 k, .slice za C.length zc] 24)
  have HB8 := hide ((Below.next HB5.out hb6).alloc (Below.next HB5.out hb6).size (.cells #[.int .i64 k, .slice za C.length zc] 24))
  have HKc := hide (KL.new (k := (k : Int)) ownC)
  have HKa8 := hide ((HKa5.out.below hb6).below hbn)
  have HKb8 := hide ((HKb5.out.below hb6).below hbn)
  have HGa := hide (Bot_good HBotA.out HK.out.1 HK.out.2)
  have HGb := hide (Bot_good HBotB.out HK.out.1 HK.out.2)
  clear H5 hb6 HB5 HKa5 HKb5 ownC hbn HBotA HBotB HBotC hRR
  generalize w6.heap.size = gc at *
  generalize w6.alloc (.cells #[.int .i64 k, .slice za C.length zc] 24) = W8 at *
  obtain ⟨p0, p1⟩ := HKa8.out.box.cells
  obtain ⟨q0, q1⟩ := HKb8.out.box.cells
  have HMg := hide (Merge_ok _ _ k R S W8 HKa8.out.row HKb8.out.row HGa.out HGb.out)
  rw [HRR.out] at HMg
  simp only at p0 q0
  clear HRR HGa HGb HKa8 HKb8
  go_upto_region 9 with (go_at_call 10; go_must (refine HMg.out.mono ?_); rintro e w9 ⟨vx, rfl, ownX, hb9⟩; obtain ⟨ua, uc, rfl⟩ := ownX.shape)
  have hbn := below_new w9 (.cells #[.int .i64 k, .slice ua C.length uc] 24)
  have HB9 := hide ((Below.next HB8.out hb9).alloc (Below.next HB8.out hb9).size (.cells #[.int .i64 k, .slice ua C.length uc] 24))
  have HKx := hide (KL.new (k := (k : Int)) ownX)
  have HKc9 := hide ((HKc.out.below hb9).below hbn)
  clear HB8 HMg hb9 ownX hbn p0 p1 q0 q1 HKc
  generalize w9.heap.size = gx at *
  generalize w9.alloc (.cells #[.int .i64 k, .slice ua C.length uc] 24) = W9 at *
  obtain ⟨p0, p1⟩ := HKx.out.box.cells
  obtain ⟨q0, q1⟩ := HKc9.out.box.cells
  have HSame := hide (sameLeast_yes _ _ ⟨k, C⟩ W9 HKx.out.row HKc9.out.row)
  clear HKx HKc9
  go_wp2_with fail
  refine HSame.out.mono ?_
  rintro e w10 ⟨rfl, hb10⟩
  have HB10 := hide (Below.next HB9.out hb10)
  clear HB9 HSame hb10
  go_wp2
  go_ret
  exact ⟨rfl, HB10.out⟩
theorem walk_LeastMerged (k : Int) (v1 : Value) (L : List (List Int)) (v2 : Value) (M : List (List Int)) (w : World) (k0 : -9223372036854775808 ≤ k) (k1 : k ≤ 9223372036854775807) (hr1 : RowsB w v1 L) (hbt1 : ∀ y ∈ L, Byt y) (hn1 : L.length * 24 ≤ 140737488351232) (hr2 : RowsB w v2 M) (hbt2 : ∀ y ∈ M, Byt y) (hn2 : M.length * 24 ≤ 140737488351232) :
    Calls Try.prog 5 #[.int .i64 k, v1, v2] w fun e w' => e = .returned (.bool true) ∧ Below w.heap.size w w' := by
  by_cases h : 2 ≤ k ∧ k ≤ 64
  · obtain ⟨K, rfl⟩ : ∃ K : Nat, k = K := ⟨k.toNat, by omega⟩
    exact merged_good K v1 v2 L M w (by omega) (by omega) hr1 hr2 hbt1 hbt2 hn1 hn2
  · exact merged_bad k v1 v2 L M w h hr1 hr2 hn1 hn2
set_option maxRecDepth 100000 in
theorem lifted_LeastMerged (os : Os) (started : os.Started) (H : Type) (enc : TypeId × Value → H) :
    ReturnsInHanded {} Try.checked os 5 .any (Rows.leastMergedSpec.pre6 enc Try.prog Try.f5 Rows.leastMergedRow.domain false) (Rows.leastMergedSpec.post enc Try.prog Try.f5 false true false false) := by
  refine returnsInHanded_of_change_sized (C := Try.checked) own started (by kernel_rfl) Try.func5
    (ChangeSpec.witness6 (enc := enc) (C := Try.checked) false ⟨#[], #[.int .i64 0, .slice none 0 0, .slice none 0 0], []⟩ 8 (by kernel_rfl) (by kernel_rfl) (by kernel_rfl) (by kernel_rfl)) ?_
  intro W base args ds gs before hval0 hW hcnd hsz0  _
  have hsz : (DataW.weightsEach Try.prog (Try.f5.params.toList ++ Rows.leastMergedSpec.plain.varTypes Try.prog) (ds ++ gs)).all (· ≤ reachBytes) = true := hsz0
  have hval : ∀ (j : Nat) t v, Try.f5.params[j]? = some t → args[j]? = some v → Value.okWide Try.prog W .any base t v := hval0
  have hW' := hW
  obtain ⟨p, q, hA0, hV, rfl, hfz, hnd⟩ := hW
  have hA : DataW.TrodAll enc Try.prog W 0 (fun _ => true) true Try.f5.params.toList args.toList ds p := hA0
  rw [Try.params5] at hA hval hsz
  obtain ⟨v0, vs0, d0, ds0, p0, q0, hargs, rfl, rfl, h0, r0⟩ := trodAll_cons hA
  obtain ⟨v1, vs1, d1, ds1, p1, q1, rfl, rfl, rfl, h1, r1⟩ := trodAll_cons r0
  obtain ⟨v2, vs2, d2, ds2, p2, q2, rfl, rfl, rfl, h2, r2⟩ := trodAll_cons r1
  obtain ⟨rfl, rfl, rfl⟩ := trodAll_nil r2
  obtain rfl : args = #[v0, v1, v2] := by cases args; simp_all
  obtain ⟨rfl, rfl⟩ := trodVars_none hV
  have k0 := h0
  have lt0 : ∀ x ∈ p0, x.block < W.heap.size := by obtain ⟨m, hm⟩ := k0; exact DataW.trod_lt m _ _ _ hm
  obtain ⟨a0, rfl, rfl, rfl, w0⟩ := open_int Try.underlying3 (hval 0 3 v0 rfl rfl) h0
  have b0 := bounds_i64 w0
  have k1 := h1
  have lt1 : ∀ x ∈ p1, x.block < W.heap.size := by obtain ⟨m, hm⟩ := k1; exact DataW.trod_lt m _ _ _ hm
  obtain ⟨s1, len1, cap1, rfl⟩ := okWide_slice Try.underlying40 (hval 1 40 v1 rfl rfl)
  obtain ⟨l1, row1, wf1, sh1⟩ := open_rowsB h1
  have rc1 := row_reachN hsz (j := 1) (t := 40) rfl rfl Try.underlying40 sh1
  rw [bytes25] at rc1
  have k2 := h2
  have lt2 : ∀ x ∈ p2, x.block < W.heap.size := by obtain ⟨m, hm⟩ := k2; exact DataW.trod_lt m _ _ _ hm
  obtain ⟨s2, len2, cap2, rfl⟩ := okWide_slice Try.underlying40 (hval 2 40 v2 rfl rfl)
  obtain ⟨l2, row2, wf2, sh2⟩ := open_rowsB h2
  have rc2 := row_reachN hsz (j := 2) (t := 40) rfl rfl Try.underlying40 sh2
  rw [bytes25] at rc2
  clear hA0 hval0
  refine (walk_LeastMerged a0 (.slice s1 len1 cap1) l1 (.slice s2 len2 cap2) l2 W b0.1 b0.2 row1 wf1 rc1 row2 wf2 rc2).mono fun e W' ⟨he, bel⟩ => ?_
  subst he
  exact ⟨_, rfl, _, _, _, [], _, [], hW', trodAll_mk1 (shut_bool Try.underlying4 _), (trodAll_cons_mk (Below.trod laidOut (by kernel_rfl) (of_decide_eq_true (by kernel_rfl)) k0 bel lt0) (trodAll_cons_mk (Below.trod laidOut (by kernel_rfl) (of_decide_eq_true (by kernel_rfl)) k1 bel lt1) (trodAll_cons_mk (Below.trod laidOut (by kernel_rfl) (of_decide_eq_true (by kernel_rfl)) k2 bel lt2) trodAll_mk0))), rfl, bel.frame _, fun h => by cases h⟩

theorem proved_LeastMerged : Rows.LeastMergedSaid :=
  OpenClaim.holds_of_wide 5 Try.f5 rfl rfl rfl rfl rfl rfl rfl ⟨rfl, rfl, rfl, rfl, rfl⟩ rfl rfl rfl rfl rfl (by kernel_rfl) Try.func5 (by kernel_rfl)
    (of_decide_eq_true (by kernel_rfl)) (by unfold Func.isWrapper; first | (rw [if_pos (by decide +kernel)]; kernel_rfl) | (rw [if_neg (by decide +kernel)]; exact ⟨rfl, rfl⟩))
    (fun os started H enc _ => lifted_LeastMerged os started H enc)
#print axioms proved_LeastMerged
end Go.Proofs.Ytpinhcbkfjoopaa
