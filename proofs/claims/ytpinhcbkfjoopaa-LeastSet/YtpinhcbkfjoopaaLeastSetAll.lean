/- LeastSet holds: at all inputs the law answers true and changes nothing that was there. -/
import Derived.Test.YtpinhcbkfjoopaaLeBAll
namespace Go.Proofs.Ytpinhcbkfjoopaa
open Go.ChangeShapes Go.WideShapes Go.ChangeAt Go.RowKit
set_option linter.unusedVariables false
set_option maxRecDepth 100000 in
set_option maxHeartbeats 4000000 in
theorem set_bad (k : Int) (v : Value) (L : List (List Int)) (w : World) (hk : ¬ (2 ≤ k ∧ k ≤ 64)) (hr : RowsB w v L) (hn : L.length * 24 ≤ 140737488351232) :
    Calls Try.prog 4 #[.int .i64 k, v] w fun e w' => e = .returned (.bool true) ∧ Below w.heap.size w w' := by
  obtain ⟨vs, hrs, hall⟩ := hr.parts
  have hvl := hall.1
  have HSv := hide (fun wx => sieves_any wx)
  have HS1 := hide (fun wx v2 M (h : RowsB wx v2 M) => sieved_bad k v2 M wx hk h)
  have HR := hide (fun wx (h : Below w.heap.size w wx) => hr.below h (Nat.le_refl _))
  have HRS := hide (fun wx (h : Below w.heap.size w wx) => hrs.below h (Nat.le_refl _))
  have HAll := hide (fun wx (h : Below w.heap.size w wx) => hall.below h (Nat.le_refl _))
  have HCl := hide (fun wx (h : RowS wx v vs) => cloneS_any v vs wx h (by omega))
  have HRv := hide (fun wx v2 base (h : OwnSl wx base v2 vs) => reverse_own wx base v2 vs h (by omega))
  have HCat := hide (fun wx v1 us b (hul : us.length = vs.length) (hb : b < wx.heap.size) (hr : RowsS wx b [(v1, us), (v, vs)]) => concatS_any b 2 2 [(v1, us), (v, vs)] wx rfl (by decide) hb hr (by rw [catS_two]; simp; omega))
  have hkk : k < 2 ∨ 64 < k := by omega
  obtain ⟨aa, ac, rfl⟩ := hr.shp
  clear hr hrs hall hk
  go_enter Try.func4, Try.ntmps4
  go_upto_region 3 with (go_at_call 18; go_must (refine (HSv.out _).mono ?_); rintro e w1 ⟨rfl, hb1⟩)
  have HB1 := hide hb1
  have H1 := hide (HS1.out w1 _ _ (HR.out w1 hb1))
  clear hb1 HSv
  go_upto_region 4 with (go_at_call 19; go_must (refine H1.out.mono ?_); rintro e w2 ⟨rfl, hb2⟩)
  have HB2 := hide ((Below.next HB1.out hb2).alloc (Below.next HB1.out hb2).size (.cells #[.int .i64 0, .slice none 0 0] 24))
  clear HB1 H1 hb2
  generalize w2.alloc (.cells #[.int .i64 0, .slice none 0 0] 24) = W2 at *
  have H2 := hide (HCl.out W2 (HRS.out W2 HB2.out))
  clear HCl
  go_upto_region 5 with (go_at_call 20; go_must (refine H2.out.mono ?_); rintro e w3 ⟨v3, rfl, own3, hb3⟩)
  have H3 := hide (HRv.out w3 v3 _ own3)
  have HB3 := hide hb3
  clear H2 HRv own3 hb3
  go_upto_region 6 with (go_at_call 21; go_must (refine H3.out.mono ?_); rintro e w4 ⟨rfl, hb4, us, own4, hp⟩)
  have hb34 := HB3.out.trans hb4
  have HB4 := hide (Below.next HB2.out hb34)
  obtain ⟨M, hM, hallM⟩ := (HAll.out w4 HB4.out).perm hp
  have hrows := rows_twoS w4 v3 (.slice aa L.length ac) us vs 40 own4.row (HRS.out w4 HB4.out)
  have HB5 := hide (HB4.out.alloc HB4.out.size (.cells #[v3, .slice aa L.length ac] 40))
  have hul := hp.length_eq
  have HC5 := hide (HCat.out _ v3 us w4.heap.size hul (by simp) hrows)
  have HAM := hide (AllB.app hallM (HAll.out w4 HB4.out))
  have hbn := below_new w4 (.cells #[v3, .slice aa L.length ac] 40)
  have HAM5 := hide (HAM.out.below hbn (Nat.le_refl _))
  obtain ⟨a3, c3, rfl⟩ := own4.row.shp
  clear HB2 HB3 hb34 H3 hb4 own4 hp hM hallM hrows HCat hul HAM hbn HB4
  go_wp2_with fail
  refine HC5.out.mono ?_
  rintro e w5 ⟨v5, rfl, own5, hb5⟩
  have hcat := catS_two (.slice a3 us.length c3) (.slice aa L.length ac) us vs
  rw [hcat] at own5
  have HB6 := hide (Below.next HB5.out hb5)
  have H6 := hide (HS1.out w5 v5 _ (RowsB.made own5.row (HAM5.out.below hb5 (Nat.le_refl _))))
  clear HC5 hcat own5 hb5 HAM5 HB5 HS1 HR HRS HAll
  go_wp2_with fail
  refine H6.out.mono ?_
  rintro e w6 ⟨rfl, hb6⟩
  have HB7 := hide (Below.next HB6.out hb6)
  have HB8 := hide (HB7.out.alloc HB7.out.size (.cells #[.int .i64 0, .slice none 0 0] 24))
  clear H6 hb6 HB6 HB7
  by_cases h2 : k < 2
  · have hd : decide (k < 2) = true := by simpa using h2
    go_wp2
    go_ret
    exact ⟨rfl, HB8.out⟩
  · have hd : decide (k < 2) = false := by simpa using h2
    have hd2 : decide (64 < k) = true := by simp; omega
    go_wp2
    go_ret
    exact ⟨rfl, HB8.out⟩
set_option maxRecDepth 100000 in
set_option maxHeartbeats 8000000 in
theorem set_good (k : Nat) (v : Value) (L : List (List Int)) (w : World) (hk1 : 2 ≤ k) (hk2 : k ≤ 64) (hr : RowsB w v L) (hbt : ∀ y ∈ L, Byt y) (hn : L.length * 24 ≤ 140737488351232) :
    Calls Try.prog 4 #[.int .i64 k, v] w fun e w' => e = .returned (.bool true) ∧ Below w.heap.size w w' := by
  obtain ⟨vs, hrs, hall⟩ := hr.parts
  have hvl := hall.1
  have HSv := hide (fun wx => sieves_any wx)
  have HS1 := hide (fun wx v2 M (h : RowsB wx v2 M) (h2 : ∀ y ∈ M, Byt y) => sieved_ok k v2 M wx hk1 hk2 h h2)
  have HR := hide (fun wx (h : Below w.heap.size w wx) => hr.below h (Nat.le_refl _))
  have HRS := hide (fun wx (h : Below w.heap.size w wx) => hrs.below h (Nat.le_refl _))
  have HAll := hide (fun wx (h : Below w.heap.size w wx) => hall.below h (Nat.le_refl _))
  have HCl := hide (fun wx (h : RowS wx v vs) => cloneS_any v vs wx h (by omega))
  have HRv := hide (fun wx v2 base (h : OwnSl wx base v2 vs) => reverse_own wx base v2 vs h (by omega))
  have HCat := hide (fun wx v1 us b (hul : us.length = vs.length) (hb : b < wx.heap.size) (hr : RowsS wx b [(v1, us), (v, vs)]) => concatS_any b 2 2 [(v1, us), (v, vs)] wx rfl (by decide) hb hr (by rw [catS_two]; simp; omega))
  have HBt := hide hbt
  have HK := hide (And.intro hk1 hk2)
  obtain ⟨aa, ac, rfl⟩ := hr.shp
  clear hr hrs hall hbt hk1 hk2
  go_enter Try.func4, Try.ntmps4
  go_upto_region 3 with (go_at_call 18; go_must (refine (HSv.out _).mono ?_); rintro e w1 ⟨rfl, hb1⟩)
  have HB1 := hide hb1
  have H1 := hide (HS1.out w1 _ _ (HR.out w1 hb1) HBt.out)
  clear hb1 HSv
  go_upto_region 4 with (go_at_call 19; go_must (refine H1.out.mono ?_); rintro e w2 ⟨va, R, rfl, ownA, botA, hb2⟩; obtain ⟨xa, xc, rfl⟩ := ownA.shape; have HBotA := hide botA; clear botA)
  have HB2 := hide ((Below.next HB1.out hb2).alloc (Below.next HB1.out hb2).size (.cells #[.int .i64 k, .slice xa R.length xc] 24))
  have HKa := hide (KL.new (k := (k : Int)) ownA)
  clear HB1 H1 hb2 ownA
  generalize w2.heap.size = ga at *
  generalize w2.alloc (.cells #[.int .i64 k, .slice xa R.length xc] 24) = W2 at *
  have H2 := hide (HCl.out W2 (HRS.out W2 HB2.out))
  clear HCl
  go_upto_region 5 with (go_at_call 20; go_must (refine H2.out.mono ?_); rintro e w3 ⟨v3, rfl, own3, hb3⟩)
  have H3 := hide (HRv.out w3 v3 _ own3)
  have HB3 := hide hb3
  clear H2 HRv own3 hb3
  go_upto_region 6 with (go_at_call 21; go_must (refine H3.out.mono ?_); rintro e w4 ⟨rfl, hb4, us, own4, hp⟩)
  have hb34 := HB3.out.trans hb4
  have HB4 := hide (Below.next HB2.out hb34)
  obtain ⟨M, hM, hallM⟩ := (HAll.out w4 HB4.out).perm hp
  have HM := hide hM
  have hrows := rows_twoS w4 v3 (.slice aa L.length ac) us vs 40 own4.row (HRS.out w4 HB4.out)
  have HB5 := hide (HB4.out.alloc HB4.out.size (.cells #[v3, .slice aa L.length ac] 40))
  have hul := hp.length_eq
  have HC5 := hide (HCat.out _ v3 us w4.heap.size hul (by simp) hrows)
  have HAM := hide (AllB.app hallM (HAll.out w4 HB4.out))
  have hbn := below_new w4 (.cells #[v3, .slice aa L.length ac] 40)
  have HAM5 := hide (HAM.out.below hbn (Nat.le_refl _))
  have HKa5 := hide ((HKa.out.below hb34).below hbn)
  obtain ⟨a3, c3, rfl⟩ := own4.row.shp
  clear HB2 HB3 hb34 H3 hb4 own4 hp hM hallM hrows HCat hul HAM hbn HB4 HKa
  go_wp2_with fail
  refine HC5.out.mono ?_
  rintro e w5 ⟨v5, rfl, own5, hb5⟩
  have hcat := catS_two (.slice a3 us.length c3) (.slice aa L.length ac) us vs
  rw [hcat] at own5
  have HB6 := hide (Below.next HB5.out hb5)
  have H6 := hide (HS1.out w5 v5 (M ++ L) (RowsB.made own5.row (HAM5.out.below hb5 (Nat.le_refl _))) (fun y hy => (List.mem_append.1 hy).elim (fun h => HBt.out y (HM.out.mem_iff.1 h)) (HBt.out y)))
  have HKa6 := hide (HKa5.out.below hb5)
  clear HC5 hcat own5 hb5 HAM5 HB5 HS1 HR HRS HAll HKa5
  go_upto_region 7 with (go_at_call 19; go_must (refine H6.out.mono ?_); rintro e w6 ⟨vb, R2, rfl, ownB, botB, hb6⟩; obtain ⟨yb, yc, rfl⟩ := ownB.shape; have HBotB := hide botB; clear botB)
  have hRR : R2 = R := P.Bot.one HBotB.out (HBotA.out.iff fun x => by rw [hs_app, hs_perm HM.out]; simp)
  subst hRR
  have HG := hide (Bot_good HBotB.out HK.out.1 HK.out.2)
  have hbn := below_new w6 (.cells #[.int .i64 k, .slice yb R2.length yc] 24)
  have HB8 := hide ((Below.next HB6.out hb6).alloc (Below.next HB6.out hb6).size (.cells #[.int .i64 k, .slice yb R2.length yc] 24))
  have HKb := hide (KL.new (k := (k : Int)) ownB)
  have HKa8 := hide ((HKa6.out.below hb6).below hbn)
  clear H6 hb6 HB6 HKa6 ownB hbn HBotA HBotB HM
  generalize w6.heap.size = gb at *
  generalize w6.alloc (.cells #[.int .i64 k, .slice yb R2.length yc] 24) = W8 at *
  obtain ⟨p0, p1⟩ := HKa8.out.box.cells
  obtain ⟨q0, q1⟩ := HKb.out.box.cells
  have HSame := hide (sameLeast_yes _ _ ⟨k, R2⟩ W8 HKa8.out.row HKb.out.row)
  have HCh := hide (fun wx (h : Below W8.heap.size W8 wx) => Check_any _ ⟨k, R2⟩ wx (HKa8.out.row.below h (Nat.le_refl _)))
  rw [P.chkL_ok HG.out] at HCh
  go_wp2_with fail
  refine HSame.out.mono ?_
  rintro e w9 ⟨rfl, hb9⟩
  have HB9 := hide (Below.next HB8.out hb9)
  have HCh9 := hide (HCh.out w9 hb9)
  obtain ⟨s0, s1⟩ := (HKa8.out.below hb9).box.cells
  clear HB8 HSame HCh p0 p1 q0 q1 HKa8 HKb hb9
  go_wp2_with fail
  refine HCh9.out.mono ?_
  rintro e w10 ⟨rfl, hb10⟩
  have HB10 := hide (Below.next HB9.out hb10)
  clear hb10 HB9 HCh9
  go_wp2
  go_ret
  exact ⟨rfl, HB10.out⟩
theorem walk_LeastSet (k : Int) (v : Value) (L : List (List Int)) (w : World) (k0 : -9223372036854775808 ≤ k) (k1 : k ≤ 9223372036854775807) (hr : RowsB w v L) (hbt : ∀ y ∈ L, Byt y) (hn : L.length * 24 ≤ 140737488351232) :
    Calls Try.prog 4 #[.int .i64 k, v] w fun e w' => e = .returned (.bool true) ∧ Below w.heap.size w w' := by
  by_cases h : 2 ≤ k ∧ k ≤ 64
  · obtain ⟨K, rfl⟩ : ∃ K : Nat, k = K := ⟨k.toNat, by omega⟩
    exact set_good K v L w (by omega) (by omega) hr hbt hn
  · exact set_bad k v L w h hr hn
set_option maxRecDepth 100000 in
theorem lifted_LeastSet (os : Os) (started : os.Started) (H : Type) (enc : TypeId × Value → H) :
    ReturnsInHanded {} Try.checked os 4 .any (Rows.leastSetSpec.pre6 enc Try.prog Try.f4 Rows.leastSetRow.domain false) (Rows.leastSetSpec.post enc Try.prog Try.f4 false true false false) := by
  refine returnsInHanded_of_change_sized (C := Try.checked) own started (by kernel_rfl) Try.func4
    (ChangeSpec.witness6 (enc := enc) (C := Try.checked) false ⟨#[], #[.int .i64 0, .slice none 0 0], []⟩ 8 (by kernel_rfl) (by kernel_rfl) (by kernel_rfl) (by kernel_rfl)) ?_
  intro W base args ds gs before hval0 hW hcnd hsz0  _
  have hsz : (DataW.weightsEach Try.prog (Try.f4.params.toList ++ Rows.leastSetSpec.plain.varTypes Try.prog) (ds ++ gs)).all (· ≤ reachBytes) = true := hsz0
  have hval : ∀ (j : Nat) t v, Try.f4.params[j]? = some t → args[j]? = some v → Value.okWide Try.prog W .any base t v := hval0
  have hW' := hW
  obtain ⟨p, q, hA0, hV, rfl, hfz, hnd⟩ := hW
  have hA : DataW.TrodAll enc Try.prog W 0 (fun _ => true) true Try.f4.params.toList args.toList ds p := hA0
  rw [Try.params4] at hA hval hsz
  obtain ⟨v0, vs0, d0, ds0, p0, q0, hargs, rfl, rfl, h0, r0⟩ := trodAll_cons hA
  obtain ⟨v1, vs1, d1, ds1, p1, q1, rfl, rfl, rfl, h1, r1⟩ := trodAll_cons r0
  obtain ⟨rfl, rfl, rfl⟩ := trodAll_nil r1
  obtain rfl : args = #[v0, v1] := by cases args; simp_all
  obtain ⟨rfl, rfl⟩ := trodVars_none hV
  have k0 := h0
  have lt0 : ∀ x ∈ p0, x.block < W.heap.size := by obtain ⟨m, hm⟩ := k0; exact DataW.trod_lt m _ _ _ hm
  obtain ⟨a0, rfl, rfl, rfl, w0⟩ := open_int Try.underlying3 (hval 0 3 v0 rfl rfl) h0
  have b0 := bounds_i64 w0
  have k1 := h1
  have lt1 : ∀ x ∈ p1, x.block < W.heap.size := by obtain ⟨m, hm⟩ := k1; exact DataW.trod_lt m _ _ _ hm
  obtain ⟨s1, len1, cap1, rfl⟩ := okWide_slice Try.underlying40 (hval 1 40 v1 rfl rfl)
  obtain ⟨l1, row1, wf1, sh1⟩ := open_rowsB h1
  have rc1 := row_reachN hsz (j := 1) (t := 40) rfl rfl Try.underlying40 sh1
  rw [bytes25] at rc1
  clear hA0 hval0
  refine (walk_LeastSet a0 (.slice s1 len1 cap1) l1 W b0.1 b0.2 row1 wf1 rc1).mono fun e W' ⟨he, bel⟩ => ?_
  subst he
  exact ⟨_, rfl, _, _, _, [], _, [], hW', trodAll_mk1 (shut_bool Try.underlying4 _), (trodAll_cons_mk (Below.trod laidOut (by kernel_rfl) (of_decide_eq_true (by kernel_rfl)) k0 bel lt0) (trodAll_cons_mk (Below.trod laidOut (by kernel_rfl) (of_decide_eq_true (by kernel_rfl)) k1 bel lt1) trodAll_mk0)), rfl, bel.frame _, fun h => by cases h⟩

theorem proved_LeastSet : Rows.LeastSetSaid :=
  OpenClaim.holds_of_wide 4 Try.f4 rfl rfl rfl rfl rfl rfl rfl ⟨rfl, rfl, rfl, rfl, rfl⟩ rfl rfl rfl rfl rfl (by kernel_rfl) Try.func4 (by kernel_rfl)
    (of_decide_eq_true (by kernel_rfl)) (by unfold Func.isWrapper; first | (rw [if_pos (by decide +kernel)]; kernel_rfl) | (rw [if_neg (by decide +kernel)]; exact ⟨rfl, rfl⟩))
    (fun os started H enc _ => lifted_LeastSet os started H enc)
#print axioms proved_LeastSet
end Go.Proofs.Ytpinhcbkfjoopaa
