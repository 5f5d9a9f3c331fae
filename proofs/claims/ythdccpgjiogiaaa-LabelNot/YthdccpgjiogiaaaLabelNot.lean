/- LabelNot: two matches fit where each fits; what is so is not otherwise. -/
import Derived.Test.YthdccpgjiogiaaaLabelX
namespace Go.Proofs.Ythdccpgjiogiaaa
open Go.RowKit Go.ChangeShapes Go.WideShapes Go.ChangeAt Go.Joins
set_option linter.unusedVariables false
theorem BoxM.unfrozen {w : World} {g : Nat} {x : P.Mt} (h : BoxM w g x) (j : Nat) : w.frozen? ⟨g, j, none⟩ = false := by
  unfold BoxM at h
  simp [World.frozen?, h]
theorem BoxM.set {w : World} {g : Nat} {x : P.Mt} (h : BoxM w g x) (k : Int) : BoxM (w.setCell ⟨g, 0, none⟩ (.int .i64 k)) g (k, x.2.1, x.2.2) := by
  unfold BoxM at h ⊢
  rw [heap_setCell_same w g 0 _ _ _ h]
  simp
theorem RowM.two (w : World) (x y : P.Mt) (t : TypeId) : RowM (w.alloc (.cells #[.int .i64 x.1, .string x.2.1, .string x.2.2, .int .i64 y.1, .string y.2.1, .string y.2.2] t)) (.slice (some ⟨w.heap.size, 0, none⟩) 2 2) [x, y] := by
  refine ⟨_, 2, rfl, ⟨by simp, by decide, fun h => by cases h⟩, .inr ⟨w.heap.size, 0, rfl, by simp, fun j z hz i u hu => ?_⟩⟩
  match j, hz with
  | 0, hz =>
    simp at hz; subst hz
    match i, hu with
    | 0, hu => simp [mtC] at hu; subst hu; simp
    | 1, hu => simp [mtC] at hu; subst hu; simp
    | 2, hu => simp [mtC] at hu; subst hu; simp
    | (n + 3), hu => simp [mtC] at hu
  | 1, hz =>
    simp at hz; subst hz
    match i, hu with
    | 0, hu => simp [mtC] at hu; subst hu; simp
    | 1, hu => simp [mtC] at hu; subst hu; simp
    | 2, hu => simp [mtC] at hu; subst hu; simp
    | (n + 3), hu => simp [mtC] at hu
/-- Fits of two matches that lie in a new row. -/
theorem fits_two (v : Value) (l : List P.Lb) (x y : P.Mt) (w w' : World) (hr : RowL w v l) (hl : LbOk l) (hx : MtOk1 x) (hy : MtOk1 y) (mx : Int) (hm : w.cell? ⟨0, 0, none⟩ = some (.int .i64 mx)) (hb : Below w.heap.size w w') :
    Calls Try.prog 16 #[v, .slice (some ⟨w'.heap.size, 0, none⟩) 2 2] (w'.alloc (.cells #[.int .i64 x.1, .string x.2.1, .string x.2.2, .int .i64 y.1, .string y.2.1, .string y.2.2] 49)) fun e w2 =>
      e = .returned (.tuple #[.bool (P.fitsB l [x, y]), .int .i64 (P.fitsE l [x, y])]) ∧ Below w'.heap.size w' w2 := by
  have hb2 := hb.alloc hb.size (.cells #[.int .i64 x.1, .string x.2.1, .string x.2.2, .int .i64 y.1, .string y.2.1, .string y.2.2] 49)
  refine (fits_any v _ l [x, y] _ (hr.below hb2 (Nat.le_refl _)) hl (RowM.two w' x y 49) (by intro z hz; simp at hz; rcases hz with rfl | rfl <;> assumption) mx (keep_cell hm hb2)).mono ?_
  rintro e w2 ⟨rfl, h⟩
  exact ⟨rfl, ((Below.refl _ w').alloc (Nat.le_refl _) _).trans (h.mono (by simp))⟩
theorem allZ_two (x y : Int) : allZ [x, y] = (decide (x = 0) && decide (y = 0)) := by
  unfold allZ
  rw [Bool.eq_iff_iff, decide_eq_true_eq, Bool.and_eq_true, decide_eq_true_eq, decide_eq_true_eq]
  constructor
  · intro h; exact ⟨h 0 (by simp), h 1 (by simp)⟩
  · rintro ⟨h1, h2⟩ j hj
    match j, hj with
    | 0, _ => simpa using h1
    | 1, _ => simpa using h2
set_option maxHeartbeats 2000000 in
theorem walk_LabelNot (v : Value) (l : List P.Lb) (a b : P.Mt) (w : World) (hr : RowL w v l) (hl : LbOk l) (hrc : l.length * 32 ≤ 140737488351232) (ha : MtOk1 a) (hb : MtOk1 b) (mx : Int) (hm : w.cell? ⟨0, 0, none⟩ = some (.int .i64 mx)) :
    Calls Try.prog 7 #[v, .agg #[.int .i64 a.1, .string a.2.1, .string a.2.2], .agg #[.int .i64 b.1, .string b.2.1, .string b.2.2]] w fun e w' => e = .returned (.bool true) ∧ Below w.heap.size w w' := by
  have HL := hide (fun w => labels_any w)
  have HFa := hide (fun w' hb => fits_one v l a w w' hr hl ha mx hm hb)
  have HFb := hide (fun w' hb' => fits_one v l b w w' hr hl hb mx hm hb')
  have HF2 := hide (fun w' hb' => fits_two v l a b w w' hr hl ha hb mx hm hb')
  have HFn := hide (fun w' hb' => fits_one v l (2, a.2.1, a.2.2) w w' hr hl ⟨⟨by show (_ : Int) ≤ 2; decide, by show (2 : Int) ≤ _; decide⟩, ha.2.1, ha.2.2⟩ mx hm hb')
  have HP := hide (P.pair l a b)
  have HC := hide (fun (h : a.1 = 1) => (by obtain ⟨ak, an, av⟩ := a; simp only at h; subst h; exact P.contrary l an av : P.fitsE l [a] = 0 → P.fitsE l [(2, a.2.1, a.2.2)] = 0 ∧ P.fitsB l [(2, a.2.1, a.2.2)] = !P.fitsB l [a]))
  have HA := hide (BoxM.new w a)
  have HB := hide (BoxM.new (w.alloc (.cells #[.int .i64 a.1, .string a.2.1, .string a.2.2] 49)) b)
  have hs1 : (w.alloc (.cells #[.int .i64 a.1, .string a.2.1, .string a.2.2] 49)).heap.size = w.heap.size + 1 := by simp
  rw [hs1] at HB
  have HA2 := hide (HA.out.next ((Below.refl _ (w.alloc (.cells #[.int .i64 a.1, .string a.2.1, .string a.2.2] 49))).alloc (Nat.le_refl _) (.cells #[.int .i64 b.1, .string b.2.1, .string b.2.2] 49)))
  have hB0 : Below w.heap.size w ((w.alloc (.cells #[.int .i64 a.1, .string a.2.1, .string a.2.2] 49)).alloc (.cells #[.int .i64 b.1, .string b.2.1, .string b.2.2] 49)) := ((Below.refl _ w).alloc (Nat.le_refl _) _).alloc (by simp) _
  clear HA hs1
  obtain ⟨ak, an, av⟩ := a
  obtain ⟨bk, bn, bv⟩ := b
  simp only at HFa HFb HF2 HFn HP HC HA2 HB hB0 ⊢
  generalize P.fitsE l [(ak, an, av)] = ea at HFa HP HC
  generalize P.fitsE l [(bk, bn, bv)] = eb at HFb HP
  generalize P.fitsE l [(ak, an, av), (bk, bn, bv)] = e2 at HF2 HP
  generalize P.fitsE l [(2, an, av)] = en at HFn HC
  generalize P.fitsB l [(ak, an, av)] = ba at HFa HP HC
  generalize P.fitsB l [(bk, bn, bv)] = bb at HFb HP
  generalize P.fitsB l [(ak, an, av), (bk, bn, bv)] = b2 at HF2 HP
  generalize P.fitsB l [(2, an, av)] = bn' at HFn HC
  obtain ⟨ca, cp, rfl, hrest⟩ := hr
  clear hrest ha hb
  have HG := hide (fun w => good_any (.slice (some ⟨w.heap.size, 0, none⟩) 2 2) [ea, eb] (w.alloc (.cells #[.int .i64 ea, .int .i64 eb] 23)) (row_two w _ ea eb))
  rw [allZ_two] at HG
  go_enter Try.func7, Try.ntmps7
  go_wp2_with fail
  refine (HL.out _).mono ?_
  rintro e w1 ⟨rfl, hc1⟩
  have hb1 := Below.next hB0 hc1
  have xa1 := HA2.out.next hc1
  have xb1 := HB.out.next hc1
  clear HL HA2 HB hc1 hB0
  have k10 := xa1.c0
  have k11 := xa1.c1
  have k12 := xa1.c2
  simp only at k10 k11 k12
  go_wp2_with fail
  refine (HFa.out _ hb1).mono ?_
  rintro e w2 ⟨rfl, hc2⟩
  have hb2 := Below.next hb1 hc2
  have xa2 := xa1.next hc2
  have xb2 := xb1.next hc2
  clear xa1 xb1 hb1 hc2 k10 k11 k12
  have k10 := xb2.c0
  have k11 := xb2.c1
  have k12 := xb2.c2
  simp only at k10 k11 k12
  go_wp2_with fail
  refine (HFb.out _ hb2).mono ?_
  rintro e w3 ⟨rfl, hc3⟩
  have hb3 := Below.next hb2 hc3
  have xa3 := xa2.next hc3
  have xb3 := xb2.next hc3
  clear xa2 xb2 hb2 hc3 k10 k11 k12
  have k10 := xb3.c0
  have k11 := xb3.c1
  have k12 := xb3.c2
  have k20 := xa3.c0
  have k21 := xa3.c1
  have k22 := xa3.c2
  simp only at k10 k11 k12 k20 k21 k22
  go_wp2_with fail
  refine (HF2.out _ hb3).mono ?_
  rintro e w4 ⟨rfl, hc4⟩
  have hb4 := Below.next hb3 hc4
  have xa4 := xa3.next hc4
  clear xa3 xb3 hb3 hc4 k10 k11 k12 k20 k21 k22 HF2 HFa HFb
  by_cases hz : ea = 0 ∧ eb = 0
  · obtain ⟨p1, p2⟩ := HP.out.1 hz.1 hz.2
    have HC2 := hide (fun h => HC.out h hz.1)
    obtain ⟨z1, z2⟩ := hz
    subst z1 z2 p1 p2
    clear HP HC
    have HG2 : Hid (∀ w : World, Calls Try.prog 27 #[.slice (some ⟨w.heap.size, 0, none⟩) 2 2] (w.alloc (.cells #[.int .i64 0, .int .i64 0] 23)) fun e w' => e = .returned (.bool true) ∧ Below w.heap.size w w') := fun w => by
      refine (HG.out w).mono ?_
      rintro e w' ⟨rfl, rfl⟩
      exact ⟨rfl, (Below.refl _ w).alloc (Nat.le_refl _) _⟩
    clear HG
    go_wp2_with fail
    refine (HG2.out _).mono ?_
    rintro e w5 ⟨rfl, hc5⟩
    have xa5 := xa4.next hc5
    have hb5 := Below.next hb4 hc5
    clear xa4 hb4 hc5 HG2
    have k20 := xa5.c0
    have k21 := xa5.c1
    have k22 := xa5.c2
    simp only at k20 k21 k22
    by_cases h1 : ak = 1
    · obtain ⟨q1, q2⟩ := HC2.out h1
      subst q1 q2
      have hk : (ak == 1) = true := by simp [h1]
      have hf := xa5.unfrozen 0
      have xa6 := xa5.set 2
      have hb6 : Below w.heap.size w (w5.setCell ⟨w.heap.size, 0, none⟩ (.int .i64 2)) := hb5.setCell (Nat.le_refl _) _
      have m0 := xa6.c0
      have m1 := xa6.c1
      have m2 := xa6.c2
      simp only at m0 m1 m2
      have hsz6 : (w5.setCell ⟨w.heap.size, 0, none⟩ (.int .i64 2)).heap.size = w5.heap.size := by simp
      have HK := hide (HFn.out _ hb6)
      rw [hsz6] at HK
      have HS6 := hide hsz6
      clear h1 HC2 hsz6
      go_wp2_with (go_at_call 16; refine HK.out.mono ?_; rintro e w7 ⟨rfl, hc7⟩)
      all_goals
        go_ret
        refine ⟨ret_bool ?_, Below.next hb6 (by rw [HS6.out]; exact hc7)⟩
        cases ba <;> rfl
    · have hk : (ak == 1) = false := by simp [h1]
      clear h1 HC2
      go_wp2
      all_goals
        go_ret
        exact ⟨rfl, hb5⟩
  · have hz2 : (decide (ea = 0) && decide (eb = 0)) = false := by
      rw [Bool.eq_false_iff]
      intro h
      rw [Bool.and_eq_true, decide_eq_true_eq, decide_eq_true_eq] at h
      exact hz h
    have p1 := HP.out.2 hz
    subst p1
    rw [hz2] at HG
    clear hz hz2 HP HC
    go_wp2_with (go_at_call 27; refine (HG.out _).mono ?_; rintro e w' ⟨rfl, rfl⟩)
    go_ret
    exact ⟨rfl, hb4.alloc hb4.size _⟩
set_option maxRecDepth 100000 in
theorem lifted_LabelNot (os : Os) (started : os.Started) (H : Type) (enc : TypeId × Value → H) :
    ReturnsInHanded {} Try.checked os 7 .any (Rows.labelNotSpec.pre6 enc Try.prog Try.f7 Rows.labelNotRow.domain false) (Rows.labelNotSpec.post enc Try.prog Try.f7 false true false false) := by
  refine returnsInHanded_of_change_shaped (C := Try.checked) own started (by kernel_rfl) Try.func7
    (ChangeSpec.witness6 (enc := enc) (C := Try.checked) false ⟨#[], #[.slice none 0 0, .agg #[.int .i64 0, .string ⟨#[]⟩, .string ⟨#[]⟩], .agg #[.int .i64 0, .string ⟨#[]⟩, .string ⟨#[]⟩]], []⟩ 8 (by kernel_rfl) (by kernel_rfl) (by kernel_rfl) (by kernel_rfl)) ?_
  intro W base args ds gs before hval0 hW hcnd hsz0 hsh _
  obtain ⟨mx, hmx0⟩ := Try.laysM144.s1_3 W hsh
  have hmx : W.cell? ⟨0, 0, none⟩ = some (.int .i64 mx) := hmx0
  have hsz : (DataW.weightsEach Try.prog (Try.f7.params.toList ++ Rows.labelNotSpec.plain.varTypes Try.prog) (ds ++ gs)).all (· ≤ reachBytes) = true := hsz0
  have hval : ∀ (j : Nat) t v, Try.f7.params[j]? = some t → args[j]? = some v → Value.okWide Try.prog W .any base t v := hval0
  have hW' := hW
  obtain ⟨p, q, hA0, hV, rfl, hfz, hnd⟩ := hW
  have hA : DataW.TrodAll enc Try.prog W 0 (fun _ => true) true Try.f7.params.toList args.toList ds p := hA0
  rw [Try.params7] at hA hval hsz
  obtain ⟨v0, vs0, d0, ds0, p0, q0, hargs, rfl, rfl, h0, r0⟩ := trodAll_cons hA
  obtain ⟨v1, vs1, d1, ds1, p1, q1, rfl, rfl, rfl, h1, r1⟩ := trodAll_cons r0
  obtain ⟨v2, vs2, d2, ds2, p2, q2, rfl, rfl, rfl, h2, r2⟩ := trodAll_cons r1
  obtain ⟨rfl, rfl, rfl⟩ := trodAll_nil r2
  obtain rfl : args = #[v0, v1, v2] := by cases args; simp_all
  obtain ⟨rfl, rfl⟩ := trodVars_none hV
  have k0 := h0
  have lt0 : ∀ x ∈ p0, x.block < W.heap.size := by obtain ⟨m, hm⟩ := k0; exact DataW.trod_lt m _ _ _ hm
  obtain ⟨s0, len0, cap0, rfl⟩ := okWide_slice Try.underlying22 (hval 0 22 v0 rfl rfl)
  obtain ⟨l0, row0, wf0, sh0⟩ := open_labels h0
  have rc0 := row_reachN hsz (j := 0) (t := 22) rfl rfl Try.underlying22 sh0
  rw [bytes58] at rc0
  have k1 := h1
  have lt1 : ∀ x ∈ p1, x.block < W.heap.size := by obtain ⟨m, hm⟩ := k1; exact DataW.trod_lt m _ _ _ hm
  obtain ⟨x1, rfl, wf1⟩ := open_match (hval 1 49 v1 rfl rfl) h1
  have k2 := h2
  have lt2 : ∀ x ∈ p2, x.block < W.heap.size := by obtain ⟨m, hm⟩ := k2; exact DataW.trod_lt m _ _ _ hm
  obtain ⟨x2, rfl, wf2⟩ := open_match (hval 2 49 v2 rfl rfl) h2
  clear hA0 hval0
  refine (walk_LabelNot (.slice s0 len0 cap0) l0 x1 x2 W row0 wf0 rc0 wf1 wf2 mx hmx).mono fun e W' ⟨he, bel⟩ => ?_
  subst he
  exact ⟨_, rfl, _, _, _, [], _, [], hW', trodAll_mk1 (shut_bool Try.underlying4 _), (trodAll_cons_mk (Below.trod laidOut (by kernel_rfl) (of_decide_eq_true (by kernel_rfl)) k0 bel lt0) (trodAll_cons_mk (Below.trod laidOut (by kernel_rfl) (of_decide_eq_true (by kernel_rfl)) k1 bel lt1) (trodAll_cons_mk (Below.trod laidOut (by kernel_rfl) (of_decide_eq_true (by kernel_rfl)) k2 bel lt2) trodAll_mk0))), rfl, bel.frame _, fun h => by cases h⟩

theorem proved_LabelNot : Rows.LabelNotSaid :=
  OpenClaim.holds_of_wide 7 Try.f7 rfl rfl rfl rfl rfl rfl rfl ⟨rfl, rfl, rfl, rfl, rfl⟩ rfl rfl rfl rfl rfl (by kernel_rfl) Try.func7 (by kernel_rfl)
    (of_decide_eq_true (by kernel_rfl)) (by unfold Func.isWrapper; first | (rw [if_pos (by decide +kernel)]; kernel_rfl) | (rw [if_neg (by decide +kernel)]; exact ⟨rfl, rfl⟩))
    (fun os started H enc _ => lifted_LabelNot os started H enc)
#print axioms proved_LabelNot
end Go.Proofs.Ythdccpgjiogiaaa
