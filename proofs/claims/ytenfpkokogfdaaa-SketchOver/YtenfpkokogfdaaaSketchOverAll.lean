/- SketchOver holds: at all inputs the law answers true and changes nothing that was there. -/
import Derived.Test.YtenfpkokogfdaaaSkTmAll
namespace Go.Proofs.Ytenfpkokogfdaaa
open Go.ChangeShapes Go.WideShapes Go.ChangeAt Go.RowKit
set_option linter.unusedVariables false
set_option maxRecDepth 100000 in
set_option maxHeartbeats 2000000 in
theorem walk_SketchOver (d x : Int) (v : Value) (l : List ByteArray) (q : ByteArray) (w : World) (d0 : -9223372036854775808 ≤ d) (d1 : d ≤ 9223372036854775807) (x0 : -9223372036854775808 ≤ x) (x1 : x ≤ 9223372036854775807) (hr : RowT w v l) (hl : TxOk l) (hln : l.length * 16 ≤ 140737488351232) (hq : q.size ≤ 140737488351232) :
    Calls Try.prog 5 #[.int .i64 d, .int .i64 x, v, .string q] w fun e w' => e = .returned (.bool true) ∧ Below w.heap.size w w' := by
  have HSk := hide (sketches_any w)
  have HTm := hide (fun wx (hb : Below w.heap.size w wx) => times_any v l q wx (hr.below hb (Nat.le_refl _)) (by omega))
  cases ha : P.arB d x with
  | false =>
    have HBd := hide (fun wx (hb : Below w.heap.size w wx) => sketched_bad d x v l wx ha (hr.below hb (Nat.le_refl _)))
    have HOd := hide (fun wx => odd_yes d x wx ha)
    obtain ⟨av, cv, rfl⟩ := hr.shp
    clear hr ha HTm
    go_enter Try.func5, Try.ntmps5
    go_wp2_with first
      | (go_at_call 18; go_must (refine HSk.out.mono ?_); rintro e w1 ⟨rfl, hb1⟩)
      | (go_at_call 19; go_must (refine (HBd.out _ hb1).mono ?_); rintro e w2 ⟨rfl, hb2⟩; have HB2 := hide ((Below.next hb1 hb2).alloc (Below.next hb1 hb2).size (.cells #[.int .i64 0, .int .i64 0, .slice none 0 0, .int .i64 0] 24)))
      | (go_at_call 20; go_must (refine (HOd.out _).mono ?_); rintro e w3 ⟨rfl, rfl⟩)
    go_ret
    exact ⟨rfl, HB2.out⟩
  | true =>
    unfold P.arB at ha
    simp at ha
    obtain ⟨D, rfl⟩ : ∃ D : Nat, d = D := ⟨d.toNat, by omega⟩
    obtain ⟨X, rfl⟩ : ∃ X : Nat, x = X := ⟨x.toNat, by omega⟩
    have HKd := hide (fun wx (hb : Below w.heap.size w wx) => sketched_ok D X v l wx (by omega) (by omega) (by omega) (by omega) (hr.below hb (Nat.le_refl _)) hl (by omega))
    have HHc := hide (fun i y => P.hc_lt (w := X) (by omega) i y)
    have hln2 : (l.length : Int) ≤ 9223372036854775807 := by omega
    obtain ⟨av, cv, rfl⟩ := hr.shp
    clear hr hl ha d0 d1 x0 x1
    go_enter Try.func5, Try.ntmps5
    go_upto_region 6 with first
      | (go_at_call 18; go_must (refine HSk.out.mono ?_); rintro e w1 ⟨rfl, hb1⟩)
      | (go_at_call 19; go_must (refine (HKd.out _ hb1).mono ?_); rintro e w2 ⟨v', S, rfl, own2, rep2, hSd, hSw, hb2⟩; obtain ⟨xa, xc, rfl⟩ := own2.shape; have HSd := hide hSd; have HSw := hide hSw; have HRep := hide rep2; have HOw := hide own2; have HB2 := hide (Below.next hb1 hb2); clear hSd hSw rep2 own2 hb1 hb2)
    have HB3 := hide (HB2.out.alloc HB2.out.size (.cells #[.int .i64 S.d, .int .i64 S.w, .slice xa S.c.length xc, .int .i64 S.n] 24))
    have HX : Hid (BoxK (w2.alloc (.cells #[.int .i64 S.d, .int .i64 S.w, .slice xa S.c.length xc, .int .i64 S.n] 24)) w2.heap.size (.slice xa S.c.length xc) S) := BoxK.new w2 _ S
    have HR := hide ((OwnK.row HOw.out).below ((Below.refl w2.heap.size w2).alloc (Nat.le_refl _) (.cells #[.int .i64 S.d, .int .i64 S.w, .slice xa S.c.length xc, .int .i64 S.n] 24)) (Nat.le_refl _))
    generalize w2.alloc (.cells #[.int .i64 S.d, .int .i64 S.w, .slice xa S.c.length xc, .int .i64 S.n] 24) = W3 at *
    have HCo := hide (Count_ok (.slice xa S.c.length xc) S q W3 HR.out HRep.out.good (by omega))
    have HCk : Hid (∀ wx, Below W3.heap.size W3 wx → Calls Try.prog 14 #[.agg #[.int .i64 S.d, .int .i64 S.w, .slice xa S.c.length xc, .int .i64 S.n]] wx fun e w' => e = .returned (.int .i64 0) ∧ Below wx.heap.size wx w') := fun wx h => by
      have := Check_any _ S.raw wx (HR.out.below h (Nat.le_refl _)) HRep.out.good.rwI
      rw [P.chk_raw HRep.out.good] at this; exact this
    have t1 : P.cnt l q ≤ P.tell S q := by
      have := HRep.out.over (fun i y _ => by rw [HSw.out]; exact HHc.out i y) q S.d (Nat.le_refl _)
      unfold P.tell P.cnt
      rw [HSw.out]; exact this
    have t2 : P.tell S q ≤ S.n := (P.least_bound HRep.out.good (h := fun i => P.hc S.w i q) (fun i _ => by rw [HSw.out]; exact HHc.out i q) S.d (Nat.le_refl _)).2
    have HN := hide HRep.out.n
    have t3 : decide (P.cnt l q ≤ P.tell S q) = true := by simpa using t1
    have t4 : decide (P.tell S q ≤ S.n) = true := by simpa using t2
    have t5 : (S.n == (l.length : Int)) = true := by rw [beq_iff_eq]; exact HN.out
    obtain ⟨c0, c1, c2, c3⟩ := HX.out.cells
    generalize P.tell S q = tl at *
    generalize P.cnt l q = ct at *
    clear HKd HHc t1 t2 HN
    go_upto_region 7 with fail
    refine HCo.out.mono ?_
    rintro e w4 ⟨rfl, hb4⟩
    replace c0 := keep_cell c0 hb4; replace c1 := keep_cell c1 hb4; replace c2 := keep_cell c2 hb4; replace c3 := keep_cell c3 hb4
    have HB4 := hide (Below.next HB3.out hb4)
    have HTm4 := hide (HTm.out w4 HB4.out)
    have HCk4 := hide (HCk.out w4 hb4)
    clear HB3 HB2 HTm HCk hb4 HCo HX HR
    go_wp2_with first
      | (go_at_call 21; go_must (refine HTm4.out.mono ?_); rintro e w5 ⟨rfl, rfl⟩)
      | (go_at_call 14; go_must (refine HCk4.out.mono ?_); rintro e w5 ⟨rfl, hb5⟩; have HB5 := hide (Below.next HB4.out hb5); clear hb5)
    go_ret
    exact ⟨rfl, HB5.out⟩
set_option maxRecDepth 100000 in
theorem lifted_SketchOver (os : Os) (started : os.Started) (H : Type) (enc : TypeId × Value → H) :
    ReturnsInHanded {} Try.checked os 5 .any (Rows.sketchOverSpec.pre6 enc Try.prog Try.f5 Rows.sketchOverRow.domain false) (Rows.sketchOverSpec.post enc Try.prog Try.f5 false true false false) := by
  refine returnsInHanded_of_change_sized (C := Try.checked) own started (by kernel_rfl) Try.func5
    (ChangeSpec.witness6 (enc := enc) (C := Try.checked) false ⟨#[], #[.int .i64 0, .int .i64 0, .slice none 0 0, .string ⟨#[]⟩], []⟩ 8 (by kernel_rfl) (by kernel_rfl) (by kernel_rfl) (by kernel_rfl)) ?_
  intro W base args ds gs before hval0 hW hcnd hsz0  _
  have hsz : (DataW.weightsEach Try.prog (Try.f5.params.toList ++ Rows.sketchOverSpec.plain.varTypes Try.prog) (ds ++ gs)).all (· ≤ reachBytes) = true := hsz0
  have hval : ∀ (j : Nat) t v, Try.f5.params[j]? = some t → args[j]? = some v → Value.okWide Try.prog W .any base t v := hval0
  have hW' := hW
  obtain ⟨p, q, hA0, hV, rfl, hfz, hnd⟩ := hW
  have hA : DataW.TrodAll enc Try.prog W 0 (fun _ => true) true Try.f5.params.toList args.toList ds p := hA0
  rw [Try.params5] at hA hval hsz
  obtain ⟨v0, vs0, d0, ds0, p0, q0, hargs, rfl, rfl, h0, r0⟩ := trodAll_cons hA
  obtain ⟨v1, vs1, d1, ds1, p1, q1, rfl, rfl, rfl, h1, r1⟩ := trodAll_cons r0
  obtain ⟨v2, vs2, d2, ds2, p2, q2, rfl, rfl, rfl, h2, r2⟩ := trodAll_cons r1
  obtain ⟨v3, vs3, d3, ds3, p3, q3, rfl, rfl, rfl, h3, r3⟩ := trodAll_cons r2
  obtain ⟨rfl, rfl, rfl⟩ := trodAll_nil r3
  obtain rfl : args = #[v0, v1, v2, v3] := by cases args; simp_all
  obtain ⟨rfl, rfl⟩ := trodVars_none hV
  have k0 := h0
  have lt0 : ∀ x ∈ p0, x.block < W.heap.size := by obtain ⟨m, hm⟩ := k0; exact DataW.trod_lt m _ _ _ hm
  obtain ⟨a0, rfl, rfl, rfl, w0⟩ := open_int Try.underlying3 (hval 0 3 v0 rfl rfl) h0
  have b0 := bounds_i64 w0
  have k1 := h1
  have lt1 : ∀ x ∈ p1, x.block < W.heap.size := by obtain ⟨m, hm⟩ := k1; exact DataW.trod_lt m _ _ _ hm
  obtain ⟨a1, rfl, rfl, rfl, w1⟩ := open_int Try.underlying3 (hval 1 3 v1 rfl rfl) h1
  have b1 := bounds_i64 w1
  have k2 := h2
  have lt2 : ∀ x ∈ p2, x.block < W.heap.size := by obtain ⟨m, hm⟩ := k2; exact DataW.trod_lt m _ _ _ hm
  obtain ⟨s2, len2, cap2, rfl⟩ := okWide_slice Try.underlying37 (hval 2 37 v2 rfl rfl)
  obtain ⟨l2, row2, wf2, sh2⟩ := open_texts h2
  have rc2 := row_reachN hsz (j := 2) (t := 37) rfl rfl Try.underlying37 sh2
  rw [bytes9] at rc2
  have k3 := h3
  have lt3 : ∀ x ∈ p3, x.block < W.heap.size := by obtain ⟨m, hm⟩ := k3; exact DataW.trod_lt m _ _ _ hm
  obtain ⟨x3, rfl, rfl, rfl, ws3⟩ := Go.ChangeMaps.open_string Try.underlying9 (hval 3 9 v3 rfl rfl) h3
  have rc3 : x3.size ≤ 140737488351232 := by rw [Lib.size_eq]; exact sized_string hsz (j := 3) (t := 9) rfl rfl
  clear hA0 hval0
  refine (walk_SketchOver a0 a1 (.slice s2 len2 cap2) l2 x3 W b0.1 b0.2 b1.1 b1.2 row2 wf2 rc2 rc3).mono fun e W' ⟨he, bel⟩ => ?_
  subst he
  exact ⟨_, rfl, _, _, _, [], _, [], hW', trodAll_mk1 (shut_bool Try.underlying4 _), (trodAll_cons_mk (Below.trod laidOut (by kernel_rfl) (of_decide_eq_true (by kernel_rfl)) k0 bel lt0) (trodAll_cons_mk (Below.trod laidOut (by kernel_rfl) (of_decide_eq_true (by kernel_rfl)) k1 bel lt1) (trodAll_cons_mk (Below.trod laidOut (by kernel_rfl) (of_decide_eq_true (by kernel_rfl)) k2 bel lt2) (trodAll_cons_mk (Below.trod laidOut (by kernel_rfl) (of_decide_eq_true (by kernel_rfl)) k3 bel lt3) trodAll_mk0)))), rfl, bel.frame _, fun h => by cases h⟩

theorem proved_SketchOver : Rows.SketchOverSaid :=
  OpenClaim.holds_of_wide 5 Try.f5 rfl rfl rfl rfl rfl rfl rfl ⟨rfl, rfl, rfl, rfl, rfl⟩ rfl rfl rfl rfl rfl (by kernel_rfl) Try.func5 (by kernel_rfl)
    (of_decide_eq_true (by kernel_rfl)) (by unfold Func.isWrapper; first | (rw [if_pos (by decide +kernel)]; kernel_rfl) | (rw [if_neg (by decide +kernel)]; exact ⟨rfl, rfl⟩))
    (fun os started H enc _ => lifted_SketchOver os started H enc)
#print axioms proved_SketchOver
end Go.Proofs.Ytenfpkokogfdaaa
