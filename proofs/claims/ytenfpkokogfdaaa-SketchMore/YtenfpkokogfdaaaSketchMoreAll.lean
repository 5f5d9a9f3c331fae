/- SketchMore holds: at all inputs the law answers true and changes nothing that was there. -/
import Derived.Test.YtenfpkokogfdaaaSkZAll
import Derived.Test.YtenfpkokogfdaaaGoodAll
namespace Go.Proofs.Ytenfpkokogfdaaa
open Go.ChangeShapes Go.WideShapes Go.ChangeAt Go.RowKit
set_option linter.unusedVariables false
/-- Four errors, none of them one, in a new row. -/
theorem row_four_zeros (w : World) (t : TypeId) : RowK .i64 (w.alloc (.cells #[.int .i64 0, .int .i64 0, .int .i64 0, .int .i64 0] t)) (.slice (some ⟨w.heap.size, 0, none⟩) 4 4) (List.replicate 4 0) := by
  refine ⟨_, 4, rfl, ⟨by simp, by decide, fun h => by cases h⟩, .inr ⟨w.heap.size, 0, rfl, by simp, fun j hj => ?_⟩⟩
  match j, hj with
  | 0, _ => simp
  | 1, _ => simp
  | 2, _ => simp
  | 3, _ => simp
set_option maxRecDepth 100000 in
set_option maxHeartbeats 4000000 in
theorem more_good (cv : Value) (S : P.Sk) (q r : ByteArray) (m : Int) (w : World) (hr : RowK .i64 w cv S.c) (hS : P.SkGood S) (hq : q.size ≤ 140737488351232) (hrr : r.size ≤ 140737488351232) (hm2 : 0 ≤ m) (hm3 : S.n + m ≤ 1152921504606846976) :
    Calls Try.prog 8 #[aggK cv S, .string q, .string r, .int .i64 m] w fun e w' => e = .returned (.bool true) ∧ Below w.heap.size w w' := by
  have HB := hide ((Below.refl w.heap.size w).alloc (Nat.le_refl _) (.cells #[.int .i64 S.d, .int .i64 S.w, cv, .int .i64 S.n] 24))
  have HX : Hid (BoxK (w.alloc (.cells #[.int .i64 S.d, .int .i64 S.w, cv, .int .i64 S.n] 24)) w.heap.size cv S) := BoxK.new w cv S
  have HSk := hide (fun wx => sketches_any wx)
  have HGd := hide (fun v wx h => good_zeros v 4 wx h)
  have hg1 := P.adS_good hS q hm2 hm3
  have ht1 := P.tell_same hS q m
  have ht2 := P.tell_other hS q r hm2
  have hb1 := P.tell_bound hS q
  have hb2 := P.tell_bound hS r
  have hn1 := hS.n1
  have HCo := hide (fun q wx (h : Below w.heap.size w wx) (hz : q.size ≤ 9223372036854775807) => Count_ok cv S q wx (hr.below h (Nat.le_refl _)) hS hz)
  have HAd := hide (fun wx (h : Below w.heap.size w wx) => Add_ok cv S q m wx (hr.below h (Nat.le_refl _)) hS hm2 hm3 (by omega))
  have HCt := hide (fun v q0 wx (h : RowK .i64 wx v (P.adS S q m).c) (hz : q0.size ≤ 9223372036854775807) => Count_ok v (P.adS S q m) q0 wx h hg1 hz)
  have e1 : IntKind.i64.wrap (P.tell S q + m) = P.tell S q + m := by rw [IntKind.wrap_i64]; omega
  have e2 : IntKind.i64.wrap (P.tell S r + m) = P.tell S r + m := by rw [IntKind.wrap_i64]; omega
  have t1 : (P.tell (P.adS S q m) q == P.tell S q + m) = true := by rw [beq_iff_eq]; exact ht1
  have t2 : decide (P.tell S r ≤ P.tell (P.adS S q m) r) = true := by simpa using ht2.1
  have t3 : decide (P.tell (P.adS S q m) r ≤ P.tell S r + m) = true := by simpa using ht2.2
  obtain ⟨av, cap, rfl⟩ := hr.shp
  clear hr hS ht1 ht2 hb1 hb2 hg1 hm2 hm3
  go_enter Try.func8, Try.ntmps8
  go_upto_region 1 with fail
  generalize w.alloc (.cells #[.int .i64 S.d, .int .i64 S.w, .slice av S.c.length cap, .int .i64 S.n] 24) = W1 at *
  obtain ⟨x0, x1, x2, x3⟩ := HX.out.cells
  clear HX
  go_upto_region 3 with (go_at_call 18; go_must (refine (HSk.out _).mono ?_); rintro e w2 ⟨rfl, hb2⟩)
  have HB2 := hide (Below.next HB.out hb2)
  replace x0 := keep_cell x0 hb2; replace x1 := keep_cell x1 hb2; replace x2 := keep_cell x2 hb2; replace x3 := keep_cell x3 hb2
  clear HB hb2
  have H3 := hide (HCo.out q w2 HB2.out (by omega))
  go_upto_region 4 with (go_at_call 11; go_must (refine H3.out.mono ?_); rintro e w3 ⟨rfl, hb3⟩)
  have HB3 := hide (Below.next HB2.out hb3)
  replace x0 := keep_cell x0 hb3; replace x1 := keep_cell x1 hb3; replace x2 := keep_cell x2 hb3; replace x3 := keep_cell x3 hb3
  clear HB2 hb3 H3
  have H4 := hide (HCo.out r w3 HB3.out (by omega))
  go_upto_region 5 with (go_at_call 11; go_must (refine H4.out.mono ?_); rintro e w4 ⟨rfl, hb4⟩)
  have HB4 := hide (Below.next HB3.out hb4)
  replace x0 := keep_cell x0 hb4; replace x1 := keep_cell x1 hb4; replace x2 := keep_cell x2 hb4; replace x3 := keep_cell x3 hb4
  clear HB3 hb4 H4 HCo
  have HA5 := hide (HAd.out w4 HB4.out)
  clear HAd
  generalize hT : P.adS S q m = T at *
  have HT := hide hT
  clear hT
  go_upto_region 8 with (go_at_call 10; go_must (refine HA5.out.mono ?_); rintro e w5 ⟨v5, rfl, own5, hb5⟩; obtain ⟨a5, c5, rfl⟩ := own5.shape)
  have HB5 := hide ((Below.next HB4.out hb5).alloc (Below.next HB4.out hb5).size (.cells #[.int .i64 T.d, .int .i64 T.w, .slice a5 T.c.length c5, .int .i64 T.n] 24))
  have HX5 : Hid (BoxK (w5.alloc (.cells #[.int .i64 T.d, .int .i64 T.w, .slice a5 T.c.length c5, .int .i64 T.n] 24)) w5.heap.size (.slice a5 T.c.length c5) T) := BoxK.new w5 _ T
  have HR5 := hide ((OwnK.row own5).below ((Below.refl w5.heap.size w5).alloc (Nat.le_refl _) (.cells #[.int .i64 T.d, .int .i64 T.w, .slice a5 T.c.length c5, .int .i64 T.n] 24)) (Nat.le_refl _))
  clear HB4 hb5 own5 HA5 x0 x1 x2 x3
  generalize w5.alloc (.cells #[.int .i64 T.d, .int .i64 T.w, .slice a5 T.c.length c5, .int .i64 T.n] 24) = W6 at *
  obtain ⟨x0, x1, x2, x3⟩ := HX5.out.cells
  have H8 := hide (HCt.out _ q W6 HR5.out (by omega))
  have H9 := hide (fun wx (hb : Below W6.heap.size W6 wx) => HCt.out _ r wx (HR5.out.below hb (Nat.le_refl _)) (by omega))
  clear HCt HX5
  go_upto_region 9 with (go_at_call 11; go_must (refine H8.out.mono ?_); rintro e w7 ⟨rfl, hb7⟩)
  have HB7 := hide (Below.next HB5.out hb7)
  replace x0 := keep_cell x0 hb7; replace x1 := keep_cell x1 hb7; replace x2 := keep_cell x2 hb7; replace x3 := keep_cell x3 hb7
  have H9b := hide (H9.out w7 hb7)
  clear hb7 H8 H9 HB5
  go_upto_region 10 with (go_at_call 11; go_must (refine H9b.out.mono ?_); rintro e w8 ⟨rfl, hb8⟩)
  have HB8 := hide ((Below.next HB7.out hb8).alloc (Below.next HB7.out hb8).size (.cells #[.int .i64 0, .int .i64 0, .int .i64 0, .int .i64 0] 25))
  have HG8 := hide (HGd.out _ _ (row_four_zeros w8 25))
  clear HB7 hb8 H9b x0 x1 x2 x3 HGd HT
  generalize P.tell T q = ta at *
  generalize P.tell T r = tb at *
  generalize P.tell S q = tc at *
  generalize P.tell S r = td at *
  go_wp2_with (go_at_call 23; go_must (refine HG8.out.mono ?_); rintro e w9 ⟨rfl, rfl⟩)
  go_ret
  exact ⟨rfl, HB8.out⟩
set_option maxRecDepth 100000 in
set_option maxHeartbeats 4000000 in
theorem walk_SketchMore (cv : Value) (s : P.Rw) (q r : ByteArray) (m : Int) (w : World) (hr : RowK .i64 w cv s.c) (hi : RwI s) (hq : q.size ≤ 140737488351232) (hrr : r.size ≤ 140737488351232) (hm0 : -9223372036854775808 ≤ m) (hm1 : m ≤ 9223372036854775807) :
    Calls Try.prog 8 #[aggS cv s, .string q, .string r, .int .i64 m] w fun e w' => e = .returned (.bool true) ∧ Below w.heap.size w w' := by
  have HB := hide ((Below.refl w.heap.size w).alloc (Nat.le_refl _) (.cells #[.int .i64 s.d, .int .i64 s.w, cv, .int .i64 s.n] 24))
  have HX : Hid ((w.alloc (.cells #[.int .i64 s.d, .int .i64 s.w, cv, .int .i64 s.n] 24)).heap[w.heap.size]? = some (.cells #[.int .i64 s.d, .int .i64 s.w, cv, .int .i64 s.n] 24 (0, 0))) := heap_alloc_new w _
  have HSk := hide (fun wx => sketches_any wx)
  have HZr := hide (fun wx => sameZero wx)
  have HRow := hide (fun wx (h : Below w.heap.size w wx) => hr.below h (Nat.le_refl _))
  rcases Add_cases cv s m w hr hi hm0 hm1 with ⟨E, hE, hE2, hAdd⟩ | ⟨S, hS, rfl, hm2, hm3⟩
  · have HAdd := hide hAdd
    have HCo := hide (fun q wx (h : Below w.heap.size w wx) (hz : q.size ≤ 9223372036854775807) => Count_some cv s q wx (HRow.out wx h) hi hz)
    have hEb : (E != 0) = true := by rw [bne_iff_ne]; exact hE
    obtain ⟨av, cap, rfl⟩ := hr.shp
    clear hr hi hAdd hE HRow
    go_enter Try.func8, Try.ntmps8
    go_upto_region 1 with fail
    generalize w.alloc (.cells #[.int .i64 s.d, .int .i64 s.w, .slice av s.c.length cap, .int .i64 s.n] 24) = W1 at *
    have gx : W1.cell? ⟨w.heap.size, 0, none⟩ = some (.int .i64 s.d) ∧ W1.cell? ⟨w.heap.size, 1, none⟩ = some (.int .i64 s.w) ∧ W1.cell? ⟨w.heap.size, 2, none⟩ = some (.slice av s.c.length cap) ∧ W1.cell? ⟨w.heap.size, 3, none⟩ = some (.int .i64 s.n) := by have := HX.out; simp [World.cell?, this]
    obtain ⟨x0, x1, x2, x3⟩ := gx
    clear HX
    go_upto_region 3 with (go_at_call 18; go_must (refine (HSk.out _).mono ?_); rintro e w2 ⟨rfl, hb2⟩)
    have HB2 := hide (Below.next HB.out hb2)
    replace x0 := keep_cell x0 hb2; replace x1 := keep_cell x1 hb2; replace x2 := keep_cell x2 hb2; replace x3 := keep_cell x3 hb2
    clear HB hb2
    obtain ⟨n3, E3, h3⟩ := HCo.out q w2 HB2.out (by omega)
    have H3 := hide h3
    clear h3
    go_upto_region 4 with (go_at_call 11; go_must (refine H3.out.mono ?_); rintro e w3 ⟨rfl, hb3⟩)
    have HB3 := hide (Below.next HB2.out hb3)
    replace x0 := keep_cell x0 hb3; replace x1 := keep_cell x1 hb3; replace x2 := keep_cell x2 hb3; replace x3 := keep_cell x3 hb3
    clear HB2 hb3 H3
    obtain ⟨n4, E4, h4⟩ := HCo.out r w3 HB3.out (by omega)
    have H4 := hide h4
    clear h4
    go_upto_region 5 with (go_at_call 11; go_must (refine H4.out.mono ?_); rintro e w4 ⟨rfl, hb4⟩)
    have HB4 := hide (Below.next HB3.out hb4)
    replace x0 := keep_cell x0 hb4; replace x1 := keep_cell x1 hb4; replace x2 := keep_cell x2 hb4; replace x3 := keep_cell x3 hb4
    clear HB3 hb4 H4 HCo
    have HA5 := hide (HAdd.out q w4 HB4.out)
    go_wp2_with first
      | (go_at_call 10; go_must (refine HA5.out.mono ?_); rintro e w5 ⟨rfl, hb5⟩; have HB5 := hide ((Below.next HB4.out hb5).alloc (Below.next HB4.out hb5).size (.cells #[.int .i64 0, .int .i64 0, .slice none 0 0, .int .i64 0] 24)); clear hb5)
      | (go_at_call 24; go_must (refine (HZr.out _).mono ?_); rintro e w6 ⟨rfl, hb6⟩; have HB6 := hide (Below.next HB5.out hb6); clear hb6)
    go_ret
    exact ⟨rfl, HB6.out⟩
  · exact more_good cv S q r m w hr hS hq hrr hm2 hm3
set_option maxRecDepth 100000 in
theorem lifted_SketchMore (os : Os) (started : os.Started) (H : Type) (enc : TypeId × Value → H) :
    ReturnsInHanded {} Try.checked os 8 .any (Rows.sketchMoreSpec.pre6 enc Try.prog Try.f8 Rows.sketchMoreRow.domain false) (Rows.sketchMoreSpec.post enc Try.prog Try.f8 false true false false) := by
  refine returnsInHanded_of_change_sized (C := Try.checked) own started (by kernel_rfl) Try.func8
    (ChangeSpec.witness6 (enc := enc) (C := Try.checked) false ⟨#[], #[.agg #[.int .i64 0, .int .i64 0, .slice none 0 0, .int .i64 0], .string ⟨#[]⟩, .string ⟨#[]⟩, .int .i64 0], []⟩ 8 (by kernel_rfl) (by kernel_rfl) (by kernel_rfl) (by kernel_rfl)) ?_
  intro W base args ds gs before hval0 hW hcnd hsz0  _
  have hsz : (DataW.weightsEach Try.prog (Try.f8.params.toList ++ Rows.sketchMoreSpec.plain.varTypes Try.prog) (ds ++ gs)).all (· ≤ reachBytes) = true := hsz0
  have hval : ∀ (j : Nat) t v, Try.f8.params[j]? = some t → args[j]? = some v → Value.okWide Try.prog W .any base t v := hval0
  have hW' := hW
  obtain ⟨p, q, hA0, hV, rfl, hfz, hnd⟩ := hW
  have hA : DataW.TrodAll enc Try.prog W 0 (fun _ => true) true Try.f8.params.toList args.toList ds p := hA0
  rw [Try.params8] at hA hval hsz
  obtain ⟨v0, vs0, d0, ds0, p0, q0, hargs, rfl, rfl, h0, r0⟩ := trodAll_cons hA
  obtain ⟨v1, vs1, d1, ds1, p1, q1, rfl, rfl, rfl, h1, r1⟩ := trodAll_cons r0
  obtain ⟨v2, vs2, d2, ds2, p2, q2, rfl, rfl, rfl, h2, r2⟩ := trodAll_cons r1
  obtain ⟨v3, vs3, d3, ds3, p3, q3, rfl, rfl, rfl, h3, r3⟩ := trodAll_cons r2
  obtain ⟨rfl, rfl, rfl⟩ := trodAll_nil r3
  obtain rfl : args = #[v0, v1, v2, v3] := by cases args; simp_all
  obtain ⟨rfl, rfl⟩ := trodVars_none hV
  have k0 := h0
  have lt0 : ∀ x ∈ p0, x.block < W.heap.size := by obtain ⟨m, hm⟩ := k0; exact DataW.trod_lt m _ _ _ hm
  obtain ⟨cv0, x0, rfl, rk0, ri0⟩ := open_sketch (hval 0 24 v0 rfl rfl) h0
  have k1 := h1
  have lt1 : ∀ x ∈ p1, x.block < W.heap.size := by obtain ⟨m, hm⟩ := k1; exact DataW.trod_lt m _ _ _ hm
  obtain ⟨x1, rfl, rfl, rfl, ws1⟩ := Go.ChangeMaps.open_string Try.underlying9 (hval 1 9 v1 rfl rfl) h1
  have rc1 : x1.size ≤ 140737488351232 := by rw [Lib.size_eq]; exact sized_string hsz (j := 1) (t := 9) rfl rfl
  have k2 := h2
  have lt2 : ∀ x ∈ p2, x.block < W.heap.size := by obtain ⟨m, hm⟩ := k2; exact DataW.trod_lt m _ _ _ hm
  obtain ⟨x2, rfl, rfl, rfl, ws2⟩ := Go.ChangeMaps.open_string Try.underlying9 (hval 2 9 v2 rfl rfl) h2
  have rc2 : x2.size ≤ 140737488351232 := by rw [Lib.size_eq]; exact sized_string hsz (j := 2) (t := 9) rfl rfl
  have k3 := h3
  have lt3 : ∀ x ∈ p3, x.block < W.heap.size := by obtain ⟨m, hm⟩ := k3; exact DataW.trod_lt m _ _ _ hm
  obtain ⟨a3, rfl, rfl, rfl, w3⟩ := open_int Try.underlying2 (hval 3 2 v3 rfl rfl) h3
  have b3 := bounds_i64 w3
  clear hA0 hval0
  refine (walk_SketchMore cv0 x0 x1 x2 a3 W rk0 ri0 rc1 rc2 b3.1 b3.2).mono fun e W' ⟨he, bel⟩ => ?_
  subst he
  exact ⟨_, rfl, _, _, _, [], _, [], hW', trodAll_mk1 (shut_bool Try.underlying4 _), (trodAll_cons_mk (Below.trod laidOut (by kernel_rfl) (of_decide_eq_true (by kernel_rfl)) k0 bel lt0) (trodAll_cons_mk (Below.trod laidOut (by kernel_rfl) (of_decide_eq_true (by kernel_rfl)) k1 bel lt1) (trodAll_cons_mk (Below.trod laidOut (by kernel_rfl) (of_decide_eq_true (by kernel_rfl)) k2 bel lt2) (trodAll_cons_mk (Below.trod laidOut (by kernel_rfl) (of_decide_eq_true (by kernel_rfl)) k3 bel lt3) trodAll_mk0)))), rfl, bel.frame _, fun h => by cases h⟩

theorem proved_SketchMore : Rows.SketchMoreSaid :=
  OpenClaim.holds_of_wide 8 Try.f8 rfl rfl rfl rfl rfl rfl rfl ⟨rfl, rfl, rfl, rfl, rfl⟩ rfl rfl rfl rfl rfl (by kernel_rfl) Try.func8 (by kernel_rfl)
    (of_decide_eq_true (by kernel_rfl)) (by unfold Func.isWrapper; first | (rw [if_pos (by decide +kernel)]; kernel_rfl) | (rw [if_neg (by decide +kernel)]; exact ⟨rfl, rfl⟩))
    (fun os started H enc _ => lifted_SketchMore os started H enc)
#print axioms proved_SketchMore
end Go.Proofs.Ytenfpkokogfdaaa
