/- SketchOften holds: at all inputs the law answers true and changes nothing that was there. -/
import Derived.Test.YtenfpkokogfdaaaSkZAll
namespace Go.Proofs.Ytenfpkokogfdaaa
open Go.ChangeShapes Go.WideShapes Go.ChangeAt Go.RowKit
set_option linter.unusedVariables false
namespace P
theorem adS_zero (S : Sk) (q : ByteArray) : adS S q 0 = S := skAdd_zero _
theorem adS_succ (S : Sk) (q : ByteArray) (k : Nat) : adS (adS S q k) q 1 = adS S q ((k + 1 : Nat) : Int) := by
  unfold adS
  have := skAdd_add (s := S) (fun i => hc S.w i q) (k : Int) 1
  rw [show ((k + 1 : Nat) : Int) = (k : Int) + 1 by simp]
  exact this
end P
set_option maxRecDepth 100000 in
set_option maxHeartbeats 4000000 in
theorem often_good (cv : Value) (S : P.Sk) (q : ByteArray) (n : Nat) (w : World) (hr : RowK .i64 w cv S.c) (hS : P.SkGood S) (hq : q.size ≤ 140737488351232) (hn : n ≤ 50) (hm3 : S.n + n ≤ 1152921504606846976) :
    Calls Try.prog 7 #[aggK cv S, .string q, .int .i64 n] w fun e w' => e = .returned (.bool true) ∧ Below w.heap.size w w' := by
  have HB := hide ((Below.refl w.heap.size w).alloc (Nat.le_refl _) (.cells #[.int .i64 S.d, .int .i64 S.w, cv, .int .i64 S.n] 24))
  have HX : Hid (BoxK (w.alloc (.cells #[.int .i64 S.d, .int .i64 S.w, cv, .int .i64 S.n] 24)) w.heap.size cv S) := BoxK.new w cv S
  have HSk := hide (fun wx => sketches_any wx)
  have HAd := hide (fun wx (h : Below w.heap.size w wx) => Add_ok cv S q n wx (hr.below h (Nat.le_refl _)) hS (by omega) hm3 (by omega))
  have HA1 := hide (fun v (k : Nat) wx (hk : k < n) (h : RowK .i64 wx v (P.adS S q k).c) => Add_ok v (P.adS S q k) q 1 wx h (P.adS_good hS q (m := (k : Int)) (by omega) (by omega)) (by decide) (by show S.n + (k : Int) + 1 ≤ _; omega) (by omega))
  have HRow := hide (fun wx (h : Below w.heap.size w wx) => hr.below h (Nat.le_refl _))
  have t1 : decide ((n : Int) < 0) = false := by simp
  have t2 : decide (50 < (n : Int)) = false := by simp; omega
  have H0 := hide (P.adS_zero S q)
  have HSu := hide (P.adS_succ S q)
  obtain ⟨av, cap, rfl⟩ := hr.shp
  clear hr hS hm3
  go_enter Try.func7, Try.ntmps7
  go_upto_region 1 with fail
  generalize w.alloc (.cells #[.int .i64 S.d, .int .i64 S.w, .slice av S.c.length cap, .int .i64 S.n] 24) = W1 at *
  obtain ⟨x0, x1, x2, x3⟩ := HX.out.cells
  clear HX
  go_upto_region 5 with (go_at_call 18; go_must (refine (HSk.out _).mono ?_); rintro e w2 ⟨rfl, hb2⟩)
  have HB2 := hide (Below.next HB.out hb2)
  replace x0 := keep_cell x0 hb2; replace x1 := keep_cell x1 hb2; replace x2 := keep_cell x2 hb2; replace x3 := keep_cell x3 hb2
  clear HB hb2
  have HA5 := hide (HAd.out w2 HB2.out)
  clear HAd
  generalize hT : P.adS S q n = T at *
  have HT := hide hT
  clear hT
  go_upto_region 8 with (go_at_call 10; go_must (refine HA5.out.mono ?_); rintro e w5 ⟨v5, rfl, own5, hb5⟩; obtain ⟨a5, c5, rfl⟩ := own5.shape)
  replace x0 := keep_alloc (keep_cell x0 hb5) (.cells #[.int .i64 T.d, .int .i64 T.w, .slice a5 T.c.length c5, .int .i64 T.n] 24)
  replace x1 := keep_alloc (keep_cell x1 hb5) (.cells #[.int .i64 T.d, .int .i64 T.w, .slice a5 T.c.length c5, .int .i64 T.n] 24)
  replace x2 := keep_alloc (keep_cell x2 hb5) (.cells #[.int .i64 T.d, .int .i64 T.w, .slice a5 T.c.length c5, .int .i64 T.n] 24)
  replace x3 := keep_alloc (keep_cell x3 hb5) (.cells #[.int .i64 T.d, .int .i64 T.w, .slice a5 T.c.length c5, .int .i64 T.n] 24)
  have HB5 := hide ((Below.next HB2.out hb5).alloc (Below.next HB2.out hb5).size (.cells #[.int .i64 T.d, .int .i64 T.w, .slice a5 T.c.length c5, .int .i64 T.n] 24))
  have HX5 : Hid (BoxK (w5.alloc (.cells #[.int .i64 T.d, .int .i64 T.w, .slice a5 T.c.length c5, .int .i64 T.n] 24)) w5.heap.size (.slice a5 T.c.length c5) T) := BoxK.new w5 _ T
  have HR5 := hide ((OwnK.row own5).below ((Below.refl w5.heap.size w5).alloc (Nat.le_refl _) (.cells #[.int .i64 T.d, .int .i64 T.w, .slice a5 T.c.length c5, .int .i64 T.n] 24)) (Nat.le_refl _))
  clear HB2 hb5 own5 HA5
  generalize w5.alloc (.cells #[.int .i64 T.d, .int .i64 T.w, .slice a5 T.c.length c5, .int .i64 T.n] 24) = W6 at *
  obtain ⟨y0, y1, y2, y3⟩ := HX5.out.cells
  go_upto_region 9 with fail
  have HB7 := hide (HB5.out.alloc HB5.out.size (.cells #[.int .i64 S.d, .int .i64 S.w, .slice av S.c.length cap, .int .i64 S.n] 24))
  have HX7 : Hid (BoxK (W6.alloc (.cells #[.int .i64 S.d, .int .i64 S.w, .slice av S.c.length cap, .int .i64 S.n] 24)) W6.heap.size (.slice av S.c.length cap) S) := BoxK.new W6 _ S
  have hb7 := (Below.refl W6.heap.size W6).alloc (Nat.le_refl _) (.cells #[.int .i64 S.d, .int .i64 S.w, .slice av S.c.length cap, .int .i64 S.n] 24)
  have HR7 := hide (HR5.out.below hb7 (Nat.le_refl _))
  have HXa := hide (HX5.out.below hb7)
  have HW := hide hb7
  have HS0 : Hid (∃ v, BoxK (W6.alloc (.cells #[.int .i64 S.d, .int .i64 S.w, .slice av S.c.length cap, .int .i64 S.n] 24)) W6.heap.size v (P.adS S q ((0 : Nat) : Int)) ∧ RowK .i64 (W6.alloc (.cells #[.int .i64 S.d, .int .i64 S.w, .slice av S.c.length cap, .int .i64 S.n] 24)) v (P.adS S q ((0 : Nat) : Int)).c) := by
    refine ⟨.slice av S.c.length cap, ?_, ?_⟩
    · rw [show ((0 : Nat) : Int) = 0 from rfl, H0.out]; exact HX7.out
    · rw [show ((0 : Nat) : Int) = 0 from rfl, H0.out]; exact HRow.out _ HB7.out
  have hsz : w5.heap.size < W6.heap.size := HX5.out.lt
  have hwg : w.heap.size ≤ W6.heap.size := HB5.out.size
  clear HB5 HX5 HR7 HX7 H0 HRow hb7 x0 x1 x2 x3 y0 y1 y2 y3
  generalize W6.alloc (.cells #[.int .i64 S.d, .int .i64 S.w, .slice av S.c.length cap, .int .i64 S.n] 24) = W7 at *
  have HRa : Hid (∀ wr, Below W6.heap.size W7 wr → RowK .i64 wr (.slice a5 T.c.length c5) T.c) := fun wr h => HR5.out.below (HW.out.trans h) (Nat.le_refl _)
  clear HR5 HW
  generalize W6.heap.size = g at *
  go_wp2
  go_loopw [33, 10] (fun i ev wr => ∃ k : Nat, k ≤ n ∧ i = .int .i64 k ∧ ev = .int .i64 0 ∧ (∃ v, BoxK wr g v (P.adS S q (k : Int)) ∧ RowK .i64 wr v (P.adS S q (k : Int)).c) ∧ Below g W7 wr) (fun i _ _ => n - (intOf i).toNat)
  case atStart => exact ⟨0, by omega, rfl, rfl, HS0.out, Below.refl _ _⟩
  case round =>
    obtain ⟨k, hk, rfl, rfl, ⟨v, hbx, hrow⟩, hbl⟩ := hrel
    obtain ⟨va, vc, rfl⟩ := hrow.shp
    have HBl := hide hbl
    by_cases hlt : k < n
    · have hA := hide (HA1.out _ k wr hlt hrow)
      have hs := HSu.out k
      rw [hs] at hA
      obtain ⟨x0, x1, x2, x3⟩ := hbx.cells
      have HBx := hide hbx
      generalize P.adS S q (k : Int) = A at *
      generalize hA2 : P.adS S q ((k + 1 : Nat) : Int) = A2 at *
      have HA2 := hide hA2
      clear hrow hbl hbx hs hA2
      have j1 : (k : Int) < (n : Int) := by omega
      go_wp2_with fail
      refine hA.out.mono ?_
      rintro e w8 ⟨v8, rfl, own8, hb8⟩
      obtain ⟨a8, c8, rfl⟩ := own8.shape
      have b8 := HBx.out.below hb8
      obtain ⟨z0, z1, z2, z3⟩ := b8.cells
      have u0 := b8.unfrozen 0; have u1 := b8.unfrozen 1; have u2 := b8.unfrozen 2; have u3 := b8.unfrozen 3
      have hf : ∃ v, BoxK (setK w8 g (.slice a8 A2.c.length c8) A2) g v A2 ∧ RowK .i64 (setK w8 g (.slice a8 A2.c.length c8) A2) v A2.c :=
        ⟨_, b8.all _ A2, OwnK.row (own8.box b8 (setK_grown w8 g (.slice a8 A2.c.length c8) A2))⟩
      have hf2 : Below g W7 (setK w8 g (.slice a8 A2.c.length c8) A2) := Below.setK' (HBl.out.trans (hb8.mono (by have := HBx.out.lt; omega))) (Nat.le_refl _) _ _
      have HF := hide (And.intro hf hf2)
      clear hf hf2 own8 hb8 b8
      go_wp2
      go_roundw
      case rel => exact ⟨k + 1, by omega, by go_num, rfl, by rw [HA2.out]; exact HF.out.1, HF.out.2⟩
      case measure => simp [intOf]; omega
    · obtain rfl : k = n := by omega
      have hdd : decide ((k : Int) < (k : Int)) = false := by simp
      rw [HT.out] at hbx hrow
      obtain ⟨x0, x1, x2, x3⟩ := hbx.cells
      have hxa : BoxK wr w5.heap.size _ T := (HBl.out.block w5.heap.size hsz).trans HXa.out
      obtain ⟨y0, y1, y2, y3⟩ := hxa.cells
      have HBw := hide (HB7.out.trans (HBl.out.mono hwg))
      have HSame : Hid (Calls Try.prog 24 #[.agg #[.int .i64 T.d, .int .i64 T.w, .slice a5 T.c.length c5, .int .i64 T.n], .agg #[.int .i64 T.d, .int .i64 T.w, .slice va T.c.length vc, .int .i64 T.n]] wr fun e w' => e = .returned (.bool true) ∧ Below wr.heap.size wr w') := by
        exact sameSketch_yes _ _ T wr (HRa.out wr HBl.out) hrow
      clear hbx hrow hbl hxa
      go_wp2_with (go_at_call 24; go_must (refine HSame.out.mono ?_); rintro e w9 ⟨rfl, hb9⟩; have HB9 := hide (Below.next HBw.out hb9))
      go_ret
      exact ⟨rfl, HB9.out⟩
set_option maxRecDepth 100000 in
set_option maxHeartbeats 2000000 in
theorem walk_SketchOften (cv : Value) (s : P.Rw) (q : ByteArray) (n : Int) (w : World) (hr : RowK .i64 w cv s.c) (hi : RwI s) (hq : q.size ≤ 140737488351232) (hm0 : -9223372036854775808 ≤ n) (hm1 : n ≤ 9223372036854775807) :
    Calls Try.prog 7 #[aggS cv s, .string q, .int .i64 n] w fun e w' => e = .returned (.bool true) ∧ Below w.heap.size w w' := by
  have HB := hide ((Below.refl w.heap.size w).alloc (Nat.le_refl _) (.cells #[.int .i64 s.d, .int .i64 s.w, cv, .int .i64 s.n] 24))
  have HX : Hid ((w.alloc (.cells #[.int .i64 s.d, .int .i64 s.w, cv, .int .i64 s.n] 24)).heap[w.heap.size]? = some (.cells #[.int .i64 s.d, .int .i64 s.w, cv, .int .i64 s.n] 24 (0, 0))) := heap_alloc_new w _
  have HSk := hide (fun wx => sketches_any wx)
  have HZr := hide (fun wx => sameZero wx)
  by_cases hn : n < 0 ∨ 50 < n
  · obtain ⟨av, cap, rfl⟩ := hr.shp
    clear hr hi HX HZr
    rcases hn with h | h
    · have d1 : decide (n < 0) = true := by simpa using h
      clear h
      go_enter Try.func7, Try.ntmps7
      go_wp2_with (go_at_call 18; go_must (refine (HSk.out _).mono ?_); rintro e w2 ⟨rfl, hb2⟩; have HB2 := hide (Below.next HB.out hb2))
      go_ret
      exact ⟨rfl, HB2.out⟩
    · have d1 : decide (n < 0) = false := by simp; omega
      have d2 : decide (50 < n) = true := by simpa using h
      clear h
      go_enter Try.func7, Try.ntmps7
      go_wp2_with (go_at_call 18; go_must (refine (HSk.out _).mono ?_); rintro e w2 ⟨rfl, hb2⟩; have HB2 := hide (Below.next HB.out hb2))
      go_ret
      exact ⟨rfl, HB2.out⟩
  · rcases Add_cases cv s n w hr hi hm0 hm1 with ⟨E, hE, hE2, hAdd⟩ | ⟨S, hS, rfl, hm2, hm3⟩
    · have HAdd := hide hAdd
      have hEb : (E != 0) = true := by rw [bne_iff_ne]; exact hE
      have d1 : decide (n < 0) = false := by simp; omega
      have d2 : decide (50 < n) = false := by simp; omega
      obtain ⟨av, cap, rfl⟩ := hr.shp
      clear hr hi hAdd hE hn
      go_enter Try.func7, Try.ntmps7
      go_upto_region 1 with fail
      generalize w.alloc (.cells #[.int .i64 s.d, .int .i64 s.w, .slice av s.c.length cap, .int .i64 s.n] 24) = W1 at *
      have gx : W1.cell? ⟨w.heap.size, 0, none⟩ = some (.int .i64 s.d) ∧ W1.cell? ⟨w.heap.size, 1, none⟩ = some (.int .i64 s.w) ∧ W1.cell? ⟨w.heap.size, 2, none⟩ = some (.slice av s.c.length cap) ∧ W1.cell? ⟨w.heap.size, 3, none⟩ = some (.int .i64 s.n) := by have := HX.out; simp [World.cell?, this]
      obtain ⟨x0, x1, x2, x3⟩ := gx
      clear HX
      go_upto_region 5 with (go_at_call 18; go_must (refine (HSk.out _).mono ?_); rintro e w2 ⟨rfl, hb2⟩)
      have HB2 := hide (Below.next HB.out hb2)
      replace x0 := keep_cell x0 hb2; replace x1 := keep_cell x1 hb2; replace x2 := keep_cell x2 hb2; replace x3 := keep_cell x3 hb2
      clear HB hb2
      have HA5 := hide (HAdd.out q w2 HB2.out)
      go_wp2_with first
        | (go_at_call 10; go_must (refine HA5.out.mono ?_); rintro e w5 ⟨rfl, hb5⟩; have HB5 := hide ((Below.next HB2.out hb5).alloc (Below.next HB2.out hb5).size (.cells #[.int .i64 0, .int .i64 0, .slice none 0 0, .int .i64 0] 24)); clear hb5)
        | (go_at_call 24; go_must (refine (HZr.out _).mono ?_); rintro e w6 ⟨rfl, hb6⟩; have HB6 := hide (Below.next HB5.out hb6); clear hb6)
      go_ret
      exact ⟨rfl, HB6.out⟩
    · obtain ⟨N, rfl⟩ : ∃ N : Nat, n = N := ⟨n.toNat, by omega⟩
      exact often_good cv S q N w hr hS hq (by omega) hm3
set_option maxRecDepth 100000 in
theorem lifted_SketchOften (os : Os) (started : os.Started) (H : Type) (enc : TypeId × Value → H) :
    ReturnsInHanded {} Try.checked os 7 .any (Rows.sketchOftenSpec.pre6 enc Try.prog Try.f7 Rows.sketchOftenRow.domain false) (Rows.sketchOftenSpec.post enc Try.prog Try.f7 false true false false) := by
  refine returnsInHanded_of_change_sized (C := Try.checked) own started (by kernel_rfl) Try.func7
    (ChangeSpec.witness6 (enc := enc) (C := Try.checked) false ⟨#[], #[.agg #[.int .i64 0, .int .i64 0, .slice none 0 0, .int .i64 0], .string ⟨#[]⟩, .int .i64 0], []⟩ 8 (by kernel_rfl) (by kernel_rfl) (by kernel_rfl) (by kernel_rfl)) ?_
  intro W base args ds gs before hval0 hW hcnd hsz0  _
  have hsz : (DataW.weightsEach Try.prog (Try.f7.params.toList ++ Rows.sketchOftenSpec.plain.varTypes Try.prog) (ds ++ gs)).all (· ≤ reachBytes) = true := hsz0
  have hval : ∀ (j : Nat) t v, Try.f7.params[j]? = some t → args[j]? = some v → Value.okWide Try.prog W .any base t v := hval0
  have hW' := hW
  obtain ⟨p, q, hA0, hV, rfl, hfz, hnd⟩ := hW
  have hA : DataW.TrodAll enc Try.prog W 0 (fun _ => true) true Try.f7.params.toList args.toList ds p := hA0
  rw [Try.params7] at hA hval hsz
  obtain ⟨v0, vs0, d0, ds0, p0, q0, hargs, rfl, rfl, h0, r0⟩ := trodAll_cons hA
  obtain ⟨v1, vs1, d1, ds1, p1, q1, rfl, rfl, rfl, h1, r1⟩ := trodAll_cons r0
  obtain ⟨v2, vs2, d2, ds2, p2, q2, rfl, rfl, rfl, h2, r2⟩ := trodAll_cons r1
  obtain ⟨rfl, rfl, rfl⟩ := trodAll_nil r2
  obtain rfl : args = #[v0, v1, v2] := by cases args; simp_all
  obtain ⟨rfl, rfl⟩ := trodVars_none hV
  have k0 := h0
  have lt0 : ∀ x ∈ p0, x.block < W.heap.size := by obtain ⟨m, hm⟩ := k0; exact DataW.trod_lt m _ _ _ hm
  obtain ⟨cv0, x0, rfl, rk0, ri0⟩ := open_sketch (hval 0 24 v0 rfl rfl) h0
  have k1 := h1
  have lt1 : ∀ x ∈ p1, x.block < W.heap.size := by obtain ⟨m, hm⟩ := k1; exact DataW.trod_lt m _ _ _ hm
  obtain ⟨x1, rfl, rfl, rfl, ws1⟩ := Go.ChangeMaps.open_string Try.underlying9 (hval 1 9 v1 rfl rfl) h1
  have rc1 : x1.size ≤ 140737488351232 := by rw [Lib.size_eq]; exact sized_string hsz (j := 1) (t := 9) rfl rfl
  have k2 := h2
  have lt2 : ∀ x ∈ p2, x.block < W.heap.size := by obtain ⟨m, hm⟩ := k2; exact DataW.trod_lt m _ _ _ hm
  obtain ⟨a2, rfl, rfl, rfl, w2⟩ := open_int Try.underlying3 (hval 2 3 v2 rfl rfl) h2
  have b2 := bounds_i64 w2
  clear hA0 hval0
  refine (walk_SketchOften cv0 x0 x1 a2 W rk0 ri0 rc1 b2.1 b2.2).mono fun e W' ⟨he, bel⟩ => ?_
  subst he
  exact ⟨_, rfl, _, _, _, [], _, [], hW', trodAll_mk1 (shut_bool Try.underlying4 _), (trodAll_cons_mk (Below.trod laidOut (by kernel_rfl) (of_decide_eq_true (by kernel_rfl)) k0 bel lt0) (trodAll_cons_mk (Below.trod laidOut (by kernel_rfl) (of_decide_eq_true (by kernel_rfl)) k1 bel lt1) (trodAll_cons_mk (Below.trod laidOut (by kernel_rfl) (of_decide_eq_true (by kernel_rfl)) k2 bel lt2) trodAll_mk0))), rfl, bel.frame _, fun h => by cases h⟩

theorem proved_SketchOften : Rows.SketchOftenSaid :=
  OpenClaim.holds_of_wide 7 Try.f7 rfl rfl rfl rfl rfl rfl rfl ⟨rfl, rfl, rfl, rfl, rfl⟩ rfl rfl rfl rfl rfl (by kernel_rfl) Try.func7 (by kernel_rfl)
    (of_decide_eq_true (by kernel_rfl)) (by unfold Func.isWrapper; first | (rw [if_pos (by decide +kernel)]; kernel_rfl) | (rw [if_neg (by decide +kernel)]; exact ⟨rfl, rfl⟩))
    (fun os started H enc _ => lifted_SketchOften os started H enc)
#print axioms proved_SketchOften
end Go.Proofs.Ytenfpkokogfdaaa
