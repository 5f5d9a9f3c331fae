/- HeavyMerged holds: at all inputs the law answers true and changes nothing that was there. -/
import Derived.Test.YtcaidfffmllfeaaHeavyBadAll
import Derived.Test.YtcaidfffmllfeaaHeavyEAll
namespace Go.Proofs.Ytcaidfffmllfeaa
open Go.ChangeShapes Go.WideShapes Go.ChangeAt Go.RowKit
set_option linter.unusedVariables false
/-- The ways in which it goes wrong with two lists, one after the other. -/
theorem P.bad_two {k : Int} {l m : List ByteArray} (h : P.Bad k l ∨ P.Bad k m) : k < 1 ∨ (decide (k < 1) = false ∧ 64 < k) ∨ (decide (k < 1) = false ∧ decide (64 < k) = false ∧ P.lgB l = true) ∨ (decide (k < 1) = false ∧ decide (64 < k) = false ∧ P.lgB l = false ∧ P.lgB m = true) ∨
    (decide (k < 1) = false ∧ decide (64 < k) = false ∧ P.lgB l = false ∧ P.lgB m = false ∧ decide ((1000000000 : Int) < l.length) = true) ∨ (decide (k < 1) = false ∧ decide (64 < k) = false ∧ P.lgB l = false ∧ P.lgB m = false ∧ decide ((1000000000 : Int) < l.length) = false ∧ decide ((1000000000 : Int) < m.length) = true) := by
  cases hl : P.lgB l with
  | true =>
    rcases h with h | h
    · rcases P.bad_ways h with h | ⟨h, h2⟩ | ⟨h, h2, h3⟩ | ⟨h, h2, h3, h4⟩
      · exact .inl h
      · exact .inr (.inl ⟨h, h2⟩)
      · exact .inr (.inr (.inl ⟨h, h2, rfl⟩))
      · rw [hl] at h3; cases h3
    · rcases P.bad_ways h with h | ⟨h, h2⟩ | ⟨h, h2, h3⟩ | ⟨h, h2, h3, h4⟩
      · exact .inl h
      · exact .inr (.inl ⟨h, h2⟩)
      · exact .inr (.inr (.inl ⟨h, h2, rfl⟩))
      · exact .inr (.inr (.inl ⟨h, h2, rfl⟩))
  | false =>
    cases hm : P.lgB m with
    | true =>
      rcases h with h | h
      · rcases P.bad_ways h with h | ⟨h, h2⟩ | ⟨h, h2, h3⟩ | ⟨h, h2, h3, h4⟩
        · exact .inl h
        · exact .inr (.inl ⟨h, h2⟩)
        · rw [hl] at h3; cases h3
        · exact .inr (.inr (.inr (.inl ⟨h, h2, rfl, rfl⟩)))
      · rcases P.bad_ways h with h | ⟨h, h2⟩ | ⟨h, h2, h3⟩ | ⟨h, h2, h3, h4⟩
        · exact .inl h
        · exact .inr (.inl ⟨h, h2⟩)
        · exact .inr (.inr (.inr (.inl ⟨h, h2, rfl, rfl⟩)))
        · exact .inr (.inr (.inr (.inl ⟨h, h2, rfl, rfl⟩)))
    | false =>
      have key : k < 1 ∨ (decide (k < 1) = false ∧ 64 < k) ∨ (decide (k < 1) = false ∧ decide (64 < k) = false ∧ ((1000000000 : Int) < l.length ∨ (1000000000 : Int) < m.length)) := by
        rcases h with h | h
        · rcases P.bad_ways h with h | ⟨h, h2⟩ | ⟨h, h2, h3⟩ | ⟨h, h2, h3, h4⟩
          · exact .inl h
          · exact .inr (.inl ⟨h, h2⟩)
          · rw [hl] at h3; cases h3
          · exact .inr (.inr ⟨h, h2, .inl h4⟩)
        · rcases P.bad_ways h with h | ⟨h, h2⟩ | ⟨h, h2, h3⟩ | ⟨h, h2, h3, h4⟩
          · exact .inl h
          · exact .inr (.inl ⟨h, h2⟩)
          · rw [hm] at h3; cases h3
          · exact .inr (.inr ⟨h, h2, .inr h4⟩)
      rcases key with h | ⟨h, h2⟩ | ⟨h, h2, h3⟩
      · exact .inl h
      · exact .inr (.inl ⟨h, h2⟩)
      · by_cases h4 : (1000000000 : Int) < l.length
        · exact .inr (.inr (.inr (.inr (.inl ⟨h, h2, rfl, rfl, by simpa using h4⟩))))
        · exact .inr (.inr (.inr (.inr (.inr ⟨h, h2, rfl, rfl, by simpa using h4, by simpa using h3.resolve_left h4⟩))))
set_option maxRecDepth 100000 in
set_option maxHeartbeats 4000000 in
theorem walk_HeavyMerged (k : Int) (v : Value) (l : List ByteArray) (vm : Value) (m : List ByteArray) (q : ByteArray) (w : World) (k0 : -9223372036854775808 ≤ k) (k1 : k ≤ 9223372036854775807) (hr : RowT w v l) (hl : TxOk l) (hln : l.length * 16 ≤ 140737488351232) (hrm : RowT w vm m) (hlm : TxOk m) (hlnm : m.length * 16 ≤ 140737488351232) (hq : q.size ≤ 140737488351232) :
    Calls Try.prog 7 #[.int .i64 k, v, vm, .string q] w fun e w' => e = .returned (.bool true) ∧ Below w.heap.size w w' := by
  have HKs := hide (fun wx (hb : Below w.heap.size w wx) => tallied_any k v l wx (hr.below hb (Nat.le_refl _)) hl)
  have HLg := hide (fun wx (hb : Below w.heap.size w wx) => long_any v l wx (hr.below hb (Nat.le_refl _)) hl)
  have HTm := hide (fun wx (hb : Below w.heap.size w wx) => times_any v l q wx (hr.below hb (Nat.le_refl _)) (by omega))
  have HKm := hide (fun wx (hb : Below w.heap.size w wx) => tallied_any k vm m wx (hrm.below hb (Nat.le_refl _)) hlm)
  have HLm := hide (fun wx (hb : Below w.heap.size w wx) => long_any vm m wx (hrm.below hb (Nat.le_refl _)) hlm)
  have HTn := hide (fun wx (hb : Below w.heap.size w wx) => times_any vm m q wx (hrm.below hb (Nat.le_refl _)) (by omega))
  have hlmax : (l.length : Int) ≤ 8796093021952 := by omega
  have hmmax : (m.length : Int) ≤ 8796093021952 := by omega
  have hl0 : (0 : Int) ≤ (l.length : Int) := by omega
  have hm0 : (0 : Int) ≤ (m.length : Int) := by omega
  have hqmax : (q.size : Int) ≤ 9223372036854775807 := by omega
  obtain ⟨av, cv, rfl⟩ := hr.shp
  obtain ⟨am, cm, rfl⟩ := hrm.shp
  clear hr hrm
  go_enter Try.func7, Try.ntmps7
  go_upto_region 3 with (go_at_call 19; go_must (refine (tallies_any _).mono ?_); rintro e w1 ⟨rfl, hb1⟩)
  go_wp2_with fail
  refine (HKs.out _ hb1).mono ?_
  rintro e w2 ⟨sv, A, ok, rfl, own2, p2, p3, hb2⟩
  obtain ⟨xt, yt, rfl⟩ := own2.shp ctC_len
  have HB2 := hide (Below.next hb1 hb2)
  have HB3 := hide (HB2.out.alloc HB2.out.size (.cells #[.int .i64 A.k, .slice xt A.l.length yt, .int .i64 A.n, .int .i64 A.off] 24))
  have HXa : Hid (BoxH (w2.alloc (.cells #[.int .i64 A.k, .slice xt A.l.length yt, .int .i64 A.n, .int .i64 A.off] 24)) w2.heap.size (.slice xt A.l.length yt) A) := BoxH.new w2 _ A
  have HOa : Hid (RowC (w2.alloc (.cells #[.int .i64 A.k, .slice xt A.l.length yt, .int .i64 A.n, .int .i64 A.off] 24)) (.slice xt A.l.length yt) A.l) := own2.row.alloc _
  clear hb1 hb2 own2 HKs HB2
  go_upto_region 4 with fail
  generalize (w2.alloc (.cells #[.int .i64 A.k, .slice xt A.l.length yt, .int .i64 A.n, .int .i64 A.off] 24)) = W3 at *
  generalize w2.heap.size = ga at *
  go_wp2_with fail
  refine (HKm.out _ HB3.out).mono ?_
  rintro e w4 ⟨sw, B, too, rfl, own4, p4, p5, hb4⟩
  obtain ⟨xu, yu, rfl⟩ := own4.shp ctC_len
  have HB4 := hide (Below.next HB3.out hb4)
  have HB5 := hide (HB4.out.alloc HB4.out.size (.cells #[.int .i64 B.k, .slice xu B.l.length yu, .int .i64 B.n, .int .i64 B.off] 24))
  have HXb : Hid (BoxH (w4.alloc (.cells #[.int .i64 B.k, .slice xu B.l.length yu, .int .i64 B.n, .int .i64 B.off] 24)) w4.heap.size (.slice xu B.l.length yu) B) := BoxH.new w4 _ B
  have HOb : Hid (RowC (w4.alloc (.cells #[.int .i64 B.k, .slice xu B.l.length yu, .int .i64 B.n, .int .i64 B.off] 24)) (.slice xu B.l.length yu) B.l) := own4.row.alloc _
  have HXa2 : Hid (BoxH (w4.alloc (.cells #[.int .i64 B.k, .slice xu B.l.length yu, .int .i64 B.n, .int .i64 B.off] 24)) ga (.slice xt A.l.length yt) A) := (HXa.out.below hb4).below ((Below.refl _ w4).alloc (Nat.le_refl _) _)
  have HOa2 : Hid (RowC (w4.alloc (.cells #[.int .i64 B.k, .slice xu B.l.length yu, .int .i64 B.n, .int .i64 B.off] 24)) (.slice xt A.l.length yt) A.l) := (HOa.out.below hb4 (Nat.le_refl _)).alloc _
  clear hb4 own4 HKm HB4 HXa HOa HB3
  go_upto_region 5 with fail
  generalize (w4.alloc (.cells #[.int .i64 B.k, .slice xu B.l.length yu, .int .i64 B.n, .int .i64 B.off] 24)) = W5 at *
  generalize w4.heap.size = gb at *
  have bad : (ok = false ∨ too = false) → P.Bad k l ∨ P.Bad k m := fun h => h.elim (fun h => .inl (p3 h)) (fun h => .inr (p5 h))
  have good : ok = true → too = true → P.Rep k A l ∧ P.Rep k B m := fun h1 h2 => ⟨p2 h1, p4 h2⟩
  clear p2 p3 p4 p5
  by_cases hbd : ok = false ∨ too = false
  · have hw := P.bad_two (bad hbd)
    have HLg2 := hide (HLg.out _ HB5.out)
    have HLm2 := hide (HLm.out _ HB5.out)
    clear bad good HLg HLm HTm HTn HXa2 HXb HOa2 HOb
    have fin : ∀ {P : Prop}, P → P := fun h => h
    rcases hw with d1 | ⟨d1, d2⟩ | ⟨d1, d2, d3⟩ | ⟨d1, d2, d3, d4⟩ | ⟨d1, d2, d3, d4, d5⟩ | ⟨d1, d2, d3, d4, d5, d6⟩
    all_goals first | rw [d3] at HLg2 | skip
    all_goals first | rw [d4] at HLm2 | skip
    all_goals (cases ok <;> cases too <;> first | (exfalso; simp at hbd; done) | skip)
    all_goals clear hbd fin
    all_goals go_wp2_with (go_at_call 21; first | (with_reducible refine HLg2.out.mono ?_; rintro e w6 ⟨rfl, rfl⟩) | (with_reducible refine HLm2.out.mono ?_; rintro e w6 ⟨rfl, rfl⟩))
    all_goals go_ret
    all_goals exact ⟨rfl, HB5.out⟩
  · obtain rfl : ok = true := by cases ok <;> simp_all
    obtain rfl : too = true := by cases too <;> simp_all
    obtain ⟨ra, rb⟩ := good rfl rfl
    clear bad good hbd HLg HLm
    obtain ⟨a0, a1, a2, a3⟩ := HXa2.out.cells
    obtain ⟨b0, b1, b2, b3⟩ := HXb.out.cells
    have na := ra.n
    have nb := rb.n
    by_cases hbig : 1000000000 < A.n + B.n
    · have hE : P.mgE A B = 2 := by
        unfold P.mgE
        rw [if_neg (fun h => h.elim (fun h => h ra.good) (fun h => h rb.good)), if_neg (not_not_intro (ra.k.trans rb.k.symm)), if_pos hbig]
      have HM := hide (Merge_bad (.slice xt A.l.length yt) (.slice xu B.l.length yu) A B W5 HOa2.out HOb.out ra.good.hvI rb.good.hvI 2 hE (by decide))
      have hd : decide ((1000000000 : Int) < (l.length : Int) + (m.length : Int)) = true := by simp; omega
      clear ra rb hbig hE HTm HTn HXa2 HXb HOa2 HOb na nb
      go_wp2_with (go_at_call 17; go_must (refine HM.out.mono ?_); rintro e w6 ⟨rfl, hb6⟩; have HB6 := hide (Below.next HB5.out hb6))
      go_ret
      exact ⟨rfl, HB6.out.alloc HB6.out.size _⟩
    · have h2 : P.Two A B := ⟨ra.good, rb.good, ra.k.trans rb.k.symm, by omega⟩
      have HM := hide (Merge_ok (.slice xt A.l.length yt) (.slice xu B.l.length yu) A B W5 HOa2.out HOb.out ra.good.hvI rb.good.hvI h2)
      obtain ⟨m1, m2, m3⟩ := P.rep_merge ra rb h2
      have hg := h2.good
      have hk : (P.uni A B).k = k := (P.uni_k A B).trans ra.k
      have g3 : (l.length : Int) ≤ 1000000000 := by have := ra.good.n1; omega
      have g4 : (m.length : Int) ≤ 1000000000 := by have := rb.good.n1; omega
      generalize P.uni A B = S at *
      have HK := hide hk
      have HM1 := hide m1
      clear hk m1
      clear ra rb h2 HXa2 HXb HOa2 HOb na nb hbig
      go_upto_region 8 with (go_at_call 17; go_must (refine HM.out.mono ?_); rintro e w6 ⟨v6, rfl, own6, hb6⟩; have HB6 := hide (Below.next HB5.out hb6); obtain ⟨x6, y6, hv6⟩ := own6.shp ctC_len; rw [hv6] at own6 ⊢; clear hv6)
      have HB7 := hide (HB6.out.alloc HB6.out.size (.cells #[.int .i64 S.k, .slice x6 S.l.length y6, .int .i64 S.n, .int .i64 S.off] 24))
      have X7 : BoxH (w6.alloc (.cells #[.int .i64 S.k, .slice x6 S.l.length y6, .int .i64 S.n, .int .i64 S.off] 24)) w6.heap.size (.slice x6 S.l.length y6) S := BoxH.new w6 _ S
      have O7 : RowC (w6.alloc (.cells #[.int .i64 S.k, .slice x6 S.l.length y6, .int .i64 S.n, .int .i64 S.off] 24)) (.slice x6 S.l.length y6) S.l := own6.row.alloc _
      obtain ⟨c0, c1, c2, c3⟩ := X7.cells
      clear X7 own6 hb6 HB6 HM a0 a1 a2 a3 b0 b1 b2 b3
      generalize (w6.alloc (.cells #[.int .i64 S.k, .slice x6 S.l.length y6, .int .i64 S.n, .int .i64 S.off] 24)) = W at *
      generalize w6.heap.size = gs at *
      have hk := HK.out
      have m1 := HM1.out
      have HCt := hide (Count_any (.slice x6 S.l.length y6) S q W O7 hg.hvI (by omega))
      have HCk := hide (fun wx (hb : Below W.heap.size W wx) => check_any (.slice x6 S.l.length y6) S wx (O7.below hb (Nat.le_refl _)) hg.hvI)
      rw [P.chkH_ok hg] at HCk
      have HL1 := hide (fun wx => long_any _ [q] _ (row_one wx q) (by intro x hx; simp at hx; subst hx; omega))
      rw [P.lgB_one] at HL1
      have f3 := P.tms_bound l q
      have f4 := P.tms_bound m q
      have f1 := m2 q
      have f2 := m3 q
      have t3 : P.tms l q ≤ 1000000000 := by omega
      have t4 : P.tms m q ≤ 1000000000 := by omega
      have t5 : 0 ≤ P.tms l q := f3.1
      have t6 : 0 ≤ P.tms m q := f4.1
      by_cases hlong : 40 < q.size
      · rw [P.cnE_long hg hlong, P.cnN_long hg hlong] at HCt
        rw [show decide (40 < (q.size : Int)) = true by simp; omega] at HL1
        generalize P.tms l q = t at *
        generalize P.tms m q = u at *
        clear hlong HCk O7 m1 m2 m3 hg hk f1 f2 f3 f4
        go_wp2_with (first
          | (go_at_call 11; go_must (refine HCt.out.mono ?_); rintro e w8 ⟨rfl, hb8⟩; have HB8 := hide (Below.next HB7.out hb8))
          | (go_at_call 22; first | (with_reducible refine (HTm.out _ HB8.out).mono ?_; rintro e w9 ⟨rfl, rfl⟩) | (with_reducible refine (HTn.out _ HB8.out).mono ?_; rintro e w9 ⟨rfl, rfl⟩))
          | (go_at_call 21; go_must (refine (HL1.out _).mono ?_); rintro e w9 ⟨rfl, rfl⟩))
        go_ret
        exact ⟨rfl, HB8.out.alloc HB8.out.size _⟩
      · rw [P.cnE_short hg hlong, P.cnN_short hg hlong] at HCt
        rw [show decide (40 < (q.size : Int)) = false by simp; omega] at HL1
        have n0 := P.look_nonneg hg.ok.pos q
        have f5 : (k + 1) * S.off ≤ S.n := by
          have := hg.acc
          have h2 := P.tot_nonneg hg.ok.pos
          rw [hk] at this
          omega
        have f6 : 0 ≤ (k + 1) * S.off := Int.mul_nonneg (by have := hg.k1; omega) hg.o0
        have f7 := hg.o0
        have f8 := hg.o1
        have f9 : (S.n == (l.length : Int) + (m.length : Int)) = true := by rw [beq_iff_eq]; exact m1
        have n1 := hg.n1
        have g1 : 1 ≤ k := by have := hg.k1; omega
        have g2 : k ≤ 64 := by have := hg.k2; omega
        generalize P.look S.l q = n at *
        generalize P.tms l q = t at *
        generalize P.tms m q = u at *
        have g5 : n + S.off ≤ 9223372036854775807 := by omega
        have g6 : 0 ≤ n + S.off := by omega
        have hm1 : IntKind.i64.wrap (k + 1) = k + 1 := by rw [IntKind.wrap_i64]; omega
        generalize hpr : (k + 1) * S.off = pr at *
        clear hlong O7 m1 m2 m3 hg hk f3 f4
        go_wp2_with (first
          | (go_at_call 11; go_must (refine HCt.out.mono ?_); rintro e w8 ⟨rfl, hb8⟩; have HB8 := hide (Below.next HB7.out hb8); have hBa : Below W.heap.size W (w8.alloc (.cells #[.string q] 9)) := hb8.alloc hb8.size _; have d0 := keep_cell c0 hBa; have d1 := keep_cell c1 hBa; have d2 := keep_cell c2 hBa; have d3 := keep_cell c3 hBa; have HBa := hide hBa)
          | (go_at_call 22; first | (with_reducible refine (HTm.out _ HB8.out).mono ?_; rintro e w9 ⟨rfl, rfl⟩) | (with_reducible refine (HTn.out _ HB8.out).mono ?_; rintro e w9 ⟨rfl, rfl⟩))
          | (go_at_call 21; go_must (refine (HL1.out _).mono ?_); rintro e w9 ⟨rfl, rfl⟩)
          | (go_at_call 14; go_must (refine (HCk.out _ HBa.out).mono ?_); rintro e w10 ⟨rfl, hb10⟩))
        go_ret
        exact ⟨rfl, Below.next (Below.next HB7.out HBa.out) hb10⟩
set_option maxRecDepth 100000 in
theorem lifted_HeavyMerged (os : Os) (started : os.Started) (H : Type) (enc : TypeId × Value → H) :
    ReturnsInHanded {} Try.checked os 7 .any (Rows.heavyMergedSpec.pre6 enc Try.prog Try.f7 Rows.heavyMergedRow.domain false) (Rows.heavyMergedSpec.post enc Try.prog Try.f7 false true false false) := by
  refine returnsInHanded_of_change_sized (C := Try.checked) own started (by kernel_rfl) Try.func7
    (ChangeSpec.witness6 (enc := enc) (C := Try.checked) false ⟨#[], #[.int .i64 0, .slice none 0 0, .slice none 0 0, .string ⟨#[]⟩], []⟩ 8 (by kernel_rfl) (by kernel_rfl) (by kernel_rfl) (by kernel_rfl)) ?_
  intro W base args ds gs before hval0 hW hcnd hsz0  _
  have hsz : (DataW.weightsEach Try.prog (Try.f7.params.toList ++ Rows.heavyMergedSpec.plain.varTypes Try.prog) (ds ++ gs)).all (· ≤ reachBytes) = true := hsz0
  have hval : ∀ (j : Nat) t v, Try.f7.params[j]? = some t → args[j]? = some v → Value.okWide Try.prog W .any base t v := hval0
  have hW' := hW
  obtain ⟨p, q, hA0, hV, rfl, hfz, hnd⟩ := hW
  have hA : DataW.TrodAll enc Try.prog W 0 (fun _ => true) true Try.f7.params.toList args.toList ds p := hA0
  rw [Try.params7] at hA hval hsz
  obtain ⟨v0, vs0, d0, ds0, p0, q0, hargs, rfl, rfl, h0, r0⟩ := trodAll_cons hA
  obtain ⟨v1, vs1, d1, ds1, p1, q1, rfl, rfl, rfl, h1, r1⟩ := trodAll_cons r0
  obtain ⟨v2, vs2, d2, ds2, p2, q2, rfl, rfl, rfl, h2, r2⟩ := trodAll_cons r1
  obtain ⟨v3, vs3, d3, ds3, p3, q3, rfl, rfl, rfl, h3, r3⟩ := trodAll_cons r2
  obtain ⟨rfl, rfl, rfl⟩ := trodAll_nil r3
  obtain rfl : args = #[v0, v1, v2, v3] := by cases args; simp_all
  obtain ⟨rfl, rfl⟩ := trodVars_none hV
  have k0 := h0
  have lt0 : ∀ x ∈ p0, x.block < W.heap.size := by obtain ⟨m, hm⟩ := k0; exact DataW.trod_lt m _ _ _ hm
  obtain ⟨a0, rfl, rfl, rfl, w0⟩ := open_int Try.underlying3 (hval 0 3 v0 rfl rfl) h0
  have b0 := bounds_i64 w0
  have k1 := h1
  have lt1 : ∀ x ∈ p1, x.block < W.heap.size := by obtain ⟨m, hm⟩ := k1; exact DataW.trod_lt m _ _ _ hm
  obtain ⟨s1, len1, cap1, rfl⟩ := okWide_slice Try.underlying38 (hval 1 38 v1 rfl rfl)
  obtain ⟨l1, row1, wf1, sh1⟩ := open_texts h1
  have rc1 := row_reachN hsz (j := 1) (t := 38) rfl rfl Try.underlying38 sh1
  rw [bytes9] at rc1
  have k2 := h2
  have lt2 : ∀ x ∈ p2, x.block < W.heap.size := by obtain ⟨m, hm⟩ := k2; exact DataW.trod_lt m _ _ _ hm
  obtain ⟨s2, len2, cap2, rfl⟩ := okWide_slice Try.underlying38 (hval 2 38 v2 rfl rfl)
  obtain ⟨l2, row2, wf2, sh2⟩ := open_texts h2
  have rc2 := row_reachN hsz (j := 2) (t := 38) rfl rfl Try.underlying38 sh2
  rw [bytes9] at rc2
  have k3 := h3
  have lt3 : ∀ x ∈ p3, x.block < W.heap.size := by obtain ⟨m, hm⟩ := k3; exact DataW.trod_lt m _ _ _ hm
  obtain ⟨x3, rfl, rfl, rfl, ws3⟩ := Go.ChangeMaps.open_string Try.underlying9 (hval 3 9 v3 rfl rfl) h3
  have rc3 : x3.size ≤ 140737488351232 := by rw [Lib.size_eq]; exact sized_string hsz (j := 3) (t := 9) rfl rfl
  clear hA0 hval0
  refine (walk_HeavyMerged a0 (.slice s1 len1 cap1) l1 (.slice s2 len2 cap2) l2 x3 W b0.1 b0.2 row1 wf1 rc1 row2 wf2 rc2 rc3).mono fun e W' ⟨he, bel⟩ => ?_
  subst he
  exact ⟨_, rfl, _, _, _, [], _, [], hW', trodAll_mk1 (shut_bool Try.underlying4 _), (trodAll_cons_mk (Below.trod laidOut (by kernel_rfl) (of_decide_eq_true (by kernel_rfl)) k0 bel lt0) (trodAll_cons_mk (Below.trod laidOut (by kernel_rfl) (of_decide_eq_true (by kernel_rfl)) k1 bel lt1) (trodAll_cons_mk (Below.trod laidOut (by kernel_rfl) (of_decide_eq_true (by kernel_rfl)) k2 bel lt2) (trodAll_cons_mk (Below.trod laidOut (by kernel_rfl) (of_decide_eq_true (by kernel_rfl)) k3 bel lt3) trodAll_mk0)))), rfl, bel.frame _, fun h => by cases h⟩

theorem proved_HeavyMerged : Rows.HeavyMergedSaid :=
  OpenClaim.holds_of_wide 7 Try.f7 rfl rfl rfl rfl rfl rfl rfl ⟨rfl, rfl, rfl, rfl, rfl⟩ rfl rfl rfl rfl rfl (by kernel_rfl) Try.func7 (by kernel_rfl)
    (of_decide_eq_true (by kernel_rfl)) (by unfold Func.isWrapper; first | (rw [if_pos (by decide +kernel)]; kernel_rfl) | (rw [if_neg (by decide +kernel)]; exact ⟨rfl, rfl⟩))
    (fun os started H enc _ => lifted_HeavyMerged os started H enc)
#print axioms proved_HeavyMerged
end Go.Proofs.Ytcaidfffmllfeaa
