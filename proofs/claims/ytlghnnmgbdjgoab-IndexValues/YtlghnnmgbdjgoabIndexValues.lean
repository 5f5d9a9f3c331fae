/- Each value of a name is found, with what has it, and stands once, rising: for whatever labels and name the statement's function answers true. No condition. -/
import Derived.Test.YtlghnnmgbdjgoabKitLL
import Derived.Test.YtlghnnmgbdjgoabIdxV
import Derived.Test.YtlghnnmgbdjgoabSetL
import Derived.HandedShaped
import Derived.Sort.Walk0
namespace Go.Proofs.Ytlghnnmgbdjgoab
open Go.RowKit Go.ChangeShapes Go.WideShapes Go.ChangeAt Go.Joins Go.Sort
set_option linter.unusedVariables false
theorem eqP_some (b : Nat) (w : World) : (binOp BinOp.eql 24 (.pointer (some ⟨b, 0, none⟩)) (.pointer none)).run Try.prog w = .ok (.bool false) w := by kernel_rfl
theorem eqP_none (w : World) : (binOp BinOp.eql 24 (.pointer none) (.pointer none)).run Try.prog w = .ok (.bool true) w := by kernel_rfl
theorem le_less {x y : List UInt8} : x ≤ y ↔ Op.bytesLess y x = false := by rw [bytesLess_eq, decide_eq_false_iff_not]; exact Iff.rfl
theorem srtS_strict {ss : List (List UInt8)} (h : ss.Nodup) : (srtS ss).Pairwise fun a b => Op.bytesLess a b = true := by
  have hp : (srtS ss).Pairwise (fun a b => (decide (a ≤ b)) = true) := List.pairwise_mergeSort (le := fun x y : List UInt8 => decide (x ≤ y)) (fun a b c h1 h2 => by
    simp only [decide_eq_true_eq] at h1 h2 ⊢
    rw [le_less] at h1 h2 ⊢
    cases hc : Op.bytesLess c a with
    | false => rfl
    | true =>
      rcases P.less_total a b with h | h | h
      · rw [P.less_trans hc h] at h2; cases h2
      · subst h; rw [hc] at h2; cases h2
      · rw [h] at h1; cases h1) (fun a b => by
    simp only [Bool.or_eq_true, decide_eq_true_eq, le_less]
    cases h1 : Op.bytesLess b a with
    | false => exact .inl rfl
    | true =>
      right
      cases h2 : Op.bytesLess a b with
      | false => rfl
      | true => have := P.less_trans h1 h2; rw [P.less_irr] at this; cases this) ss
  have hn : (srtS ss).Nodup := (List.mergeSort_perm ss _).nodup_iff.2 h
  refine List.Pairwise.imp₂ (fun a b h1 h2 => ?_) hp hn
  simp only [decide_eq_true_eq] at h1
  rw [le_less] at h1
  rcases P.less_total a b with h | h | h
  · exact h
  · exact absurd h h2
  · rw [h] at h1; cases h1
/-- A value that is there is found. -/
theorem P.value_found {L : List (List P.Lb)} (hc : ∀ i, i < L.length → P.chk (L.getD i []) = 0) {s v : ByteArray} (h : nums (P.evTo L L.length) s v ≠ []) : P.chkM [(1, s, v)] = 0 ∧ P.findL L [(1, s, v)] ≠ [] := by
  obtain ⟨i, hi⟩ := List.exists_mem_of_ne_nil _ h
  rw [P.mem_nums, P.mem_evTo] at hi
  obtain ⟨j, hj, rfl, hm⟩ := hi
  have hz := P.chk_as (hc j hj)
  have hx2 : ((1 : Int), s, v) ∈ P.asM (L.getD j []) := List.mem_map.2 ⟨_, hm, rfl⟩
  refine ⟨P.chkM_at hz hx2, List.ne_nil_of_mem (a := (j : Int)) ?_⟩
  rw [P.mem_findL]
  refine ⟨by omega, ?_⟩
  rw [Int.toNat_natCast, List.all_cons, List.all_nil, Bool.and_true, P.fit1_fv, P.valO_mem (hc j hj) hm]
  unfold P.fv
  rw [if_pos rfl]
  simp
set_option maxRecDepth 100000 in
set_option maxHeartbeats 4000000 in
theorem walk_IndexValues (v0 : Value) (L : List (List P.Lb)) (s : ByteArray) (w : World) (r0 : RowsL w v0 L) (k0 : ∀ l ∈ L, LbOk l) (rc0 : L.length * 24 ≤ 140737488351232) (rcs : s.size ≤ 140737488351232)
    (mx : Int) (hmx : w.cell? ⟨0, 0, none⟩ = some (.int .i64 mx)) :
    Calls Try.prog 3 #[v0, .string s] w fun e w' => e = .returned (.bool true) ∧ Below w.heap.size w w' := by
  have HI := hide (indexes_any w)
  have HN := hide (fun (W : World) (hb : Below w.heap.size w W) => new_any W v0 L (r0.below hb (Nat.le_refl _)) k0)
  have HF := hide (fun (W : World) (hb : Below w.heap.size w W) (bx : Nat) (hi : Ix W bx L) (vm : Value) (m : List P.Mt) (hr : RowM W vm m) (hl : MtOk m) => find_any W bx L hi vm m hr hl mx (keep_cell hmx hb))
  have HEs := hide eqP_some
  have HEn := hide eqP_none
  obtain ⟨a0, c0, rfl, ⟨hlc0, hm0⟩, hcase⟩ := r0
  unfold maxLen at hm0
  clear hmx hcase
  by_cases hz : P.newE L = 0
  · have HZ := hide hz
    go_enter Try.func3, Try.ntmps3
    go_wp2_with fail
    refine HI.out.mono ?_
    rintro e w1 ⟨rfl, h1⟩
    go_wp2_with fail
    refine (HN.out _ h1).mono ?_
    rintro e w2 ⟨_, hn, h2⟩
    obtain ⟨bx, rfl, hix⟩ := hn HZ.out
    have hB2 := Below.next h1 h2
    have HX := hide hix
    have hP := HEs.out bx w2
    have HV := hide (values_any w2 bx L hix s (by omega))
    clear h1 h2 hn hix hz HEs HEn
    go_wp2_with fail
    refine HV.out.mono ?_
    rintro e w3 ⟨v3, ss, rfl, hvs, ho, h3⟩
    have hB3 := Below.next hB2 h3
    have HX3 := hide (HX.out.below h3)
    have HO := hide ho
    have HST := hide (srtS_strict hvs.1)
    have HFD : Hid (∀ u ∈ srtS ss, P.chkM [(1, s, ⟨u.toArray⟩)] = 0 ∧ P.findL L [(1, s, ⟨u.toArray⟩)] ≠ []) := fun u hu => P.value_found HX.out.chk ((hvs.2 u).1 ((List.mergeSort_perm ss _).mem_iff.1 hu))
    obtain ⟨a3, c3, hva, hn1, hn2, _⟩ := ho.place
    unfold maxLen at hn2
    rw [hva] at HO ⊢
    clear hP h3 hB2 HX HV ho hvs hva
    generalize srtS ss = tt at HO HST HFD hn1 ⊢
    go_wp2
    go_loopw [36] (fun i wr => ∃ (k : Nat), k ≤ tt.length ∧ i = .int .i64 k ∧ Below w3.heap.size w3 wr) (fun i _ => tt.length - (intOf i).toNat)
    case atStart => exact ⟨0, by omega, rfl, Below.refl _ _⟩
    case round =>
      obtain ⟨k, hk, rfl, hBr⟩ := hrel
      have hB := Below.next hB3 hBr
      have hOr := HO.out.below hBr (Nat.le_refl _)
      by_cases hlt : k < tt.length
      · obtain ⟨x, hx⟩ : ∃ x, tt[k]? = some x := ⟨_, List.getElem?_eq_getElem hlt⟩
        obtain ⟨a', cap', hv', _, _, hpl⟩ := hOr.place
        obtain ⟨g, ha, hg, hc, _⟩ := hpl k x hx
        simp only [Value.slice.injEq] at hv'
        obtain ⟨rfl, _, rfl⟩ := hv'
        subst ha
        obtain ⟨hcm, hfne⟩ := HFD.out x (List.mem_of_getElem? hx)
        have j0 : (0 : Int) ≤ (k : Int) := by omega
        have j1 : (k : Int) < (tt.length : Int) := by omega
        have HOK : Hid (MtOk1 (1, s, ⟨x.toArray⟩)) := mtOk1_of hcm
        have hBa : Below wr.heap.size wr (wr.alloc (.cells #[.int .i64 1, .string s, .string ⟨x.toArray⟩] 34)) := (Below.refl _ wr).alloc (Nat.le_refl _) _
        have HFx := hide (HF.out _ (Below.next hB hBa) bx ((HX3.out.below hBr).below hBa) _ [(1, s, ⟨x.toArray⟩)] (RowX.one mtC 3 wr (1, s, ⟨x.toArray⟩) 34) (by intro y hy; simp at hy; subst hy; exact HOK.out))
        have HFR : Hid (fndL L [(1, s, ⟨x.toArray⟩)] ≠ []) := by show _ ≠ _; unfold fndL; rw [if_pos hcm]; exact hfne
        have HPR : Hid (0 < k → ∃ y, tt[k - 1]? = some y ∧ Op.bytesLess y x = true) := fun h0 => by
          have hk1 : k - 1 < tt.length := by omega
          refine ⟨tt[k - 1], List.getElem?_eq_getElem hk1, ?_⟩
          have := List.pairwise_iff_getElem.1 HST.out (k - 1) k hk1 hlt (by omega)
          rw [List.getElem?_eq_getElem hlt] at hx
          simp at hx
          rw [← hx]; exact this
        have HPL : Hid (∀ j y, tt[j]? = some y → wr.cell? ⟨g, j, none⟩ = some (.string ⟨y.toArray⟩)) := fun j y hy => by
          obtain ⟨g2, e2, _, c2, _⟩ := hpl j y hy
          simp at e2
          subst e2
          exact c2
        have HXT : Hid ((⟨x.toArray⟩ : ByteArray).toList = x) := by show _ = _; rw [Lib.toList_data]
        unfold FdPost at HFx
        generalize fndL L [(1, s, ⟨x.toArray⟩)] = fl at HFx HFR
        rw [hcm] at HFx
        generalize hxb : (⟨x.toArray⟩ : ByteArray) = xb at *
        clear hcm hfne hpl hg
        go_wp2_with fail
        refine HFx.out.mono ?_
        rintro e w4 ⟨v4, rfl, ho4, h4⟩
        obtain ⟨a4, c4, rfl⟩ := OwnK.shape ho4
        have hl0 : ((fl.length : Int) == 0) = false := by
          rw [beq_eq_false_iff_ne]
          intro e
          exact HFR.out (List.eq_nil_of_length_eq_zero (by omega))
        generalize fl.length = fn at hl0 ⊢
        have hB4 := Below.next hBa h4
        clear HFx ho4 HFR
        by_cases hk0 : 0 < k
        · obtain ⟨y, hy, hyx⟩ := HPR.out hk0
          have q1 := keep_cell (HPL.out (k - 1) y hy) hB4
          have hd0 : decide (0 < (k : Int)) = true := by simp; omega
          obtain ⟨i, hi⟩ : ∃ i, i = k - 1 := ⟨_, rfl⟩
          have e1 : IntKind.i64.wrap ((k : Int) - 1) = (i : Int) := by rw [IntKind.wrap_i64]; omega
          rw [← hi] at q1
          have j2 : (0 : Int) ≤ (i : Int) := by omega
          have j3 : (i : Int) < (tt.length : Int) := by omega
          have hyt : (⟨y.toArray⟩ : ByteArray).toList = y := by rw [Lib.toList_data]
          generalize hyb : (⟨y.toArray⟩ : ByteArray) = yb at *
          have l1 : Op.bytesLess yb.toList xb.toList = true := by rw [hyt, HXT.out]; exact hyx
          have l2 : Op.bytesLess xb.toList yb.toList = false := by
            cases h : Op.bytesLess xb.toList yb.toList with
            | false => rfl
            | true => have := P.less_trans l1 h; rw [P.less_irr] at this; cases this
          have l3 : (yb.toList == xb.toList) = false := by
            rw [beq_eq_false_iff_ne]; intro e; rw [e, P.less_irr] at l1; cases l1
          have l4 : (xb.toList == yb.toList) = false := by
            rw [beq_eq_false_iff_ne]; intro e; rw [e, P.less_irr] at l1; cases l1
          clear hyx hyb hyt hi hy HPR HPL HXT hxb hc
          go_wp2
          go_roundw
          case rel => exact ⟨k + 1, by omega, by go_num, Below.next hBr hB4⟩
          case measure => simp [intOf]; omega
        · have hd0 : decide (0 < (k : Int)) = false := by simp; omega
          clear HPR HPL HXT hxb hc
          go_wp2
          go_roundw
          case rel => exact ⟨k + 1, by omega, by go_num, Below.next hBr hB4⟩
          case measure => simp [intOf]; omega
      · obtain rfl : k = tt.length := by omega
        have hd : decide ((tt.length : Int) < (tt.length : Int)) = false := by simp
        go_wp2
        go_ret
        exact ⟨rfl, hB⟩
  · have HZ := hide hz
    have hz3 : (P.newE L != 0) = true := by simp [hz]
    go_enter Try.func3, Try.ntmps3
    go_wp2_with fail
    refine HI.out.mono ?_
    rintro e w1 ⟨rfl, h1⟩
    go_wp2_with fail
    refine (HN.out _ h1).mono ?_
    rintro e w2 ⟨hn, _, h2⟩
    have he := hn HZ.out
    subst he
    have hP := HEn.out w2
    clear hn hz
    generalize P.newE L = ne at hz3 ⊢
    go_wp2
    go_ret
    exact ⟨rfl, Below.next h1 h2⟩
set_option maxRecDepth 100000 in
theorem lifted_IndexValues (os : Os) (started : os.Started) (H : Type) (enc : TypeId × Value → H) :
    ReturnsInHanded {} Try.checked os 3 .any (Rows.indexValuesSpec.pre6 enc Try.prog Try.f3 Rows.indexValuesRow.domain false) (Rows.indexValuesSpec.post enc Try.prog Try.f3 false true false false) := by
  refine returnsInHanded_of_change_shaped (C := Try.checked) own started (by kernel_rfl) Try.func3
    (ChangeSpec.witness6 (enc := enc) (C := Try.checked) false ⟨#[], #[.slice none 0 0, .string ⟨#[]⟩], []⟩ 8 (by kernel_rfl) (by kernel_rfl) (by kernel_rfl) (by kernel_rfl)) ?_
  intro W base args ds gs before hval0 hW hcnd hsz0 hsh _
  obtain ⟨mx, hmx0⟩ := Try.laysM144.s1_3 W hsh
  have hmx : W.cell? ⟨0, 0, none⟩ = some (.int .i64 mx) := hmx0
  have hsz : (DataW.weightsEach Try.prog (Try.f3.params.toList ++ Rows.indexValuesSpec.plain.varTypes Try.prog) (ds ++ gs)).all (· ≤ reachBytes) = true := hsz0
  have hval : ∀ (j : Nat) t v, Try.f3.params[j]? = some t → args[j]? = some v → Value.okWide Try.prog W .any base t v := hval0
  have hW' := hW
  obtain ⟨p, q, hA0, hV, rfl, hfz, hnd⟩ := hW
  have hA : DataW.TrodAll enc Try.prog W 0 (fun _ => true) true Try.f3.params.toList args.toList ds p := hA0
  rw [Try.params3] at hA hval hsz
  obtain ⟨v0, vs0, d0, ds0, p0, q0, hargs, rfl, rfl, h0, r0⟩ := trodAll_cons hA
  obtain ⟨v1, vs1, d1, ds1, p1, q1, rfl, rfl, rfl, h1, r1⟩ := trodAll_cons r0
  obtain ⟨rfl, rfl, rfl⟩ := trodAll_nil r1
  obtain rfl : args = #[v0, v1] := by cases args; simp_all
  obtain ⟨rfl, rfl⟩ := trodVars_none hV
  have k0 := h0
  have lt0 : ∀ x ∈ p0, x.block < W.heap.size := by obtain ⟨m, hm⟩ := k0; exact DataW.trod_lt m _ _ _ hm
  obtain ⟨s0, len0, cap0, rfl⟩ := okWide_slice Try.underlying22 (hval 0 22 v0 rfl rfl)
  obtain ⟨l0, row0, wf0, sh0⟩ := open_labelss h0
  have rc0 := row_reachN hsz (j := 0) (t := 22) rfl rfl Try.underlying22 sh0
  rw [bytes41] at rc0
  have k1 := h1
  have lt1 : ∀ x ∈ p1, x.block < W.heap.size := by obtain ⟨m, hm⟩ := k1; exact DataW.trod_lt m _ _ _ hm
  obtain ⟨x1, rfl, rfl, rfl, ws1⟩ := Go.ChangeMaps.open_string Try.underlying9 (hval 1 9 v1 rfl rfl) h1
  have rc1 : x1.size ≤ 140737488351232 := by rw [Lib.size_eq]; exact sized_string hsz (j := 1) (t := 9) rfl rfl
  clear hA0 hval0
  refine (walk_IndexValues (.slice s0 len0 cap0) l0 x1 W row0 wf0 rc0 rc1 mx hmx).mono fun e W' ⟨he, bel⟩ => ?_
  subst he
  exact ⟨_, rfl, _, _, _, [], _, [], hW', trodAll_mk1 (shut_bool Try.underlying4 _), (trodAll_cons_mk (Below.trod laidOut (by kernel_rfl) (of_decide_eq_true (by kernel_rfl)) k0 bel lt0) (trodAll_cons_mk (Below.trod laidOut (by kernel_rfl) (of_decide_eq_true (by kernel_rfl)) k1 bel lt1) trodAll_mk0)), rfl, bel.frame _, fun h => by cases h⟩

theorem proved_IndexValues : Rows.IndexValuesSaid :=
  OpenClaim.holds_of_wide 3 Try.f3 rfl rfl rfl rfl rfl rfl rfl ⟨rfl, rfl, rfl, rfl, rfl⟩ rfl rfl rfl rfl rfl (by kernel_rfl) Try.func3 (by kernel_rfl)
    (of_decide_eq_true (by kernel_rfl)) (by unfold Func.isWrapper; first | (rw [if_pos (by decide +kernel)]; kernel_rfl) | (rw [if_neg (by decide +kernel)]; exact ⟨rfl, rfl⟩))
    (fun os started H enc _ => lifted_IndexValues os started H enc)
#print axioms proved_IndexValues
end Go.Proofs.Ytlghnnmgbdjgoab
