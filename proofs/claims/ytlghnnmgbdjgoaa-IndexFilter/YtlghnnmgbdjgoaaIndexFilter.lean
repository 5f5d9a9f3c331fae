/- What is found are just those that fit: for whatever labels and matches the statement's function answers true. No condition. -/
import Derived.Test.YtlghnnmgbdjgoaaKitLL
import Derived.Test.YtlghnnmgbdjgoaaIdxS
import Derived.Test.YtlghnnmgbdjgoaaSetL
import Derived.HandedShaped
namespace Go.Proofs.Ytlghnnmgbdjgoaa
open Go.RowKit Go.ChangeShapes Go.WideShapes Go.ChangeAt Go.Joins
set_option linter.unusedVariables false
theorem eqP_some (b : Nat) (w : World) : (binOp BinOp.eql 24 (.pointer (some ⟨b, 0, none⟩)) (.pointer none)).run Try.prog w = .ok (.bool false) w := by kernel_rfl
theorem eqP_none (w : World) : (binOp BinOp.eql 24 (.pointer none) (.pointer none)).run Try.prog w = .ok (.bool true) w := by kernel_rfl
theorem P.newF_zero {L : List (List P.Lb)} (h : P.newF L = 0) : ∀ l ∈ L, P.chk l = 0 := by
  induction L with
  | nil => intro l hl; cases hl
  | cons y L ih =>
    rw [P.newF] at h
    by_cases hy : P.chk y = 0
    · rw [if_pos hy] at h
      intro l hl
      rcases List.mem_cons.1 hl with rfl | hl
      · exact hy
      · exact ih h l hl
    · rw [if_neg hy] at h; exact absurd h hy
theorem P.has_fit {L : List (List P.Lb)} {m : List P.Mt} {k : Nat} {l : List P.Lb} (hx : L[k]? = some l) (hc : P.chk l = 0) (hm : P.chkM m = 0) : (P.findL L m).contains (k : Int) = P.fitsB l m := by
  have hk : k < L.length := (List.getElem?_eq_some_iff.1 hx).1
  have e : L.getD k [] = l := by simp [List.getD_eq_getElem?_getD, hx]
  have h1 := P.mem_findL L m (k : Int)
  rw [Int.toNat_natCast, e] at h1
  unfold P.fitsB
  simp only [hc, hm, decide_true, Bool.true_and]
  cases hh : m.all (P.fit1 l) with
  | true => rw [List.contains_iff_mem]; exact h1.2 ⟨by omega, hh⟩
  | false =>
    rw [hh] at h1
    cases hq : (P.findL L m).contains (k : Int) with
    | false => rfl
    | true => have := h1.1 (List.contains_iff_mem.1 hq); simp at this
set_option maxRecDepth 100000 in
set_option maxHeartbeats 2000000 in
theorem walk_IndexFilter (v0 : Value) (L : List (List P.Lb)) (v1 : Value) (m : List P.Mt) (w : World) (r0 : RowsL w v0 L) (k0 : ∀ l ∈ L, LbOk l) (rc0 : L.length * 24 ≤ 140737488351232) (r1 : RowM w v1 m) (k1 : MtOk m) (rc1 : m.length * 40 ≤ 140737488351232)
    (mx : Int) (hmx : w.cell? ⟨0, 0, none⟩ = some (.int .i64 mx)) :
    Calls Try.prog 5 #[v0, v1] w fun e w' => e = .returned (.bool true) ∧ Below w.heap.size w w' := by
  have HI := hide (indexes_any w)
  have HN := hide (fun (W : World) (hb : Below w.heap.size w W) => new_any W v0 L (r0.below hb (Nat.le_refl _)) k0)
  have HF := hide (fun (W : World) (hb : Below w.heap.size w W) (bx : Nat) (hi : Ix W bx L) => find_any W bx L hi v1 m (r1.below hb (Nat.le_refl _)) k1 mx (keep_cell hmx hb))
  have HG := hide (fun (W : World) (hb : Below w.heap.size w W) (vj : Value) (l : List P.Lb) (hr : RowL w vj l) (hl : LbOk l) => fits_any vj v1 l m W (hr.below hb (Nat.le_refl _)) hl (r1.below hb (Nat.le_refl _)) k1 mx (keep_cell hmx hb))
  have HEs := hide eqP_some
  have HEn := hide eqP_none
  obtain ⟨a0, c0, rfl, ⟨hlc0, hm0⟩, hcase⟩ := r0
  obtain ⟨a1, c1, rfl, ⟨hlc1, hm1, _⟩, _⟩ := r1
  unfold maxLen at hm0 hm1
  clear hmx
  by_cases hz : P.newE L = 0
  · have HZ := hide hz
    go_enter Try.func5, Try.ntmps5
    go_wp2_with fail
    refine HI.out.mono ?_
    rintro e w1 ⟨rfl, h1⟩
    go_wp2_with fail
    refine (HN.out _ h1).mono ?_
    rintro e w2 ⟨_, hn, h2⟩
    obtain ⟨bx, rfl, hix⟩ := hn HZ.out
    have hB2 := Below.next h1 h2
    have HX := hide hix
    have hP := HEs.out bx w2
    clear h1 h2 hn hix hz
    go_wp2_with fail
    refine (HF.out _ hB2 bx HX.out).mono ?_
    rintro e w3 ⟨v3, rfl, ho, h3⟩
    have hB3 := Below.next hB2 h3
    have HX3 := hide (HX.out.below h3)
    have HO := hide ho
    obtain ⟨a3, c3, rfl⟩ := OwnK.shape ho
    clear hP h3 hB2 HX ho HF
    by_cases hcm : P.chkM m = 0
    · have HCM := hide hcm
      have HFL : Hid (fndL L m = P.findL L m) := by show _ = _; unfold fndL; rw [if_pos hcm]
      rw [show fndL L m = P.findL L m from HFL.out] at HO ⊢
      rw [hcm]
      clear hcm
      have HAS := hide (P.findL_asc L m)
      have HLE := P.findL_len L m
      have HHF := hide (fun k l hx hc => P.has_fit (L := L) (m := m) (k := k) (l := l) hx hc HCM.out)
      generalize P.findL L m = fl at HO HAS HLE HHF ⊢
      have HCH : Hid (∀ (k : Nat) l, L[k]? = some l → P.chk l = 0) := fun k l hx => by
        have h1 := HX3.out.chk k (List.getElem?_eq_some_iff.1 hx).1
        rw [show L.getD k [] = l by simp [List.getD_eq_getElem?_getD, hx]] at h1
        exact h1
      go_wp2
      go_loopw [45] (fun i wr => ∃ (k : Nat), k ≤ L.length ∧ i = .int .i64 k ∧ Below w3.heap.size w3 wr) (fun i _ => L.length - (intOf i).toNat)
      case atStart => exact ⟨0, by omega, rfl, Below.refl _ _⟩
      case round =>
        obtain ⟨k, hk, rfl, hBr⟩ := hrel
        have hB := Below.next hB3 hBr
        have hHO := OwnK.row (OwnK.below HO.out hBr (Nat.le_refl _))
        by_cases hlt : k < L.length
        · rcases hcase with h | ⟨b, off, rfl, hbs, hcell⟩
          · rw [h] at hlt; simp at hlt
          have j0 : (0 : Int) ≤ (k : Int) := by omega
          have j1 : (k : Int) < (L.length : Int) := by omega
          obtain ⟨l, hx⟩ : ∃ x, L[k]? = some x := ⟨_, List.getElem?_eq_getElem hlt⟩
          obtain ⟨vj, g0, hrow⟩ := hcell k l hx
          have q0 := (hB.cell (p := ⟨b, off + k, none⟩) hbs).trans g0
          have hc := HCH.out k l hx
          have HFE : Hid (P.fitsE l m = 0) := by show _ = _; unfold P.fitsE; rw [if_pos hc]; exact HCM.out
          have HGl := hide (HG.out wr hB vj l hrow (k0 l (List.mem_of_getElem? hx)))
          rw [show P.fitsE l m = 0 from HFE.out] at HGl
          have HCN := hide (fun W (hb : Below wr.heap.size wr W) => containsI_any _ fl (k : Int) W (hHO.below hb (Nat.le_refl _)))
          rw [HHF.out k l hx hc] at HCN
          obtain ⟨al, cl, rfl, _⟩ := hrow
          clear hcell g0 hx hc HFE hHO HHF HCH
          generalize P.fitsB l m = A at HGl HCN
          have hAA : (A != A) = false := by cases A <;> rfl
          go_wp2_with (first
            | (go_at_call 26; refine HGl.out.mono ?_; rintro e w4 ⟨rfl, h4⟩)
            | (go_at_call 20; refine (HCN.out _ h4).mono ?_; rintro e w5 ⟨rfl, rfl⟩))
          go_roundw
          case rel => exact ⟨k + 1, by omega, by go_num, Below.next hBr h4⟩
          case measure => simp [intOf]; omega
        · obtain rfl : k = L.length := by omega
          have hdd : decide ((L.length : Int) < (L.length : Int)) = false := by simp
          have hle : decide ((fl.length : Int) ≤ (L.length : Int)) = true := by simp; omega
          have HSR := hide (isSorted_asc _ fl wr hHO HAS.out)
          go_wp2_with (go_at_call 27; refine HSR.out.mono ?_; rintro e w4 ⟨rfl, h4⟩)
          go_ret
          exact ⟨rfl, Below.next hB h4⟩
    · have hz3 : (P.chkM m != 0) = true := by simp [hcm]
      have HFL : Hid (fndL L m = []) := by show _ = _; unfold fndL; rw [if_neg hcm]
      rw [show fndL L m = [] from HFL.out]
      generalize P.chkM m = cm at hz3 ⊢
      clear hcm
      go_wp2
      go_ret
      exact ⟨rfl, hB3⟩
  · have HZ := hide hz
    have hz3 : (P.newE L != 0) = true := by simp [hz]
    go_enter Try.func5, Try.ntmps5
    go_wp2_with fail
    refine HI.out.mono ?_
    rintro e w1 ⟨rfl, h1⟩
    go_wp2_with fail
    refine (HN.out _ h1).mono ?_
    rintro e w2 ⟨hn, _, h2⟩
    have he := hn HZ.out
    subst he
    have hP := HEn.out w2
    clear hn hz
    generalize P.newE L = ne at hz3 ⊢
    go_wp2
    go_ret
    exact ⟨rfl, Below.next h1 h2⟩
set_option maxRecDepth 100000 in
theorem lifted_IndexFilter (os : Os) (started : os.Started) (H : Type) (enc : TypeId × Value → H) :
    ReturnsInHanded {} Try.checked os 5 .any (Rows.indexFilterSpec.pre6 enc Try.prog Try.f5 Rows.indexFilterRow.domain false) (Rows.indexFilterSpec.post enc Try.prog Try.f5 false true false false) := by
  refine returnsInHanded_of_change_shaped (C := Try.checked) own started (by kernel_rfl) Try.func5
    (ChangeSpec.witness6 (enc := enc) (C := Try.checked) false ⟨#[], #[.slice none 0 0, .slice none 0 0], []⟩ 8 (by kernel_rfl) (by kernel_rfl) (by kernel_rfl) (by kernel_rfl)) ?_
  intro W base args ds gs before hval0 hW hcnd hsz0 hsh _
  obtain ⟨mx, hmx0⟩ := Try.laysM144.s1_3 W hsh
  have hmx : W.cell? ⟨0, 0, none⟩ = some (.int .i64 mx) := hmx0
  have hsz : (DataW.weightsEach Try.prog (Try.f5.params.toList ++ Rows.indexFilterSpec.plain.varTypes Try.prog) (ds ++ gs)).all (· ≤ reachBytes) = true := hsz0
  have hval : ∀ (j : Nat) t v, Try.f5.params[j]? = some t → args[j]? = some v → Value.okWide Try.prog W .any base t v := hval0
  have hW' := hW
  obtain ⟨p, q, hA0, hV, rfl, hfz, hnd⟩ := hW
  have hA : DataW.TrodAll enc Try.prog W 0 (fun _ => true) true Try.f5.params.toList args.toList ds p := hA0
  rw [Try.params5] at hA hval hsz
  obtain ⟨v0, vs0, d0, ds0, p0, q0, hargs, rfl, rfl, h0, r0⟩ := trodAll_cons hA
  obtain ⟨v1, vs1, d1, ds1, p1, q1, rfl, rfl, rfl, h1, r1⟩ := trodAll_cons r0
  obtain ⟨rfl, rfl, rfl⟩ := trodAll_nil r1
  obtain rfl : args = #[v0, v1] := by cases args; simp_all
  obtain ⟨rfl, rfl⟩ := trodVars_none hV
  have k0 := h0
  have lt0 : ∀ x ∈ p0, x.block < W.heap.size := by obtain ⟨m, hm⟩ := k0; exact DataW.trod_lt m _ _ _ hm
  obtain ⟨s0, len0, cap0, rfl⟩ := okWide_slice Try.underlying22 (hval 0 22 v0 rfl rfl)
  obtain ⟨l0, row0, wf0, sh0⟩ := open_labelss h0
  have rc0 := row_reachN hsz (j := 0) (t := 22) rfl rfl Try.underlying22 sh0
  rw [bytes28] at rc0
  have k1 := h1
  have lt1 : ∀ x ∈ p1, x.block < W.heap.size := by obtain ⟨m, hm⟩ := k1; exact DataW.trod_lt m _ _ _ hm
  obtain ⟨s1, len1, cap1, rfl⟩ := okWide_slice Try.underlying23 (hval 1 23 v1 rfl rfl)
  obtain ⟨l1, row1, wf1, sh1⟩ := open_matches h1
  have rc1 := row_reachN hsz (j := 1) (t := 23) rfl rfl Try.underlying23 sh1
  rw [bytes56] at rc1
  clear hA0 hval0
  refine (walk_IndexFilter (.slice s0 len0 cap0) l0 (.slice s1 len1 cap1) l1 W row0 wf0 rc0 row1 wf1 rc1 mx hmx).mono fun e W' ⟨he, bel⟩ => ?_
  subst he
  exact ⟨_, rfl, _, _, _, [], _, [], hW', trodAll_mk1 (shut_bool Try.underlying4 _), (trodAll_cons_mk (Below.trod laidOut (by kernel_rfl) (of_decide_eq_true (by kernel_rfl)) k0 bel lt0) (trodAll_cons_mk (Below.trod laidOut (by kernel_rfl) (of_decide_eq_true (by kernel_rfl)) k1 bel lt1) trodAll_mk0)), rfl, bel.frame _, fun h => by cases h⟩

theorem proved_IndexFilter : Rows.IndexFilterSaid :=
  OpenClaim.holds_of_wide 5 Try.f5 rfl rfl rfl rfl rfl rfl rfl ⟨rfl, rfl, rfl, rfl, rfl⟩ rfl rfl rfl rfl rfl (by kernel_rfl) Try.func5 (by kernel_rfl)
    (of_decide_eq_true (by kernel_rfl)) (by unfold Func.isWrapper; first | (rw [if_pos (by decide +kernel)]; kernel_rfl) | (rw [if_neg (by decide +kernel)]; exact ⟨rfl, rfl⟩))
    (fun os started H enc _ => lifted_IndexFilter os started H enc)
#print axioms proved_IndexFilter
end Go.Proofs.Ytlghnnmgbdjgoaa
