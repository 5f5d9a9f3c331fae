/- LeastFew holds: at all inputs the law answers true and changes nothing that was there. -/
import Derived.Test.YtpinhcbkfjoopaaLeBAll
import Derived.Test.YtpinhcbkfjoopaaLeGAll
namespace Go.Proofs.Ytpinhcbkfjoopaa
open Go.ChangeShapes Go.WideShapes Go.ChangeAt Go.RowKit
set_option linter.unusedVariables false
set_option linter.unusedSimpArgs false
theorem hs_u64 (L : List (List Int)) : U64 (P.hs L) := by
  intro x hx
  obtain ⟨bs, _, rfl⟩ := List.mem_map.1 hx
  have := P.hof_lt 0 bs
  omega
theorem ord_bot (k : Nat) (l : List Int) : P.Bot k (· ∈ l) ((ordU l).take k) := by
  have h := lstU_bot k l []
  unfold lstU at h
  rw [List.append_nil] at h
  exact h.iff fun x => by simp
theorem hs_next {L : List (List Int)} {j : Nat} {y : List Int} (h : L[j]? = some y) : P.hs (L.take (j + 1)) = P.hs (L.take j) ++ [(P.hof 0 y : Int)] := by
  rw [List.take_add_one, h]; simp [P.hs]
theorem hs_len (L : List (List Int)) : (P.hs L).length = L.length := by simp [P.hs]
set_option maxRecDepth 100000 in
set_option maxHeartbeats 4000000 in
theorem few_bad (k : Int) (v : Value) (L : List (List Int)) (w : World) (hk : ¬ (2 ≤ k ∧ k ≤ 64)) (hr : RowsB w v L) :
    Calls Try.prog 7 #[.int .i64 k, v] w fun e w' => e = .returned (.bool true) ∧ Below w.heap.size w w' := by
  have HSv := hide (fun wx => sieves_any wx)
  have HS1 := hide (fun wx v2 M (h : RowsB wx v2 M) => sieved_bad k v2 M wx hk h)
  have HR := hide (fun wx (h : Below w.heap.size w wx) => hr.below h (Nat.le_refl _))
  have hkk : k < 2 ∨ 64 < k := by omega
  obtain ⟨aa, ac, rfl⟩ := hr.shp
  clear hr hk
  go_enter Try.func7, Try.ntmps7
  go_upto_region 3 with (go_at_call 18; go_must (refine (HSv.out _).mono ?_); rintro e w1 ⟨rfl, hb1⟩)
  have HB1 := hide hb1
  have H1 := hide (HS1.out w1 _ _ (HR.out w1 hb1))
  clear hb1 HSv
  go_wp2_with fail
  refine H1.out.mono ?_
  rintro e w2 ⟨rfl, hb2⟩
  have HB2 := hide ((Below.next HB1.out hb2).alloc (Below.next HB1.out hb2).size (.cells #[.int .i64 0, .slice none 0 0] 24))
  clear HB1 H1 hb2
  by_cases h2 : k < 2
  · have hd : decide (k < 2) = true := by simpa using h2
    go_wp2
    go_ret
    exact ⟨rfl, HB2.out⟩
  · have hd : decide (k < 2) = false := by simpa using h2
    have hd2 : decide (64 < k) = true := by simp; omega
    go_wp2
    go_ret
    exact ⟨rfl, HB2.out⟩
set_option maxRecDepth 100000 in
set_option maxHeartbeats 1000000 in
theorem few_good (k : Nat) (v : Value) (L : List (List Int)) (w : World) (hk1 : 2 ≤ k) (hk2 : k ≤ 64) (hr : RowsB w v L) (hbt : ∀ y ∈ L, Byt y) (hn : L.length * 24 ≤ 140737488351232) :
    Calls Try.prog 7 #[.int .i64 k, v] w fun e w' => e = .returned (.bool true) ∧ Below w.heap.size w w' := by
  have HSv := hide (fun wx => sieves_any wx)
  have HS1 := hide (fun wx v2 M (h : RowsB wx v2 M) (h2 : ∀ y ∈ M, Byt y) => sieved_ok k v2 M wx hk1 hk2 h h2)
  have HR := hide (fun wx (h : Below w.heap.size w wx) => hr.below h (Nat.le_refl _))
  have HBt := hide hbt
  have HK := hide (And.intro hk1 hk2)
  obtain ⟨aa, ac, hv⟩ := hr.shp
  subst hv
  have hlm : L.length ≤ ac ∧ ac ≤ maxLen := by
    obtain ⟨a, c, hv, hc, _⟩ := hr
    simp only [Value.slice.injEq] at hv
    obtain ⟨rfl, _, rfl⟩ := hv
    exact ⟨hc.1, hc.2.1⟩
  unfold maxLen at hlm
  clear hr hbt hk1 hk2
  go_enter Try.func7, Try.ntmps7
  go_upto_region 3 with (go_at_call 18; go_must (refine (HSv.out _).mono ?_); rintro e w1 ⟨rfl, hb1⟩)
  have HB1 := hide hb1
  have H1 := hide (HS1.out w1 _ _ (HR.out w1 hb1) HBt.out)
  clear hb1 HSv HS1
  go_upto_region 7 with (go_at_call 19; go_must (refine H1.out.mono ?_); rintro e w2 ⟨va, R, rfl, ownA, botA, hb2⟩; obtain ⟨xa, xc, rfl⟩ := ownA.shape; have HBotA := hide botA; clear botA)
  have HB2 := hide ((Below.next HB1.out hb2).alloc (Below.next HB1.out hb2).size (.cells #[.int .i64 k, .slice xa R.length xc] 24))
  have HKa := hide (KL.new (k := (k : Int)) ownA)
  clear HB1 H1 hb2 ownA
  generalize w2.heap.size = ga at *
  generalize w2.alloc (.cells #[.int .i64 k, .slice xa R.length xc] 24) = W2 at *
  obtain ⟨aA, cA, hvA, _, hcase⟩ := HR.out W2 HB2.out
  simp only [Value.slice.injEq] at hvA
  obtain ⟨rfl, _, rfl⟩ := hvA
  have HH := hide (fun wx bv bs (h1 : RowB wx bv bs) (h2 : Byt bs) => (show Calls Try.prog 25 #[.int .u64 0, bv] wx fun e w' => e = .returned (.int .u64 (P.hof 0 bs : Nat)) ∧ w' = wx from of_any 0 bv bs wx (by decide) h1 h2))
  clear HR
  go_wp2
  go_loopw [30, 7] (fun i va wr => ∃ j : Nat, j ≤ L.length ∧ i = .int .i64 j ∧ OwnU wr W2.heap.size va (P.hs (L.take j)) ∧ Below W2.heap.size W2 wr) (fun i _ _ => L.length - (intOf i).toNat)
  case atStart => exact ⟨0, by omega, rfl, OwnK.nil _ _ _ _, Below.refl _ _⟩
  case round =>
    obtain ⟨j, hj, rfl, hown, hB⟩ := hrel
    by_cases hlt : j < L.length
    · have hd : decide ((j : Int) < (L.length : Int)) = true := by simp; omega
      rcases hcase with h | ⟨b, off, rfl, hbs, hcell⟩
      · rw [h] at hlt; simp at hlt
      obtain ⟨y, hy⟩ : ∃ x, L[j]? = some x := ⟨_, List.getElem?_eq_getElem hlt⟩
      obtain ⟨vj, q00, qr⟩ := hcell j y hy
      have q0 := (hB.cell (p := ⟨b, off + j, none⟩) hbs).trans q00
      have hyb := HBt.out y (List.mem_of_getElem? hy)
      have hry := qr.below hB (Nat.le_refl _)
      have j0 : (0 : Int) ≤ (j : Int) := by omega
      have j1 : (j : Int) < (L.length : Int) := by omega
      have HH2 := hide (HH.out wr vj y hry hyb)
      have HN := hide (hs_next hy)
      have hsl := hs_len (L.take j)
      rw [List.length_take] at hsl
      obtain ⟨h, hh⟩ : ∃ h : Int, (P.hof 0 y : Int) = h := ⟨_, rfl⟩
      rw [hh] at HH2 HN
      obtain ⟨acc, hacc⟩ : ∃ acc, P.hs (L.take j) = acc := ⟨_, rfl⟩
      rw [hacc] at hown HN hsl
      have hl8 : (acc.length + 1) * 8 ≤ 140737488355328 := by omega
      obtain ⟨ya, yc, rfl⟩ := qr.shp
      obtain ⟨oa, oc, rfl⟩ := hown.shape
      have HSZ := hide hB.size
      clear hcell hy q00 qr hry hyb hh hacc hsl
      go_wp2_with fail
      refine HH2.out.mono ?_
      rintro e w3 ⟨rfl, rfl⟩
      go_wp2_with (at_builtin; go_must (refine wp_app1K rfl _ _ 22 31 .u64 8 rfl Try.underlying22 Try.info31 (by decide) W2.heap.size W2.heap.size W2 w3 _ acc h hown hB (Nat.le_refl _) rfl rfl hl8 HSZ.out ?_); intro v' w' hown' hb' hsz' hg'; obtain ⟨a', cap', hv'⟩ := hown'.shape; rw [hv'] at hown' ⊢; clear hv')
      go_roundw
      case rel => exact ⟨j + 1, by omega, by go_num, by rw [HN.out]; simp only [List.length_append, List.length_singleton] at hown'; exact hown', hb'⟩
      case measure => simp [intOf]; omega
    · have hd : decide ((j : Int) < (L.length : Int)) = false := by simp; omega
      obtain rfl : j = L.length := by omega
      rw [List.take_length] at hown
      obtain ⟨l, hl⟩ : ∃ l, P.hs L = l := ⟨_, rfl⟩
      have hll : l.length = L.length := by rw [← hl, hs_len]
      have hU : U64 R := fun x hx => hs_u64 L x (HBotA.out.all x hx)
      rw [hl] at hown HBotA
      have hRt : (ordU l).take k = R := (ord_bot k l).one HBotA.out
      have HSo := hide (sort_own wr _ _ l hown (by omega))
      have HCo := hide (fun wx v2 (h : OwnU wx W2.heap.size v2 (srtU l)) => compact_own wx _ v2 (srtU l) h (by rw [srtU_len]; omega))
      have hro : dd (srtU l) = ordU l := rfl
      rw [hro] at HCo
      obtain ⟨r, hr⟩ : ∃ r, ordU l = r := ⟨_, rfl⟩
      rw [hr] at HCo hRt
      have hrl : r.length ≤ L.length := by rw [← hr, ← hll]; exact ordU_len l
      obtain ⟨oa, oc, rfl⟩ := hown.shape
      have HKb := hide (fun wx (h : Below W2.heap.size W2 wx) => HKa.out.below h)
      have HGu := hide (fun wx (h : RowK .u64 wx (.slice xa R.length xc) R) => Guess_ok (.slice xa R.length xc) k R wx h (Bot_good HBotA.out HK.out.1 HK.out.2) hU)
      have HBW := hide hB
      have HRt := hide hRt
      clear hcase hown hB hl hU hRt hro hr HBotA HKa HH HBt hll
      go_upto_region 13 with (go_at_call 26; go_must (refine HSo.out.mono ?_); rintro e w3 ⟨rfl, own3, hb3⟩)
      have HB3 := hide (HBW.out.trans hb3)
      have HC3 := hide (HCo.out w3 _ own3)
      clear HBW hb3 HSo HCo own3
      go_upto_region 14 with (go_at_call 27; go_must (refine HC3.out.mono ?_); rintro e w4 ⟨v4, rfl, own4, hb4⟩; obtain ⟨p4, c4, rfl⟩ := own4.shape)
      have HB4 := hide (HB3.out.trans hb4)
      have HK4 := hide (HKb.out w4 HB4.out)
      have HO4 := hide own4
      clear HB3 hb4 HC3 own4 HKb
      obtain ⟨x0, x1⟩ := HK4.out.box.cells
      have HG4 := hide (HGu.out w4 HK4.out.row)
      simp only at x0
      clear HGu
      go_upto_region 15 with (go_at_call 11; go_must (refine HG4.out.mono ?_); rintro e w5 ⟨rfl, hb5⟩)
      have HB5 := hide (Below.next HB2.out (HB4.out.trans (hb5.mono HB4.out.size)))
      have y1 : w5.cell? ⟨ga, 1, none⟩ = some (.slice xa R.length xc) := keep_cell x1 hb5
      have own5 := HO4.out.below hb5 (Nat.le_refl _)
      have HRow := hide (show RowK .u64 w5 (.slice xa R.length xc) R from (HK4.out.below hb5).row)
      have hcp := OwnU.capP own5
      have hform : (p4 = none ∧ r.length = 0) ∨ ∃ g, p4 = some ⟨g, 0, none⟩ := by
        rcases own5.2 with ⟨hv, h0⟩ | ⟨g, c, cur, hv, _⟩
        · simp only [Value.slice.injEq] at hv; exact .inl ⟨hv.1, h0⟩
        · simp only [Value.slice.injEq] at hv; exact .inr ⟨g, hv.1⟩
      have ew : IntKind.u64.wrap ((r.length : Int)) = (r.length : Int) := by rw [IntKind.wrap_u64]; omega
      clear x0 x1 hb5 HO4 HB4 HG4 HB2 hlm hrl
      by_cases hkn : k ≤ r.length
      · have hd2 : decide ((k : Int) ≤ (r.length : Int)) = true := by simp; omega
        have hd2n : decide (k ≤ r.length) = true := by simpa using hkn
        have hmin : min (k : Int) (r.length : Int) = (k : Int) := by omega
        have hrow2 : RowK .u64 w5 (.slice p4 k c4) R := by rw [← HRt.out]; exact (OwnU.take own5 k hkn).row
        have HEq := hide (fun n => equalU_yes _ _ R (w5.drewN n) (HRow.out.below (below_dn (Below.refl _ _) n) (Nat.le_refl _)) (hrow2.below (below_dn (Below.refl _ _) n) (Nat.le_refl _)))
        have i0 : (0 : Int) ≤ (k : Int) := by omega
        have i1 : (k : Int) ≤ (c4 : Int) := by omega
        have i2 : k ≤ c4 := by omega
        have i3 : (k : Int) ≤ (r.length : Int) := by omega
        clear own5 hcp hrow2 HRow HRt
        rcases hform with ⟨rfl, h0⟩ | ⟨g4, rfl⟩
        · have := HK.out.1; omega
        · go_quiet ((go_at_call 28; exact Calls.quiet_of (HEq.out _)))
          all_goals go_wp2
          all_goals go_ret
          all_goals exact ⟨rfl, below_dn HB5.out _⟩
      · have hd2 : decide ((k : Int) ≤ (r.length : Int)) = false := by simp; omega
        have hd2n : decide (k ≤ r.length) = false := by simpa using hkn
        have hmin : min (k : Int) (r.length : Int) = (r.length : Int) := by omega
        have hRr : R = r := by rw [← HRt.out, List.take_of_length_le (by omega)]
        have hrow2 : RowK .u64 w5 (.slice p4 r.length c4) R := by rw [hRr]; exact own5.row
        have HEq := hide (fun n => equalU_yes _ _ R (w5.drewN n) (HRow.out.below (below_dn (Below.refl _ _) n) (Nat.le_refl _)) (hrow2.below (below_dn (Below.refl _ _) n) (Nat.le_refl _)))
        have hgs : P.gs k R = r.length := by unfold P.gs; rw [hRr, if_pos (by omega)]
        have hd3 : ((P.gs k R : Int) == (r.length : Int)) = true := by simp [hgs]
        generalize P.gs k R = G at *
        have i0 : (0 : Int) ≤ (r.length : Int) := by omega
        have i1 : (r.length : Int) ≤ (c4 : Int) := by omega
        have i2 : r.length ≤ c4 := by omega
        have i3 : ¬ (k : Int) ≤ (r.length : Int) := by omega
        clear own5 hcp hrow2 HRow HRt hRr hgs
        go_quiet ((go_at_call 28; exact Calls.quiet_of (HEq.out _)))
        all_goals go_wp2
        all_goals go_ret
        all_goals exact ⟨rfl, below_dn HB5.out _⟩
theorem walk_LeastFew (k : Int) (v : Value) (L : List (List Int)) (w : World) (k0 : -9223372036854775808 ≤ k) (k1 : k ≤ 9223372036854775807) (hr : RowsB w v L) (hbt : ∀ y ∈ L, Byt y) (hn : L.length * 24 ≤ 140737488351232) :
    Calls Try.prog 7 #[.int .i64 k, v] w fun e w' => e = .returned (.bool true) ∧ Below w.heap.size w w' := by
  by_cases h : 2 ≤ k ∧ k ≤ 64
  · obtain ⟨K, rfl⟩ : ∃ K : Nat, k = K := ⟨k.toNat, by omega⟩
    exact few_good K v L w (by omega) (by omega) hr hbt hn
  · exact few_bad k v L w h hr
set_option maxRecDepth 100000 in
theorem lifted_LeastFew (os : Os) (started : os.Started) (H : Type) (enc : TypeId × Value → H) :
    ReturnsInHanded {} Try.checked os 7 .any (Rows.leastFewSpec.pre6 enc Try.prog Try.f7 Rows.leastFewRow.domain false) (Rows.leastFewSpec.post enc Try.prog Try.f7 false true false false) := by
  refine returnsInHanded_of_change_sized (C := Try.checked) own started (by kernel_rfl) Try.func7
    (ChangeSpec.witness6 (enc := enc) (C := Try.checked) false ⟨#[], #[.int .i64 0, .slice none 0 0], []⟩ 8 (by kernel_rfl) (by kernel_rfl) (by kernel_rfl) (by kernel_rfl)) ?_
  intro W base args ds gs before hval0 hW hcnd hsz0  _
  have hsz : (DataW.weightsEach Try.prog (Try.f7.params.toList ++ Rows.leastFewSpec.plain.varTypes Try.prog) (ds ++ gs)).all (· ≤ reachBytes) = true := hsz0
  have hval : ∀ (j : Nat) t v, Try.f7.params[j]? = some t → args[j]? = some v → Value.okWide Try.prog W .any base t v := hval0
  have hW' := hW
  obtain ⟨p, q, hA0, hV, rfl, hfz, hnd⟩ := hW
  have hA : DataW.TrodAll enc Try.prog W 0 (fun _ => true) true Try.f7.params.toList args.toList ds p := hA0
  rw [Try.params7] at hA hval hsz
  obtain ⟨v0, vs0, d0, ds0, p0, q0, hargs, rfl, rfl, h0, r0⟩ := trodAll_cons hA
  obtain ⟨v1, vs1, d1, ds1, p1, q1, rfl, rfl, rfl, h1, r1⟩ := trodAll_cons r0
  obtain ⟨rfl, rfl, rfl⟩ := trodAll_nil r1
  obtain rfl : args = #[v0, v1] := by cases args; simp_all
  obtain ⟨rfl, rfl⟩ := trodVars_none hV
  have k0 := h0
  have lt0 : ∀ x ∈ p0, x.block < W.heap.size := by obtain ⟨m, hm⟩ := k0; exact DataW.trod_lt m _ _ _ hm
  obtain ⟨a0, rfl, rfl, rfl, w0⟩ := open_int Try.underlying3 (hval 0 3 v0 rfl rfl) h0
  have b0 := bounds_i64 w0
  have k1 := h1
  have lt1 : ∀ x ∈ p1, x.block < W.heap.size := by obtain ⟨m, hm⟩ := k1; exact DataW.trod_lt m _ _ _ hm
  obtain ⟨s1, len1, cap1, rfl⟩ := okWide_slice Try.underlying40 (hval 1 40 v1 rfl rfl)
  obtain ⟨l1, row1, wf1, sh1⟩ := open_rowsB h1
  have rc1 := row_reachN hsz (j := 1) (t := 40) rfl rfl Try.underlying40 sh1
  rw [bytes25] at rc1
  clear hA0 hval0
  refine (walk_LeastFew a0 (.slice s1 len1 cap1) l1 W b0.1 b0.2 row1 wf1 rc1).mono fun e W' ⟨he, bel⟩ => ?_
  subst he
  exact ⟨_, rfl, _, _, _, [], _, [], hW', trodAll_mk1 (shut_bool Try.underlying4 _), (trodAll_cons_mk (Below.trod laidOut (by kernel_rfl) (of_decide_eq_true (by kernel_rfl)) k0 bel lt0) (trodAll_cons_mk (Below.trod laidOut (by kernel_rfl) (of_decide_eq_true (by kernel_rfl)) k1 bel lt1) trodAll_mk0)), rfl, bel.frame _, fun h => by cases h⟩

theorem proved_LeastFew : Rows.LeastFewSaid :=
  OpenClaim.holds_of_wide 7 Try.f7 rfl rfl rfl rfl rfl rfl rfl ⟨rfl, rfl, rfl, rfl, rfl⟩ rfl rfl rfl rfl rfl (by kernel_rfl) Try.func7 (by kernel_rfl)
    (of_decide_eq_true (by kernel_rfl)) (by unfold Func.isWrapper; first | (rw [if_pos (by decide +kernel)]; kernel_rfl) | (rw [if_neg (by decide +kernel)]; exact ⟨rfl, rfl⟩))
    (fun os started H enc _ => lifted_LeastFew os started H enc)
#print axioms proved_LeastFew
end Go.Proofs.Ytpinhcbkfjoopaa
