/- Several texts in one. -/
import Derived.Test.YtfjbdgkdkbcnhaaDoorRefOpenPAll
import Derived.Test.YtfjbdgkdkbcnhaaDoorStrPAll
import Derived.Test.YtfjbdgkdkbcnhaaDoorRefFaultAll
import Derived.Test.YtfjbdgkdkbcnhaaDoorTofWAll
import Derived.Test.YtfjbdgkdkbcnhaaDoorMofWAll
/- What the document's own Opened answers: a round of its first loop. -/
namespace Go.Proofs.YtfjbdgkdkbcnhaaDoor
open Go.RowKit
set_option linter.unusedVariables false
/-- How the first loop of Opened stands. -/
def OpAt (w : World) (b : List Int) (i vr vs : Value) (wr : World) : Prop :=
  ∃ (k : Nat) (L : List (List Bool)) (r : List Int), k ≤ 2 ∧ i = .int .i64 k ∧ P.OSt b k L r ∧ RowB w vr r ∧ Byt r ∧ r.length ≤ 400 ∧ (∀ bs ∈ L, bs.length ≤ 4000) ∧ OwnT wr w.heap.size vs L ∧ Below w.heap.size w wr
/-- What Opened answers. -/
def OPost (w : World) (b : List Int) (e : Ending) (w' : World) : Prop := Below w.heap.size w w' ∧ ∃ (v : Value) (m : List (Int × Int)) (ok : Bool), OwnS w' w.heap.size v m ∧ e = .returned (.tuple #[v, .bool ok]) ∧ P.OAns b m ok
theorem opost_none {w w' : World} {b : List Int} (hb : Below w.heap.size w w') (h : ∀ l, ¬ P.Sd b l) : OPost w b (.returned (.tuple #[.slice none 0 0, .bool false])) w' :=
  ⟨hb, _, [], false, OwnS.nil _ _, rfl, P.OAns.none h⟩
theorem P.tkB_none_no {r : List Int} (h : P.tkB r = none) : ∀ cs r', P.tkB r ≠ some (P.pack cs, cs.length, r') := fun cs r' e => by rw [h] at e; cases e
set_option maxRecDepth 100000 in
set_option maxHeartbeats 8000000 in
theorem opened_any (v : Value) (b : List Int) (w : World) (hr : RowB w v b) (hbt : Byt b) (hlen : b.length ≤ 400) :
    Calls Tryd.prog 13 #[v] w fun e w' => OPost w b e w' := by
  have HBb := hide hbt
  go_enter Tryd.func13, Tryd.ntmps13
  go_wp2
  go_loopw [17, 5, 4] (fun i vr vs wr => OpAt w b i vr vs wr) (fun i _ _ _ => 2 - (intOf i).toNat)
  case atStart => exact ⟨0, [], b, by omega, rfl, .inl ⟨rfl, rfl, rfl⟩, hr, hbt, hlen, (fun bs h => by cases h), OwnT.nil _ _, Below.refl _ _⟩
  case round =>
    obtain ⟨k, L, r, hk, rfl, hst, hrr, hbr, hrl, hLl, hos, hb⟩ := hrel
    clear hr hbt hlen
    have HSt := hide hst
    have HBr := hide hbr
    have HLl := hide hLl
    have hLn := hst.len
    by_cases hk2 : k < 2
    · have HT := hide (numberOf_any _ r wr (hrr.below hb (Nat.le_refl _)) hbr)
      have HRow := hide hrr
      obtain ⟨xr, cap, rfl, ⟨hlc, hmax, hnn⟩, hcase⟩ := hrr
      unfold maxLen at hmax
      have hk3 : (k : Int) < 2 := by omega
      have hL1 : L.length ≤ 1000 := by omega
      clear hst hbr hLl hLn
      by_cases h0 : (P.take r).2.2 = 0
      · obtain ⟨u, kk, hk1, hkk2, e1, e2, e3, hu0, _, _⟩ := P.takeL_ok r 0 0 (by omega) HBr.out h0
        have f1 : (P.take r).1 = u := by unfold P.take; rw [e1]; simp
        have f2 : (P.take r).2.1 = kk := by unfold P.take; rw [e2]; simp
        rcases hcase with h | ⟨p, o, rfl, hp, hc⟩
        · rw [h] at hkk2; simp at hkk2; omega
        clear hc
        by_cases h1 : u ≤ 80000
        · obtain ⟨n, hun⟩ : ∃ n : Nat, u = n := ⟨u.toNat, by omega⟩
          have hn : n ≤ 80000 := by omega
          rw [f1, f2, h0] at HT
          obtain ⟨nd, hnd⟩ : ∃ nd : Nat, (n + 7) / 8 = nd := ⟨_, rfl⟩
          obtain ⟨E, hE⟩ : ∃ E : Nat, kk + nd = E := ⟨_, rfl⟩
          have hl0 : decide ((80000 : Int) < u) = false := by rw [decide_eq_false_iff_not]; omega
          have hqd : (u + 7).tdiv 8 = (nd : Int) := by rw [Int.tdiv_eq_ediv_of_nonneg (by omega)]; omega
          have hqe : (u + 7) / 8 = (nd : Int) := by omega
          have hcv : IntKind.i64.wrap u = u := by rw [IntKind.wrap_i64]; omega
          have hu1 : u ≤ 9223372036854775000 := by omega
          have hE2 : (kk : Int) + (nd : Int) = (E : Int) := by omega
          have hE9 : (E : Int) ≤ 20000 := by omega
          have HU := hide hun
          have HLt := hide (fun j hj => (hos.lt j hj).2)
          have hsz := hb.size
          have i0 : (0 : Int) ≤ (kk : Int) := by omega
          by_cases h2 : E ≤ r.length
          · have HK : Hid (P.tkB r = some ((r.drop kk).take nd, n, (r.drop kk).drop nd)) := by
              show _ = _
              unfold P.tkB
              rw [f1, f2, hun]
              simp only [Int.toNat_natCast]
              rw [if_pos ⟨h0, by omega, by simp; omega⟩, hnd]
            have hdd : (r.drop kk).drop nd = r.drop E := by rw [List.drop_drop, hE]
            rw [hdd] at HK
            have HXB : Hid (Byt ((r.drop kk).take nd)) := fun z hz => HBr.out z (List.mem_of_mem_drop (List.mem_of_mem_take hz))
            have HRB : Hid (Byt (r.drop E)) := fun z hz => HBr.out z (List.mem_of_mem_drop hz)
            have hXl : ((r.drop kk).take nd).length = nd := by simp; omega
            have hRl : (r.drop E).length ≤ 400 := by simp; omega
            have t2 : ¬ (r.length : Int) < (E : Int) := by omega
            have i1 : (kk : Int) ≤ (E : Int) := by omega
            have i2 : (E : Int) ≤ (r.length : Int) := by omega
            have i3 : (E : Int) ≤ (cap : Int) := by omega
            have hEk : E - kk = nd := by omega
            have hnd8 : u ≤ 8 * nd := by omega
            have hndl : nd ≤ 400 := by omega
            clear e1 e2 e3 f1 f2 h0 hnd hun h1 hdd hnn hn
            by_cases hck : cap = kk
            · subst hck
              obtain rfl : nd = 0 := by omega
              obtain rfl : cap = E := by omega
              have hz1 : r.length - cap = 0 := by omega
              have RX : Hid (RowB w (.slice (some ⟨p, o, none⟩) 0 0) ((r.drop cap).take 0)) := by
                rw [List.take_zero]
                exact RowK.empty _ _ _ _ (by omega) (fun h => by cases h)
              have HTl : Hid (RowB w (.slice (some ⟨p, o, none⟩) 0 0) (r.drop cap)) := by
                rw [show r.drop cap = [] from List.drop_of_length_le (by omega)]
                exact RowK.empty _ _ _ _ (by omega) (fun h => by cases h)
              generalize (r.drop cap).take 0 = X at *
              generalize r.drop cap = R' at *
              by_cases hok : P.OkB X u
              · obtain ⟨bs, hbs, hXp⟩ := P.ok_pack X u HXB.out hok
                have HFt := hide (fun (w' : World) (h : Below w.heap.size w w') => fault_ok (.slice (some ⟨p, o, none⟩) 0 0) X u w' (RowK.below RX.out h (Nat.le_refl _)) HXB.out (by omega) hok)
                have HUn := hide (fun (w' : World) (h : Below w.heap.size w w') => unpacked_any (.slice (some ⟨p, o, none⟩) 0 0) bs w' (by rw [← hXp]; exact RowK.below RX.out h (Nat.le_refl _)) (by omega))
                rw [← hbs] at HUn
                have HNx := hide (HSt.out.next hk2 (cs := bs) (r' := R') (by rw [HK.out, hXp, show n = bs.length by have := HU.out; omega]))
                have hbl : bs.length ≤ 4000 := by have := HU.out; omega
                have HLl2 : Hid (∀ cs ∈ L ++ [bs], cs.length ≤ 4000) := by
                  intro cs hcs
                  rcases List.mem_append.1 hcs with h | h
                  · exact HLl.out cs h
                  · simp at h; subst h; exact hbl
                clear hok hbs hbl hXp
                go_wp2_with (go_at_call 29; go_must (refine HT.out.mono ?_); rintro e w1 ⟨rfl, rfl⟩)
                refine (HFt.out _ (below_alloc hb _)).mono ?_
                rintro e w2 ⟨rfl, hb2⟩
                obtain ⟨d0, d1, hb12, hsz2⟩ := box2 hb2
                have os2 := hos.below hb12 (Nat.le_refl _)
                have hbw2 := Below.next hb hb12
                clear hb2 hb12
                go_wp2_with fail
                refine (HUn.out _ hbw2).mono ?_
                rintro e w3 ⟨rfl, hb3⟩
                have os3 := os2.below hb3 (Nat.le_refl _)
                have d03 := keep_cell d0 hb3
                have hbw3 := Below.next hbw2 hb3
                clear hb3 os2
                go_wp2_with (at_builtin; go_must (refine wp_app1T rfl _ _ rfl w.heap.size w.heap.size w w3 _ L bs os3 hbw3 (Nat.le_refl _) rfl rfl hL1 hbw3.size ?_); intro v4 w4 os4 hbw4 sz4 hg4; have d04 := hg4.cell d03 (fun e => by have := HLt.out _ e.symm; simp at this))
                go_roundw
                case rel => exact ⟨k + 1, L ++ [bs], R', by omega, by go_num, HNx.out, HTl.out, HRB.out, by omega, HLl2.out, os4, hbw4⟩
                case measure => simp [intOf]; omega
              · have HFt := hide (fun (w' : World) (h : Below w.heap.size w w') => fault_bad (.slice (some ⟨p, o, none⟩) 0 0) X u w' (RowK.below RX.out h (Nat.le_refl _)) HXB.out (by omega) (by omega) (by omega) hok)
                have HNo := hide (HSt.out.no hk2 (fun cs r' e => by
                  rw [HK.out] at e
                  simp only [Option.some.injEq, Prod.mk.injEq] at e
                  exact hok (by rw [e.1, show u = cs.length by have := HU.out; omega]; exact P.pack_ok cs)))
                clear hok
                go_wp2_with (go_at_call 29; go_must (refine HT.out.mono ?_); rintro e w1 ⟨rfl, rfl⟩)
                refine (HFt.out _ (below_alloc hb _)).mono ?_
                rintro e w2 ⟨rfl, hb2⟩
                have hbw2 := Below.next hb (box2 hb2).2.2.1
                go_wp2
                go_ret2
                exact opost_none hbw2 HNo.out
            · have RX := hide (HRow.out.part kk nd (by omega) (o + kk) (cap - kk) rfl rfl)
              by_cases hcE : cap = E
              · have HTl : Hid (RowB w (.slice (some ⟨p, o, none⟩) 0 0) (r.drop E)) := by
                  rw [show r.drop E = [] from List.drop_of_length_le (by omega)]
                  exact RowK.empty _ _ _ _ (by omega) (fun h => by cases h)
                have RX2 := hide (HRow.out.part kk nd (by omega) (o + kk) nd rfl (by omega))
                clear RX
                subst hcE
                have hz1 : r.length - cap = 0 := by omega
                generalize (r.drop kk).take nd = X at *
                generalize r.drop cap = R' at *
                by_cases hok : P.OkB X u
                · obtain ⟨bs, hbs, hXp⟩ := P.ok_pack X u HXB.out hok
                  have HFt := hide (fun (w' : World) (h : Below w.heap.size w w') => fault_ok (.slice (some ⟨p, o + kk, none⟩) nd nd) X u w' (RowK.below RX2.out h (Nat.le_refl _)) HXB.out (by omega) hok)
                  have HUn := hide (fun (w' : World) (h : Below w.heap.size w w') => unpacked_any (.slice (some ⟨p, o + kk, none⟩) nd nd) bs w' (by rw [← hXp]; exact RowK.below RX2.out h (Nat.le_refl _)) (by omega))
                  rw [← hbs] at HUn
                  have HNx := hide (HSt.out.next hk2 (cs := bs) (r' := R') (by rw [HK.out, hXp, show n = bs.length by have := HU.out; omega]))
                  have hbl : bs.length ≤ 4000 := by have := HU.out; omega
                  have HLl2 : Hid (∀ cs ∈ L ++ [bs], cs.length ≤ 4000) := by
                    intro cs hcs
                    rcases List.mem_append.1 hcs with h | h
                    · exact HLl.out cs h
                    · simp at h; subst h; exact hbl
                  clear hok hbs hbl hXp
                  go_wp2_with (go_at_call 29; go_must (refine HT.out.mono ?_); rintro e w1 ⟨rfl, rfl⟩)
                  refine (HFt.out _ (below_alloc hb _)).mono ?_
                  rintro e w2 ⟨rfl, hb2⟩
                  obtain ⟨d0, d1, hb12, hsz2⟩ := box2 hb2
                  have os2 := hos.below hb12 (Nat.le_refl _)
                  have hbw2 := Below.next hb hb12
                  clear hb2 hb12
                  go_wp2_with fail
                  refine (HUn.out _ hbw2).mono ?_
                  rintro e w3 ⟨rfl, hb3⟩
                  have os3 := os2.below hb3 (Nat.le_refl _)
                  have d03 := keep_cell d0 hb3
                  have hbw3 := Below.next hbw2 hb3
                  clear hb3 os2
                  go_wp2_with (at_builtin; go_must (refine wp_app1T rfl _ _ rfl w.heap.size w.heap.size w w3 _ L bs os3 hbw3 (Nat.le_refl _) rfl rfl hL1 hbw3.size ?_); intro v4 w4 os4 hbw4 sz4 hg4; have d04 := hg4.cell d03 (fun e => by have := HLt.out _ e.symm; simp at this))
                  go_roundw
                  case rel => exact ⟨k + 1, L ++ [bs], R', by omega, by go_num, HNx.out, HTl.out, HRB.out, by omega, HLl2.out, os4, hbw4⟩
                  case measure => simp [intOf]; omega
                · have HFt := hide (fun (w' : World) (h : Below w.heap.size w w') => fault_bad (.slice (some ⟨p, o + kk, none⟩) nd nd) X u w' (RowK.below RX2.out h (Nat.le_refl _)) HXB.out (by omega) (by omega) (by omega) hok)
                  have HNo := hide (HSt.out.no hk2 (fun cs r' e => by
                    rw [HK.out] at e
                    simp only [Option.some.injEq, Prod.mk.injEq] at e
                    exact hok (by rw [e.1, show u = cs.length by have := HU.out; omega]; exact P.pack_ok cs)))
                  clear hok
                  go_wp2_with (go_at_call 29; go_must (refine HT.out.mono ?_); rintro e w1 ⟨rfl, rfl⟩)
                  refine (HFt.out _ (below_alloc hb _)).mono ?_
                  rintro e w2 ⟨rfl, hb2⟩
                  have hbw2 := Below.next hb (box2 hb2).2.2.1
                  go_wp2
                  go_ret2
                  exact opost_none hbw2 HNo.out
              · have HTl := hide (HRow.out.part E (r.length - E) (by omega) (o + E) (cap - E) rfl rfl)
                rw [List.take_of_length_le (by simp)] at HTl
                generalize (r.drop kk).take nd = X at *
                generalize r.drop E = R' at *
                by_cases hok : P.OkB X u
                · obtain ⟨bs, hbs, hXp⟩ := P.ok_pack X u HXB.out hok
                  have HFt := hide (fun (w' : World) (h : Below w.heap.size w w') => fault_ok (.slice (some ⟨p, o + kk, none⟩) nd (cap - kk)) X u w' (RowK.below RX.out h (Nat.le_refl _)) HXB.out (by omega) hok)
                  have HUn := hide (fun (w' : World) (h : Below w.heap.size w w') => unpacked_any (.slice (some ⟨p, o + kk, none⟩) nd (cap - kk)) bs w' (by rw [← hXp]; exact RowK.below RX.out h (Nat.le_refl _)) (by omega))
                  rw [← hbs] at HUn
                  have HNx := hide (HSt.out.next hk2 (cs := bs) (r' := R') (by rw [HK.out, hXp, show n = bs.length by have := HU.out; omega]))
                  have hbl : bs.length ≤ 4000 := by have := HU.out; omega
                  have HLl2 : Hid (∀ cs ∈ L ++ [bs], cs.length ≤ 4000) := by
                    intro cs hcs
                    rcases List.mem_append.1 hcs with h | h
                    · exact HLl.out cs h
                    · simp at h; subst h; exact hbl
                  clear hok hbs hbl hXp
                  go_wp2_with (go_at_call 29; go_must (refine HT.out.mono ?_); rintro e w1 ⟨rfl, rfl⟩)
                  refine (HFt.out _ (below_alloc hb _)).mono ?_
                  rintro e w2 ⟨rfl, hb2⟩
                  obtain ⟨d0, d1, hb12, hsz2⟩ := box2 hb2
                  have os2 := hos.below hb12 (Nat.le_refl _)
                  have hbw2 := Below.next hb hb12
                  clear hb2 hb12
                  go_wp2_with fail
                  refine (HUn.out _ hbw2).mono ?_
                  rintro e w3 ⟨rfl, hb3⟩
                  have os3 := os2.below hb3 (Nat.le_refl _)
                  have d03 := keep_cell d0 hb3
                  have hbw3 := Below.next hbw2 hb3
                  clear hb3 os2
                  go_wp2_with (at_builtin; go_must (refine wp_app1T rfl _ _ rfl w.heap.size w.heap.size w w3 _ L bs os3 hbw3 (Nat.le_refl _) rfl rfl hL1 hbw3.size ?_); intro v4 w4 os4 hbw4 sz4 hg4; have d04 := hg4.cell d03 (fun e => by have := HLt.out _ e.symm; simp at this))
                  go_roundw
                  case rel => exact ⟨k + 1, L ++ [bs], R', by omega, by go_num, HNx.out, HTl.out, HRB.out, by omega, HLl2.out, os4, hbw4⟩
                  case measure => simp [intOf]; omega
                · have HFt := hide (fun (w' : World) (h : Below w.heap.size w w') => fault_bad (.slice (some ⟨p, o + kk, none⟩) nd (cap - kk)) X u w' (RowK.below RX.out h (Nat.le_refl _)) HXB.out (by omega) (by omega) (by omega) hok)
                  have HNo := hide (HSt.out.no hk2 (fun cs r' e => by
                    rw [HK.out] at e
                    simp only [Option.some.injEq, Prod.mk.injEq] at e
                    exact hok (by rw [e.1, show u = cs.length by have := HU.out; omega]; exact P.pack_ok cs)))
                  clear hok
                  go_wp2_with (go_at_call 29; go_must (refine HT.out.mono ?_); rintro e w1 ⟨rfl, rfl⟩)
                  refine (HFt.out _ (below_alloc hb _)).mono ?_
                  rintro e w2 ⟨rfl, hb2⟩
                  have hbw2 := Below.next hb (box2 hb2).2.2.1
                  go_wp2
                  go_ret2
                  exact opost_none hbw2 HNo.out
          · have HNo := hide (HSt.out.no hk2 (P.tkB_none_no (P.tkB_s (by rw [f1, f2, hun]; simp; omega))))
            have t2 : (r.length : Int) < (E : Int) := by omega
            clear e1 e2 e3 f1 f2 h0 hnd hun h1 hnn hn
            go_wp2_with (go_at_call 29; go_must (refine HT.out.mono ?_); rintro e w1 ⟨rfl, rfl⟩)
            go_ret2
            exact opost_none hb HNo.out
        · have HNo := hide (HSt.out.no hk2 (P.tkB_none_no (P.tkB_l (by rw [f1]; exact h1))))
          rw [f1, f2, h0] at HT
          have t1 : decide ((80000 : Int) < u) = true := by rw [decide_eq_true_eq]; omega
          clear e1 e2 e3 f1 f2 h0 hnn
          go_wp2_with (go_at_call 29; go_must (refine HT.out.mono ?_); rintro e w1 ⟨rfl, rfl⟩)
          go_ret2
          exact opost_none hb HNo.out
      · have HNo := hide (HSt.out.no hk2 (P.tkB_none_no (P.tkB_e h0)))
        generalize (P.take r).2.2 = c at *
        have t1 : (c != 0) = true := by simpa using h0
        clear hcase hnn
        go_wp2_with (go_at_call 29; go_must (refine HT.out.mono ?_); rintro e w1 ⟨rfl, rfl⟩)
        go_ret2
        exact opost_none hb HNo.out
    · obtain rfl : k = 2 := by omega
      rcases hst with ⟨h, _⟩ | ⟨h, _⟩ | ⟨_, bs, cs, r1, rfl, hk1, hk22⟩
      · omega
      · omega
      obtain ⟨g, capS, rfl, hgw, s0, s1⟩ := hos.two
      have HTm := hide (fun (w' : World) => D.timesOf_any bs w' (HLl.out bs (by simp)))
      have HMm := hide (fun (w' : World) => X.measuresOf_any cs w' (HLl.out cs (by simp)))
      have HTwo := hide (fun (l : List (Int × Int)) (hl : P.Sd b l) => P.two_bits hk1 hk22 hl)
      have HK1 := hide hk1
      have HK2 := hide hk22
      obtain ⟨xr, cr, hvr⟩ : ∃ a c, u5 = .slice a r.length c := by obtain ⟨a, c, h, _⟩ := hrr; exact ⟨a, c, h⟩
      rw [hvr]
      clear hvr hrr hbr hLl hLn hos hk1 hk22 hk2 hk
      go_wp2_with fail
      refine (HTm.out _).mono ?_
      rintro e w2 ⟨hb2, t, at2, ct2, ok1, ot, rfl, t1, t2⟩
      have s1' := keep_cell s1 hb2
      have hbw2 := Below.next hb hb2
      have HT1 := hide t1
      have HT2 := hide t2
      clear t1 t2 hb2 HTm s0 s1
      go_wp2_with fail
      refine (HMm.out _).mono ?_
      rintro e w3 ⟨hb3, m, am, cm, ok2, om, rfl, m1, m2⟩
      have ot3 := OwnK.below ot hb3 (Nat.le_refl _)
      have hbw3 := Below.next hbw2 hb3
      have HM1 := hide m1
      have HM2 := hide m2
      clear m1 m2 hb3 HMm s1' ot
      by_cases hok1 : ok1 = true
      · subst hok1
        by_cases hok2 : ok2 = true
        · subst hok2
          by_cases hlen : t.length = m.length
          · have hne : ((t.length : Int) != (m.length : Int)) = false := by simp [hlen]
            by_cases hr0 : r = []
            · subst hr0
              have hr1 : ¬ (0 : Int) < (([] : List Int).length : Int) := by simp
              have hIt := HT1.out rfl
              have hIm := HM1.out rfl
              have htl : t.length ≤ 1000 := hIt.1
              have HJl := hide (P.jn_length t m hlen)
              have HJI := hide (P.jn_i64 (m := m) hIt.2.1)
              have HIt := hide hIt
              have HIm := hide hIm
              have HLen := hide hlen
              have HS := hide (P.jn_snoc t m hlen)
              clear hIt hIm hlen
              obtain ⟨_, _, hvt, ⟨hlct, hmxt, _⟩, hct⟩ := ot3.row
              obtain ⟨_, _, hvm, ⟨hlcm, hmxm, _⟩, hcm⟩ := om.row
              simp only [Value.slice.injEq, true_and] at hvt hvm
              obtain ⟨rfl, rfl⟩ := hvt
              obtain ⟨rfl, rfl⟩ := hvm
              unfold maxLen at hmxt hmxm
              simp only [List.length_nil] at *
              go_wp2
              go_loopw [104, 14] (fun i vl wr => JoinAt w3 t m i vl wr) (fun i _ _ => t.length - (intOf i).toNat)
              case atStart => exact ⟨0, by omega, rfl, OwnS.nil _ _, Below.refl _ _⟩
              case round =>
                obtain ⟨k, hk, rfl, hown, hbk⟩ := hrel
                have hsz := hbk.size
                by_cases hlt : k < t.length
                · have hlt2 : k < m.length := by have := HLen.out; omega
                  rcases hct with h | ⟨p, o, rfl, hp, hc⟩
                  · rw [h] at hlt; simp at hlt
                  rcases hcm with h | ⟨p2, o2, rfl, hp2, hc2⟩
                  · rw [h] at hlt2; simp at hlt2
                  have g0 := (hbk.cell (p := ⟨p, o + k, none⟩) hp).trans (hc k hlt)
                  have g1 := (hbk.cell (p := ⟨p2, o2 + k, none⟩) hp2).trans (hc2 k hlt2)
                  have HN := hide (HS.out k hlt)
                  have hlJ : (P.jn (t.take k) (m.take k)).length = k := by rw [P.jn_length _ _ (by have := HLen.out; simp; omega)]; simp; omega
                  generalize t.getD k 0 = x at *
                  generalize m.getD k 0 = y at *
                  clear hc hc2 HS
                  have hpr : p < wr.heap.size := by omega
                  have hpr2 : p2 < wr.heap.size := by omega
                  have n0 : (0 : Int) ≤ (k : Int) := by omega
                  have n1 : (k : Int) < (t.length : Int) := by omega
                  have n2 : (k : Int) < (m.length : Int) := by omega
                  generalize P.jn (t.take k) (m.take k) = J at *
                  have hlJ' : J.length ≤ 1000 := by omega
                  clear hlJ
                  obtain ⟨z, hz⟩ : ∃ z, wrap64 y = z := ⟨_, rfl⟩
                  rw [hz] at HN
                  have hz2 : IntKind.i64.wrap y = z := by rw [← hz, IntKind.wrap_i64]; unfold wrap64; omega
                  go_wp2
                  go_region_law (refine step_oneS rfl (.tmp 107) (.tmp 118) rfl w3.heap.size w3.heap.size w3 wr _ J (x, z) hown hbk (Nat.le_refl _) rfl rfl (by omega) hsz hsz ?_; intro v' w6 own6 bl6 sz6)
                  all_goals
                    go_wp2
                    go_roundw
                    case rel => exact ⟨k + 1, by omega, by go_num, by rw [HN.out]; exact own6, bl6⟩
                    case measure => simp [intOf]; omega
                · have hd : decide ((k : Int) < (t.length : Int)) = false := by simp; omega
                  obtain rfl : k = t.length := by omega
                  have e : m.take t.length = m := by rw [HLen.out, List.take_length]
                  rw [List.take_length, e] at hown
                  clear e
                  have HF := hide (samplesFault_any _ (P.jn t m) wr hown.row)
                  have own9 := hown.base hbw3.size
                  have hbw9 := Below.next hbw3 hbk
                  clear hown hbk
                  by_cases hchk : P.chk (P.jn t m) = 0
                  · have HSd : Hid (P.Sd b (P.jn t m)) := P.Sd.of HBb.out HK1.out HK2.out ⟨HIt.out.1, HIt.out.2.1, by rw [← HIt.out.2.2], by rw [← HIt.out.2.2]⟩ ⟨HIm.out.1, HIm.out.2.1, by rw [← HIm.out.2.2], by rw [← HIm.out.2.2]⟩ HLen.out hchk
                    rw [hchk] at HF
                    clear hchk
                    go_wp2_with (go_at_call 8; go_must (refine HF.out.mono ?_); rintro e w7 ⟨rfl, hb7⟩)
                    go_ret2
                    exact ⟨Below.next hbw9 hb7, _, P.jn t m, true, own9.below hb7 (Nat.le_refl _), rfl, HJI.out, by rw [HJl.out]; exact htl, fun _ => HSd.out, fun h => by cases h⟩
                  · have HNo : Hid (∀ l, ¬ P.Sd b l) := fun l hl => hchk (by
                      rw [(HT2.out _ (HTwo.out l hl).1).1, (HM2.out _ (HTwo.out l hl).2.1).1, P.jn_self hl.2.1]; exact hl.1)
                    generalize hc9 : P.chk (P.jn t m) = c9 at *
                    have htc : (c9 == 0) = false := by simpa using hchk
                    clear hchk hc9
                    go_wp2_with (go_at_call 8; go_must (refine HF.out.mono ?_); rintro e w7 ⟨rfl, hb7⟩)
                    go_ret2
                    exact ⟨Below.next hbw9 hb7, _, P.jn t m, false, own9.below hb7 (Nat.le_refl _), rfl, HJI.out, by rw [HJl.out]; exact htl, (fun h => by cases h), fun _ => HNo.out⟩
            · have HNo : Hid (∀ l, ¬ P.Sd b l) := fun l hl => hr0 (HTwo.out l hl).2.2
              have hr1 : (0 : Int) < (r.length : Int) := by have := List.length_pos_iff.2 hr0; omega
              clear hlen hr0
              go_wp2
              go_ret2
              exact opost_none hbw3 HNo.out
          · have hne : ((t.length : Int) != (m.length : Int)) = true := by rw [bne_iff_ne]; omega
            have HNo : Hid (∀ l, ¬ P.Sd b l) := fun l hl => hlen (by
              rw [(HT2.out _ (HTwo.out l hl).1).1, (HM2.out _ (HTwo.out l hl).2.1).1]; unfold P.tms P.mss; simp)
            clear hlen
            go_wp2
            go_ret2
            exact opost_none hbw3 HNo.out
        · have HNo : Hid (∀ l, ¬ P.Sd b l) := fun l hl => hok2 (HM2.out _ (HTwo.out l hl).2.1).2
          rw [Bool.not_eq_true] at hok2
          subst hok2
          go_wp2
          go_ret2
          exact opost_none hbw3 HNo.out
      · have HNo : Hid (∀ l, ¬ P.Sd b l) := fun l hl => hok1 (HT2.out _ (HTwo.out l hl).1).2
        rw [Bool.not_eq_true] at hok1
        subst hok1
        go_wp2
        go_ret2
        exact opost_none hbw3 HNo.out
end Go.Proofs.YtfjbdgkdkbcnhaaDoor
