/- Several texts in one. -/
import Derived.Test.YtenfpkokogfdaaaSkAdAll
/- What Add answers of a sketch that may stand. -/
namespace Go.Proofs.Ytenfpkokogfdaaa
open Go.RowKit
set_option linter.unusedVariables false
set_option maxRecDepth 100000 in
set_option maxHeartbeats 1000000 in
theorem Add_err (cv : Value) (S : P.Sk) (q : ByteArray) (m : Int) (w : World) (hr : RowK .i64 w cv S.c) (hg : P.SkGood S) (hm0 : -9223372036854775808 ≤ m) (hm1 : m ≤ 9223372036854775807) (he : m < 0 ∨ (0 ≤ m ∧ 1152921504606846976 < S.n + m)) :
    Calls Try.prog 10 #[aggK cv S, .string q, .int .i64 m] w fun e w' => e = .returned (.tuple #[zeroK, .int .i64 (P.adE S m)]) ∧ Below w.heap.size w w' := by
  have HB := hide (((Below.refl w.heap.size w).alloc (Nat.le_refl _) (.cells #[.int .i64 S.d, .int .i64 S.w, cv, .int .i64 S.n] 24)).alloc (by simp) (.cells #[.int .i64 0, .int .i64 0, .slice none 0 0, .int .i64 0] 24))
  have HC : Hid (Calls Try.prog 14 #[.agg #[.int .i64 S.d, .int .i64 S.w, cv, .int .i64 S.n]] ((w.alloc (.cells #[.int .i64 S.d, .int .i64 S.w, cv, .int .i64 S.n] 24)).alloc (.cells #[.int .i64 0, .int .i64 0, .slice none 0 0, .int .i64 0] 24)) fun e w' => e = .returned (.int .i64 0) ∧ Below ((w.alloc (.cells #[.int .i64 S.d, .int .i64 S.w, cv, .int .i64 S.n] 24)).alloc (.cells #[.int .i64 0, .int .i64 0, .slice none 0 0, .int .i64 0] 24)).heap.size ((w.alloc (.cells #[.int .i64 S.d, .int .i64 S.w, cv, .int .i64 S.n] 24)).alloc (.cells #[.int .i64 0, .int .i64 0, .slice none 0 0, .int .i64 0] 24)) w') := by
    have := Check_any cv S.raw _ (hr.below HB.out (Nat.le_refl _)) hg.rwI
    rw [P.chk_raw hg] at this
    exact this
  have HZ := hide (zero_new (w.alloc (.cells #[.int .i64 S.d, .int .i64 S.w, cv, .int .i64 S.n] 24)))
  have HX : Hid (BoxK ((w.alloc (.cells #[.int .i64 S.d, .int .i64 S.w, cv, .int .i64 S.n] 24)).alloc (.cells #[.int .i64 0, .int .i64 0, .slice none 0 0, .int .i64 0] 24)) w.heap.size cv S) := (BoxK.new w cv S).below ((Below.refl _ _).alloc (Nat.le_refl _) _)
  have hsz : (w.alloc (.cells #[.int .i64 S.d, .int .i64 S.w, cv, .int .i64 S.n] 24)).heap.size = w.heap.size + 1 := by simp
  rw [hsz] at HZ
  have hn0 := hg.n0
  have hn1 := hg.n1
  have e1 : IntKind.i64.wrap (1152921504606846976 - S.n) = 1152921504606846976 - S.n := by rw [IntKind.wrap_i64]; omega
  clear hg hsz
  generalize hEE : P.adE S m = E
  have HE := hide hEE
  clear hEE
  obtain ⟨av, cap, rfl⟩ := hr.shp
  clear hr
  go_enter Try.func10, Try.ntmps10
  go_upto_region 2 with fail
  generalize (w.alloc (.cells #[.int .i64 S.d, .int .i64 S.w, .slice av S.c.length cap, .int .i64 S.n] 24)).alloc (.cells #[.int .i64 0, .int .i64 0, .slice none 0 0, .int .i64 0] 24) = W1 at *
  refine HC.out.mono ?_
  rintro e w2 ⟨rfl, hb2⟩
  have hbx := HZ.out.below hb2
  have hb0 := HX.out.below hb2
  have HB2 := hide (HB.out.trans (hb2.mono HB.out.size))
  clear HB HC HZ HX hb2
  have u0 := hbx.unfrozen 0; have u1 := hbx.unfrozen 1; have u2 := hbx.unfrozen 2; have u3 := hbx.unfrozen 3
  obtain ⟨c0, c1, c2, c3⟩ := hbx.cells
  obtain ⟨g0, g1, g2, g3⟩ := hb0.cells
  have y6 := hbx.all (.slice none 0 0) z0
  have b6 := hide (Below.setK' HB2.out (g := w.heap.size + 1) (by omega) (.slice none 0 0) z0)
  obtain ⟨r0, r1, r2, r3⟩ := y6.cells
  clear y6 hbx hb0
  rcases he with he | ⟨he1, he2⟩
  · obtain rfl : E = 1 := by rw [← HE.out]; unfold P.adE; rw [if_pos he]
    have hd : decide (m < 0) = true := by simpa using he
    clear he HE
    go_wp2
    refine bodyPost_ret (w := setK w2 (w.heap.size + 1) (.slice none 0 0) z0) (v := .tuple #[zeroK, .int .i64 1]) ?_ rfl ⟨rfl, b6.out⟩
    generalize setK w2 (w.heap.size + 1) (.slice none 0 0) z0 = wf at *
    simp [z0] at r0 r1 r2 r3
    simp [results, Try.results10, go_sem, r0, r1, r2, r3]
  · obtain rfl : E = 2 := by rw [← HE.out]; unfold P.adE; rw [if_neg (by omega), if_pos he2]
    have hd : decide (m < 0) = false := by simp; omega
    have hd2 : decide (1152921504606846976 - S.n < m) = true := by simp; omega
    clear he1 he2 HE
    go_wp2
    refine bodyPost_ret (w := setK w2 (w.heap.size + 1) (.slice none 0 0) z0) (v := .tuple #[zeroK, .int .i64 2]) ?_ rfl ⟨rfl, b6.out⟩
    generalize setK w2 (w.heap.size + 1) (.slice none 0 0) z0 = wf at *
    simp [z0] at r0 r1 r2 r3
    simp [results, Try.results10, go_sem, r0, r1, r2, r3]
set_option maxRecDepth 100000 in
set_option maxHeartbeats 4000000 in
theorem Add_ok (cv : Value) (S : P.Sk) (q : ByteArray) (m : Int) (w : World) (hr : RowK .i64 w cv S.c) (hg : P.SkGood S) (hm0 : 0 ≤ m) (hm1 : S.n + m ≤ 1152921504606846976) (hq : q.size ≤ 9223372036854775807) :
    Calls Try.prog 10 #[aggK cv S, .string q, .int .i64 m] w fun e w' => ∃ v, e = .returned (.tuple #[aggK v (P.adS S q m), .int .i64 0]) ∧ OwnI w' w.heap.size v (P.adS S q m).c ∧ Below w.heap.size w w' := by
  have HB := hide (((Below.refl w.heap.size w).alloc (Nat.le_refl _) (.cells #[.int .i64 S.d, .int .i64 S.w, cv, .int .i64 S.n] 24)).alloc (by simp) (.cells #[.int .i64 0, .int .i64 0, .slice none 0 0, .int .i64 0] 24))
  have HC : Hid (Calls Try.prog 14 #[.agg #[.int .i64 S.d, .int .i64 S.w, cv, .int .i64 S.n]] ((w.alloc (.cells #[.int .i64 S.d, .int .i64 S.w, cv, .int .i64 S.n] 24)).alloc (.cells #[.int .i64 0, .int .i64 0, .slice none 0 0, .int .i64 0] 24)) fun e w' => e = .returned (.int .i64 0) ∧ Below ((w.alloc (.cells #[.int .i64 S.d, .int .i64 S.w, cv, .int .i64 S.n] 24)).alloc (.cells #[.int .i64 0, .int .i64 0, .slice none 0 0, .int .i64 0] 24)).heap.size ((w.alloc (.cells #[.int .i64 S.d, .int .i64 S.w, cv, .int .i64 S.n] 24)).alloc (.cells #[.int .i64 0, .int .i64 0, .slice none 0 0, .int .i64 0] 24)) w') := by
    have := Check_any cv S.raw _ (hr.below HB.out (Nat.le_refl _)) hg.rwI
    rw [P.chk_raw hg] at this
    exact this
  have HZ := hide (zero_new (w.alloc (.cells #[.int .i64 S.d, .int .i64 S.w, cv, .int .i64 S.n] 24)))
  have HX : Hid (BoxK ((w.alloc (.cells #[.int .i64 S.d, .int .i64 S.w, cv, .int .i64 S.n] 24)).alloc (.cells #[.int .i64 0, .int .i64 0, .slice none 0 0, .int .i64 0] 24)) w.heap.size cv S) := (BoxK.new w cv S).below ((Below.refl _ _).alloc (Nat.le_refl _) _)
  have hsz : (w.alloc (.cells #[.int .i64 S.d, .int .i64 S.w, cv, .int .i64 S.n] 24)).heap.size = w.heap.size + 1 := by simp
  rw [hsz] at HZ
  have hn0 := hg.n0
  have e1 : IntKind.i64.wrap (1152921504606846976 - S.n) = 1152921504606846976 - S.n := by rw [IntKind.wrap_i64]; omega
  have hw1 := hg.w1
  have hd1 := hg.d1
  have HCe := hide (fun cv2 wx => cells_any cv2 S.d S.w S.n q wx hg.d8 hg.w1 hg.w200 hq)
  have HPl := hide (P.plc_len S.w q S.d)
  have HAt := hide (P.plc_at S.w q S.d)
  have HLt := hide (fun k (h : k < S.d) => P.place_lt hg q h)
  have HCl := hide (fun k (h : k < S.d) => P.cell_le hg h (P.hc_lt (w := S.w) (by omega) k q))
  have HKAt := hide (fun k (h : k < S.d) => P.addK_at (fun i => P.hc S.w i q) S.w S.c m k (by omega) (P.hc_lt (w := S.w) (by omega) k q) (P.place_lt hg q h))
  have HKSu := hide (fun k (h : k < S.d) => P.addK_succ (fun i => P.hc S.w i q) S.w S.c m k (by omega) (P.hc_lt (w := S.w) (by omega) k q) (P.place_lt hg q h))
  have HKZ := hide (P.addK_zero (fun i => P.hc S.w i q) S.w S.c m)
  have HKAll : Hid (P.addK (fun i => P.hc S.w i q) S.w S.c m S.d = (P.adS S q m).c) := P.addK_all hg.len (by omega)
  have HKl := hide (P.addK_len (fun i => P.hc S.w i q) S.w S.c m)
  have hpos : 0 < S.c.length := by rw [hg.len]; exact Nat.mul_pos hd1 hw1
  have hlen : S.c.length ≤ 1600 := by rw [hg.len]; exact Nat.mul_le_mul hg.d8 hg.w200
  have HRow := hide (fun wx (h : Below w.heap.size w wx) => hr.below h (Nat.le_refl _))
  have hd : decide (m < 0) = false := by simpa using hm0
  have hd2 : decide (1152921504606846976 - S.n < m) = false := by simp; omega
  clear hg hsz
  obtain ⟨av, cap, rfl⟩ := hr.shp
  clear hr
  go_enter Try.func10, Try.ntmps10
  go_upto_region 2 with fail
  generalize (w.alloc (.cells #[.int .i64 S.d, .int .i64 S.w, .slice av S.c.length cap, .int .i64 S.n] 24)).alloc (.cells #[.int .i64 0, .int .i64 0, .slice none 0 0, .int .i64 0] 24) = W1 at *
  refine HC.out.mono ?_
  rintro e w2 ⟨rfl, hb2⟩
  have hbx := HZ.out.below hb2
  have hb0 := HX.out.below hb2
  have HB2 := hide (HB.out.trans (hb2.mono HB.out.size))
  clear HB HC HZ HX hb2
  have HClo := hide (cloneI_any _ S.c w2 (HRow.out w2 HB2.out) (by omega))
  have HBx := hide hbx
  have HB0 := hide hb0
  obtain ⟨g0, g1, g2, g3⟩ := hb0.cells
  clear hbx hb0 HRow
  go_upto_region 9 with first
    | (go_at_call 15; go_must (refine HClo.out.mono ?_); rintro e w3 ⟨v3, rfl, own3, hb3⟩; obtain ⟨gb, cb, rfl, hgb, hgl, hcb1, hcb2, hfz, hcc⟩ := own3.place hpos; have a0 := HB0.out.below hb3; have a1 := HBx.out.below hb3; have HB3 := hide (Below.next HB2.out hb3); obtain ⟨k0, k1, k2, k3⟩ := a0.cells; have ku2 := a0.unfrozen 2)
  have b4 : BoxK (w3.setCell ⟨w.heap.size, 2, none⟩ (.slice (some ⟨gb, 0, none⟩) S.c.length cb)) w.heap.size (.slice (some ⟨gb, 0, none⟩) S.c.length cb) S := a0.list _ S.c
  have a4 := a1.other (setCell_grown w3 w.heap.size 2 (.slice (some ⟨gb, 0, none⟩) S.c.length cb)) (by omega)
  have own4 := own3.box a0 (setCell_grown w3 w.heap.size 2 (.slice (some ⟨gb, 0, none⟩) S.c.length cb))
  have HB4 := hide (HB3.out.setCell (p := ⟨w.heap.size, 2, none⟩) (Nat.le_refl _) (.slice (some ⟨gb, 0, none⟩) S.c.length cb))
  have hsz4 : (w3.setCell ⟨w.heap.size, 2, none⟩ (.slice (some ⟨gb, 0, none⟩) S.c.length cb)).heap.size = w3.heap.size := by simp
  have hwg : w.heap.size + 1 < gb := Nat.lt_of_lt_of_le HBx.out.lt hgb
  clear hb3 own3 hfz hcc a0 a1 HB3 k0 k1 k2 k3 ku2 HClo HBx HB0 g0 g1 g2 g3
  generalize w3.setCell ⟨w.heap.size, 2, none⟩ (.slice (some ⟨gb, 0, none⟩) S.c.length cb) = w4 at *
  obtain ⟨g0, g1, g2, g3⟩ := b4.cells
  have HCe4 := hide (HCe.out (.slice (some ⟨gb, 0, none⟩) S.c.length cb) w4)
  go_wp2_with fail
  refine HCe4.out.mono ?_
  rintro e w5 ⟨pv, rfl, own5, hb5⟩
  have b5 := b4.below hb5
  have a5 := a4.below hb5
  have ownc := own4.below hb5 (Nat.le_refl _)
  have HB5 := hide (Below.next HB4.out hb5)
  clear g0 g1 g2 g3 b4 a4 own4 HB4 HCe4 HCe hb5
  obtain ⟨pa, pc, hpv, ⟨hpl1, hpl2, _⟩, hpcase⟩ := own5.row
  rw [HPl.out] at hpv hpl1
  subst hpv
  unfold maxLen at hpl2 hcb2
  rcases hpcase with h | ⟨pb, po, rfl, hpbs, hpcell⟩
  · have h2 := HPl.out; rw [h] at h2; simp at h2; omega
  have hpg : gb < pb := by have := (World.ownsRow.lt own5 pb rfl).1; omega
  have HPc : Hid (∀ k, k < S.d → w5.cell? ⟨pb, po + k, none⟩ = some (.int .i64 ((k * S.w + P.hc S.w k q : Nat) : Int))) := fun k hk => by
    have := hpcell k (by rw [HPl.out]; exact hk)
    rw [HAt.out k hk] at this; exact this
  have HO5 : Hid (OwnI w5 w2.heap.size (.slice (some ⟨gb, 0, none⟩) S.c.length cb) (P.addK (fun i => P.hc S.w i q) S.w S.c m 0)) := by
    rw [HKZ.out]; exact ownc
  have Hb5 := hide b5
  have Ha5 := hide a5
  clear hpcell own5 ownc hsz4 hgl b5 a5
  go_wp2
  go_loopw [34] (fun i wr => ∃ k : Nat, k ≤ S.d ∧ i = .int .i64 k ∧ OwnI wr w2.heap.size (.slice (some ⟨gb, 0, none⟩) S.c.length cb) (P.addK (fun i => P.hc S.w i q) S.w S.c m k) ∧ Only gb w5 wr) (fun i _ => S.d - (intOf i).toNat)
  case atStart => exact ⟨0, by omega, rfl, HO5.out, Only.refl _ _⟩
  case round =>
    obtain ⟨k, hk, rfl, hown, honly⟩ := hrel
    have br : BoxK wr w.heap.size _ S := (honly.block w.heap.size (by omega)).trans Hb5.out
    have HOnly := hide honly
    have HOwn := hide hown
    obtain ⟨g0, g1, g2, g3⟩ := br.cells
    by_cases hlt : k < S.d
    · have j0 : (0 : Int) ≤ (k : Int) := by omega
      have j1 : (k : Int) < (S.d : Int) := by omega
      have p0 := (honly.cell (p := ⟨pb, po + k, none⟩) (by show pb ≠ gb; omega)).trans (HPc.out k hlt)
      have hplt := HLt.out k hlt
      have hpl : 0 < (P.addK (fun i => P.hc S.w i q) S.w S.c m k).length := by rw [HKl.out]; exact hpos
      obtain ⟨gb2, cb2, hv, _, _, _, _, hfz, hcc⟩ := hown.place hpl
      simp only [Value.slice.injEq, Option.some.injEq, Addr.mk.injEq, and_true] at hv
      obtain ⟨rfl, _, rfl⟩ := hv
      have q0 := hcc (k * S.w + P.hc S.w k q) (by rw [HKl.out]; exact hplt)
      rw [HKAt.out k hlt] at q0
      have f0 := hfz (k * S.w + P.hc S.w k q)
      have hcl := HCl.out k hlt
      have HSu := hide (HKSu.out k hlt)
      rw [HKAt.out k hlt] at HSu
      have HSet := hide (fun x => hown.set (i := k * S.w + P.hc S.w k q) x)
      generalize S.c.getD (k * S.w + P.hc S.w k q) 0 = c at *
      generalize k * S.w + P.hc S.w k q = p at *
      have j2 : (0 : Int) ≤ (p : Int) := by omega
      have j3 : (p : Int) < (S.c.length : Int) := by omega
      have e2 : IntKind.i64.wrap (c + m) = c + m := by rw [IntKind.wrap_i64]; omega
      clear hcc hfz honly hown hpl br hcl
      go_wp2
      go_roundw
      case rel => exact ⟨k + 1, by omega, by go_num, by rw [HSu.out]; exact HSet.out _, HOnly.out.setCell _ _⟩
      case measure => simp [intOf]; omega
    · obtain rfl : k = S.d := by omega
      have hdd : decide ((S.d : Int) < (S.d : Int)) = false := by simp
      rw [HKAll.out] at hown
      have ar : BoxK wr (w.heap.size + 1) _ z0 := (honly.block (w.heap.size + 1) (by omega)).trans Ha5.out
      have HBr := hide (HB5.out.trans (honly.below (show w.heap.size ≤ gb by omega)))
      have gu := br.unfrozen 3
      have e3 : IntKind.i64.wrap (S.n + m) = S.n + m := by rw [IntKind.wrap_i64]; omega
      have bn := br.num (S.n + m)
      have an := ar.other (setCell_grown wr w.heap.size 3 (.int .i64 (S.n + m))) (by omega)
      have ownn := hown.box br (setCell_grown wr w.heap.size 3 (.int .i64 (S.n + m)))
      have HBn := hide (HBr.out.setCell (p := ⟨w.heap.size, 3, none⟩) (Nat.le_refl _) (.int .i64 (S.n + m)))
      have Hn := hide (And.intro bn (And.intro an ownn))
      clear bn an ownn hown honly HOnly HOwn HBr HKAll HKSu HKAt HKZ HKl HO5
      go_upto_region 15 with fail
      generalize wr.setCell ⟨w.heap.size, 3, none⟩ (.int .i64 (S.n + m)) = w6 at *
      obtain ⟨bn, an, ownn⟩ := Hn.out
      clear g0 g1 g2 g3 ar gu br
      obtain ⟨g0, g1, g2, g3⟩ := bn.cells
      obtain ⟨c0, c1, c2, c3⟩ := an.cells
      have u0 := an.unfrozen 0; have u1 := an.unfrozen 1; have u2 := an.unfrozen 2; have u3 := an.unfrozen 3
      have y6 := an.all (.slice (some ⟨gb, 0, none⟩) S.c.length cb) ⟨S.d, S.w, S.c, S.n + m⟩
      have o6 := ownn.box an (setK_grown w6 (w.heap.size + 1) (.slice (some ⟨gb, 0, none⟩) S.c.length cb) ⟨S.d, S.w, S.c, S.n + m⟩)
      have b6 : Below w.heap.size w (setK w6 (w.heap.size + 1) (.slice (some ⟨gb, 0, none⟩) S.c.length cb) ⟨S.d, S.w, S.c, S.n + m⟩) := Below.setK' HBn.out (by omega) _ _
      obtain ⟨r0, r1, r2, r3⟩ := y6.cells
      have hb2s := HB2.out.size
      have H6 := hide (And.intro (o6.base hb2s) b6)
      clear o6 b6 y6 bn an ownn Hn HBn
      go_wp2
      refine bodyPost_ret (w := setK w6 (w.heap.size + 1) (.slice (some ⟨gb, 0, none⟩) S.c.length cb) ⟨S.d, S.w, S.c, S.n + m⟩) (v := .tuple #[.agg #[.int .i64 S.d, .int .i64 S.w, .slice (some ⟨gb, 0, none⟩) S.c.length cb, .int .i64 (S.n + m)], .int .i64 0]) ?_ rfl ⟨_, rfl, H6.out.1, H6.out.2⟩
      generalize setK w6 (w.heap.size + 1) (.slice (some ⟨gb, 0, none⟩) S.c.length cb) ⟨S.d, S.w, S.c, S.n + m⟩ = wf at *
      simp [results, Try.results10, go_sem, r0, r1, r2, r3]
end Go.Proofs.Ytenfpkokogfdaaa
