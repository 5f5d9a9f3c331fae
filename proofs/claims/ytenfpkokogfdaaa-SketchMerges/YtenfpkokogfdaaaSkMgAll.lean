/- Several texts in one. -/
import Derived.Test.YtenfpkokogfdaaaSkAeAll
import Derived.Test.YtenfpkokogfdaaaSkMbAll
/- What Merge answers where it answers a sketch. -/
namespace Go.Proofs.Ytenfpkokogfdaaa
open Go.RowKit
set_option linter.unusedVariables false
namespace P
/-- The first k cells of both, then those of the first. -/
def bothK (a b : List Int) (k : Nat) : List Int := a.mapIdx fun p x => x + (if p < k then b.getD p 0 else 0)
theorem bothK_len (a b : List Int) (k : Nat) : (bothK a b k).length = a.length := by simp [bothK]
theorem bothK_zero (a b : List Int) : bothK a b 0 = a := by
  apply List.ext_getElem (by simp [bothK])
  intro i h1 h2
  simp [bothK]
theorem bothK_all (a b : List Int) : bothK a b a.length = bothC a b := by
  apply List.ext_getElem (by simp [bothK, bothC])
  intro i h1 h2
  have hi : i < a.length := by simpa [bothK] using h1
  simp [bothK, bothC, hi]
theorem bothK_at (a b : List Int) (k : Nat) (hk : k < a.length) : (bothK a b k).getD k 0 = a.getD k 0 := by simp [bothK, List.getD_eq_getElem?_getD, hk]
theorem bothK_succ (a b : List Int) (k : Nat) (hk : k < a.length) : bothK a b (k + 1) = (bothK a b k).set k (a.getD k 0 + b.getD k 0) := by
  apply List.ext_getElem (by simp [bothK])
  intro i h1 h2
  have hi : i < a.length := by simpa [bothK] using h1
  rw [List.getElem_set]
  by_cases he : k = i
  · subst he
    simp [bothK, List.getD_eq_getElem?_getD, hk]
  · rw [if_neg he]
    simp only [bothK, List.getElem_mapIdx]
    have : i < k + 1 ↔ i < k := by omega
    simp only [this]
theorem cell_bound {S : Sk} (h : SkGood S) (p : Nat) (hp : p < S.c.length) : 0 ≤ S.c.getD p 0 ∧ S.c.getD p 0 ≤ 1152921504606846976 := by
  have hX : 0 < S.w := by have := h.w1; omega
  have hp' : p < S.d * S.w := by rw [← h.len]; exact hp
  have hi : p / S.w < S.d := Nat.div_lt_of_lt_mul (by rw [Nat.mul_comm]; exact hp')
  have h3 : p / S.w * S.w + p % S.w = p := by rw [Nat.mul_comm]; exact Nat.div_add_mod p S.w
  have h4 := cell_le h hi (Nat.mod_lt p hX)
  rw [h3] at h4
  have h5 := h.n1
  omega
end P
set_option maxRecDepth 100000 in
set_option maxHeartbeats 4000000 in
theorem Merge_ok (va vb : Value) (a b : P.Sk) (w : World) (hra : RowK .i64 w va a.c) (hrb : RowK .i64 w vb b.c) (hga : P.SkGood a) (hgb : P.SkGood b) (hd : a.d = b.d) (hw : a.w = b.w) (hn : a.n + b.n ≤ 1152921504606846976) :
    Calls Try.prog 17 #[aggK va a, aggK vb b] w fun e w' => ∃ v, e = .returned (.tuple #[aggK v (P.skBoth a b), .int .i64 0]) ∧ OwnI w' w.heap.size v (P.skBoth a b).c ∧ Below w.heap.size w w' := by
  have HB := hide ((((Below.refl w.heap.size w).alloc (Nat.le_refl _) (.cells #[.int .i64 a.d, .int .i64 a.w, va, .int .i64 a.n] 24)).alloc (by simp) (.cells #[.int .i64 b.d, .int .i64 b.w, vb, .int .i64 b.n] 24)).alloc (by simp; omega) (.cells #[.int .i64 0, .int .i64 0, .slice none 0 0, .int .i64 0] 24))
  have HCa : Hid (∀ wx, Below w.heap.size w wx → Calls Try.prog 14 #[.agg #[.int .i64 a.d, .int .i64 a.w, va, .int .i64 a.n]] wx fun e w' => e = .returned (.int .i64 0) ∧ Below wx.heap.size wx w') := fun wx h => by
    have := Check_any va a.raw wx (hra.below h (Nat.le_refl _)) hga.rwI
    rw [P.chk_raw hga] at this; exact this
  have HCb : Hid (∀ wx, Below w.heap.size w wx → Calls Try.prog 14 #[.agg #[.int .i64 b.d, .int .i64 b.w, vb, .int .i64 b.n]] wx fun e w' => e = .returned (.int .i64 0) ∧ Below wx.heap.size wx w') := fun wx h => by
    have := Check_any vb b.raw wx (hrb.below h (Nat.le_refl _)) hgb.rwI
    rw [P.chk_raw hgb] at this; exact this
  have hs1 : (w.alloc (.cells #[.int .i64 a.d, .int .i64 a.w, va, .int .i64 a.n] 24)).heap.size = w.heap.size + 1 := by simp
  have hs2 : ((w.alloc (.cells #[.int .i64 a.d, .int .i64 a.w, va, .int .i64 a.n] 24)).alloc (.cells #[.int .i64 b.d, .int .i64 b.w, vb, .int .i64 b.n] 24)).heap.size = w.heap.size + 2 := by simp
  have HZ := hide (zero_new ((w.alloc (.cells #[.int .i64 a.d, .int .i64 a.w, va, .int .i64 a.n] 24)).alloc (.cells #[.int .i64 b.d, .int .i64 b.w, vb, .int .i64 b.n] 24)))
  rw [hs2] at HZ
  have HX : Hid (BoxK (((w.alloc (.cells #[.int .i64 a.d, .int .i64 a.w, va, .int .i64 a.n] 24)).alloc (.cells #[.int .i64 b.d, .int .i64 b.w, vb, .int .i64 b.n] 24)).alloc (.cells #[.int .i64 0, .int .i64 0, .slice none 0 0, .int .i64 0] 24)) w.heap.size va a) := (BoxK.new w va a).below (((Below.refl _ _).alloc (Nat.le_refl _) _).alloc (by simp) _)
  have HY : Hid (BoxK (((w.alloc (.cells #[.int .i64 a.d, .int .i64 a.w, va, .int .i64 a.n] 24)).alloc (.cells #[.int .i64 b.d, .int .i64 b.w, vb, .int .i64 b.n] 24)).alloc (.cells #[.int .i64 0, .int .i64 0, .slice none 0 0, .int .i64 0] 24)) (w.heap.size + 1) vb b) := by
    have h0 := BoxK.new (w.alloc (.cells #[.int .i64 a.d, .int .i64 a.w, va, .int .i64 a.n] 24)) vb b
    rw [hs1] at h0
    exact h0.below ((Below.refl _ _).alloc (Nat.le_refl _) _)
  have hlab : a.c.length = b.c.length := by rw [hga.len, hgb.len, hd, hw]
  have HBd1 := hide (fun p h => P.cell_bound hga p h)
  have HBd2 := hide (fun p h => P.cell_bound hgb p h)
  have hna0 := hga.n0
  have hnb0 := hgb.n0
  have hpos : 0 < a.c.length := by rw [hga.len]; exact Nat.mul_pos hga.d1 hga.w1
  have hlen : a.c.length ≤ 1600 := by rw [hga.len]; exact Nat.mul_le_mul hga.d8 hga.w200
  have e1 : IntKind.i64.wrap (a.n + b.n) = a.n + b.n := by rw [IntKind.wrap_i64]; omega
  have d1 : ((a.d : Int) != (b.d : Int)) = false := by rw [bne_eq_false_iff_eq, hd]
  have d2 : ((a.w : Int) != (b.w : Int)) = false := by rw [bne_eq_false_iff_eq, hw]
  have d3 : decide (1152921504606846976 < a.n + b.n) = false := by simpa using hn
  have HRow := hide (fun wx (h : Below w.heap.size w wx) => hra.below h (Nat.le_refl _))
  have HKZ := hide (P.bothK_zero a.c b.c)
  have HKAll := hide (P.bothK_all a.c b.c)
  have HKAt := hide (P.bothK_at a.c b.c)
  have HKSu := hide (P.bothK_succ a.c b.c)
  have HKl := hide (P.bothK_len a.c b.c)
  have HLab := hide hlab
  clear hga hgb hd hw hs1 hs2 hlab
  obtain ⟨av, acap, rfl⟩ := hra.shp
  obtain ⟨bv, bcap, rfl, ⟨hbc1, hbc2, _⟩, hbcase⟩ := hrb
  rcases hbcase with h | ⟨bb, bo, rfl, hbbs, hbcell⟩
  · have := HLab.out; rw [h] at this; simp at this; rw [this] at hpos; simp at hpos
  have HBc : Hid (∀ j, j < a.c.length → w.cell? ⟨bb, bo + j, none⟩ = some (.int .i64 (b.c.getD j 0))) := fun j hj => hbcell j (by rw [← HLab.out]; exact hj)
  unfold maxLen at hbc2
  clear hra hbcell
  generalize hbl : b.c.length = bl at *
  obtain rfl : a.c.length = bl := HLab.out
  have HLb := hide hbl
  clear hbl HLab
  go_enter Try.func17, Try.ntmps17
  go_upto_region 1 with fail
  generalize ((w.alloc (.cells #[.int .i64 a.d, .int .i64 a.w, .slice av a.c.length acap, .int .i64 a.n] 24)).alloc (.cells #[.int .i64 b.d, .int .i64 b.w, .slice (some ⟨bb, bo, none⟩) a.c.length bcap, .int .i64 b.n] 24)).alloc (.cells #[.int .i64 0, .int .i64 0, .slice none 0 0, .int .i64 0] 24) = W1 at *
  obtain ⟨x0, x1, x2, x3⟩ := HX.out.cells
  obtain ⟨y0, y1, y2, y3⟩ := HY.out.cells
  have HC1 := hide (HCa.out W1 HB.out)
  go_upto_region 4 with (go_at_call 14; go_must (refine HC1.out.mono ?_); rintro e w2 ⟨rfl, hb2⟩)
  have HB2 := hide (Below.next HB.out hb2)
  have HZ2 := hide (HZ.out.below hb2)
  have HX2 := hide (HX.out.below hb2)
  have HY2 := hide (HY.out.below hb2)
  clear HB HC1 HZ HX HY hb2 HCa x0 x1 x2 x3 y0 y1 y2 y3
  obtain ⟨x0, x1, x2, x3⟩ := HX2.out.cells
  obtain ⟨y0, y1, y2, y3⟩ := HY2.out.cells
  have HC2 := hide (HCb.out w2 HB2.out)
  go_upto_region 7 with (go_at_call 14; go_must (refine HC2.out.mono ?_); rintro e w3 ⟨rfl, hb3⟩)
  have HB3 := hide (Below.next HB2.out hb3)
  have HZ3 := hide (HZ2.out.below hb3)
  have HX3 := hide (HX2.out.below hb3)
  have HY3 := hide (HY2.out.below hb3)
  clear HB2 HC2 HZ2 HX2 HY2 hb3 HCb x0 x1 x2 x3 y0 y1 y2 y3
  obtain ⟨x0, x1, x2, x3⟩ := HX3.out.cells
  obtain ⟨y0, y1, y2, y3⟩ := HY3.out.cells
  have HClo := hide (cloneI_any _ a.c w3 (HRow.out w3 HB3.out) (by omega))
  go_upto_region 12 with first
    | (go_at_call 15; go_must (refine HClo.out.mono ?_); rintro e w4 ⟨v4, rfl, own4, hb4⟩; obtain ⟨gb, cb, rfl, hgb, hgl, hcb1, hcb2, hfz, hcc⟩ := own4.place hpos; have a0 := HX3.out.below hb4; have a1 := HY3.out.below hb4; have a2 := HZ3.out.below hb4; have HB4 := hide (Below.next HB3.out hb4); obtain ⟨k0, k1, k2, k3⟩ := a0.cells; have ku2 := a0.unfrozen 2)
  have b5 : BoxK (w4.setCell ⟨w.heap.size, 2, none⟩ (.slice (some ⟨gb, 0, none⟩) a.c.length cb)) w.heap.size (.slice (some ⟨gb, 0, none⟩) a.c.length cb) a := a0.list _ a.c
  have c5 := a1.other (setCell_grown w4 w.heap.size 2 (.slice (some ⟨gb, 0, none⟩) a.c.length cb)) (by omega)
  have z5 := a2.other (setCell_grown w4 w.heap.size 2 (.slice (some ⟨gb, 0, none⟩) a.c.length cb)) (by omega)
  have own5 := own4.box a0 (setCell_grown w4 w.heap.size 2 (.slice (some ⟨gb, 0, none⟩) a.c.length cb))
  have HB5 := hide (HB4.out.setCell (p := ⟨w.heap.size, 2, none⟩) (Nat.le_refl _) (.slice (some ⟨gb, 0, none⟩) a.c.length cb))
  have hwg : w.heap.size + 2 < gb := Nat.lt_of_lt_of_le HZ3.out.lt hgb
  clear hb4 own4 hfz hcc a0 a1 a2 HB4 k0 k1 k2 k3 ku2 HClo HZ3 HX3 HY3 x0 x1 x2 x3 y0 y1 y2 y3
  generalize w4.setCell ⟨w.heap.size, 2, none⟩ (.slice (some ⟨gb, 0, none⟩) a.c.length cb) = w5 at *
  unfold maxLen at hcb2
  have HBc5 : Hid (∀ j, j < a.c.length → w5.cell? ⟨bb, bo + j, none⟩ = some (.int .i64 (b.c.getD j 0))) := fun j hj => (HB5.out.cell (p := ⟨bb, bo + j, none⟩) hbbs).trans (HBc.out j hj)
  have HO5 : Hid (OwnI w5 w3.heap.size (.slice (some ⟨gb, 0, none⟩) a.c.length cb) (P.bothK a.c b.c 0)) := by rw [HKZ.out]; exact own5
  have Hb5 := hide b5
  have Hc5 := hide c5
  have Hz5 := hide z5
  obtain ⟨y0, y1, y2, y3⟩ := c5.cells
  clear own5 b5 c5 z5 HBc
  go_wp2
  clear y0 y1 y2 y3
  go_loopw [49] (fun i wr => ∃ k : Nat, k ≤ a.c.length ∧ i = .int .i64 k ∧ OwnI wr w3.heap.size (.slice (some ⟨gb, 0, none⟩) a.c.length cb) (P.bothK a.c b.c k) ∧ Only gb w5 wr) (fun i _ => a.c.length - (intOf i).toNat)
  case atStart => exact ⟨0, by omega, rfl, HO5.out, Only.refl _ _⟩
  case round =>
    obtain ⟨k, hk, rfl, hown, honly⟩ := hrel
    have br : BoxK wr w.heap.size _ a := (honly.block w.heap.size (by omega)).trans Hb5.out
    have HOnly := hide honly
    obtain ⟨g0, g1, g2, g3⟩ := br.cells
    by_cases hlt : k < a.c.length
    · have j0 : (0 : Int) ≤ (k : Int) := by omega
      have j1 : (k : Int) < (a.c.length : Int) := by omega
      have hbg : bb ≠ gb := by omega
      have p0 := (honly.cell (p := ⟨bb, bo + k, none⟩) hbg).trans (HBc5.out k hlt)
      have hpl : 0 < (P.bothK a.c b.c k).length := by rw [HKl.out]; exact hpos
      obtain ⟨gb2, cb2, hv, _, _, _, _, hfz, hcc⟩ := hown.place hpl
      simp only [Value.slice.injEq, Option.some.injEq, Addr.mk.injEq, and_true] at hv
      obtain ⟨rfl, _, rfl⟩ := hv
      have q0 := hcc k (by rw [HKl.out]; exact hlt)
      rw [HKAt.out k hlt] at q0
      have f0 := hfz k
      have hc1 := HBd1.out k hlt
      have hc2 := HBd2.out k hlt
      have HSu := hide (HKSu.out k hlt)
      have HSet := hide (fun x => hown.set (i := k) x)
      generalize a.c.getD k 0 = x at *
      generalize b.c.getD k 0 = y at *
      have e2 : IntKind.i64.wrap (x + y) = x + y := by rw [IntKind.wrap_i64]; omega
      clear hcc hfz honly hown hpl br hc1 hc2
      go_wp2
      go_roundw
      case rel => exact ⟨k + 1, by omega, by go_num, by rw [HSu.out]; exact HSet.out _, HOnly.out.setCell _ _⟩
      case measure => simp [intOf]; omega
    · obtain rfl : k = a.c.length := by omega
      have hdd : decide ((a.c.length : Int) < (a.c.length : Int)) = false := by simp
      rw [HKAll.out] at hown
      have cr : BoxK wr (w.heap.size + 1) _ b := (honly.block (w.heap.size + 1) (by omega)).trans Hc5.out
      have zr : BoxK wr (w.heap.size + 2) _ z0 := (honly.block (w.heap.size + 2) (by omega)).trans Hz5.out
      have HBr := hide (HB5.out.trans (honly.below (show w.heap.size ≤ gb by omega)))
      have gu := br.unfrozen 3
      obtain ⟨y0, y1, y2, y3⟩ := cr.cells
      have bn := br.num (a.n + b.n)
      have zn := zr.other (setCell_grown wr w.heap.size 3 (.int .i64 (a.n + b.n))) (by omega)
      have ownn := hown.box br (setCell_grown wr w.heap.size 3 (.int .i64 (a.n + b.n)))
      have HBn := hide (HBr.out.setCell (p := ⟨w.heap.size, 3, none⟩) (Nat.le_refl _) (.int .i64 (a.n + b.n)))
      have Hn := hide (And.intro bn (And.intro zn ownn))
      clear bn zn ownn hown honly HOnly HBr HKAll HKSu HKAt HKZ HKl HO5 cr zr
      go_upto_region 18 with fail
      generalize wr.setCell ⟨w.heap.size, 3, none⟩ (.int .i64 (a.n + b.n)) = w6 at *
      obtain ⟨bn, an, ownn⟩ := Hn.out
      clear g0 g1 g2 g3 gu br y0 y1 y2 y3
      obtain ⟨g0, g1, g2, g3⟩ := bn.cells
      obtain ⟨c0, c1, c2, c3⟩ := an.cells
      have u0 := an.unfrozen 0; have u1 := an.unfrozen 1; have u2 := an.unfrozen 2; have u3 := an.unfrozen 3
      have y6 := an.all (.slice (some ⟨gb, 0, none⟩) a.c.length cb) ⟨a.d, a.w, a.c, a.n + b.n⟩
      have o6 := ownn.box an (setK_grown w6 (w.heap.size + 2) (.slice (some ⟨gb, 0, none⟩) a.c.length cb) ⟨a.d, a.w, a.c, a.n + b.n⟩)
      have b6 : Below w.heap.size w (setK w6 (w.heap.size + 2) (.slice (some ⟨gb, 0, none⟩) a.c.length cb) ⟨a.d, a.w, a.c, a.n + b.n⟩) := Below.setK' HBn.out (by omega) _ _
      obtain ⟨r0, r1, r2, r3⟩ := y6.cells
      have hb3s := HB3.out.size
      have H6 := hide (And.intro (o6.base hb3s) b6)
      clear o6 b6 y6 bn an ownn Hn HBn
      go_wp2
      refine bodyPost_ret (w := setK w6 (w.heap.size + 2) (.slice (some ⟨gb, 0, none⟩) a.c.length cb) ⟨a.d, a.w, a.c, a.n + b.n⟩) (v := .tuple #[.agg #[.int .i64 a.d, .int .i64 a.w, .slice (some ⟨gb, 0, none⟩) a.c.length cb, .int .i64 (a.n + b.n)], .int .i64 0]) ?_ rfl ⟨_, rfl, H6.out.1, H6.out.2⟩
      generalize setK w6 (w.heap.size + 2) (.slice (some ⟨gb, 0, none⟩) a.c.length cb) ⟨a.d, a.w, a.c, a.n + b.n⟩ = wf at *
      simp [results, Try.results17, go_sem, r0, r1, r2, r3]
end Go.Proofs.Ytenfpkokogfdaaa
