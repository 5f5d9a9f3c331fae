/- SketchLinear holds: at all inputs the law answers true and changes nothing that was there. -/
import Derived.Test.YtenfpkokogfdaaaSkTAll
import Derived.Test.YtenfpkokogfdaaaSkMgAll
import Derived.Test.YtenfpkokogfdaaaCatTAll
import Derived.Test.YtenfpkokogfdaaaGoodAll
namespace Go.Proofs.Ytenfpkokogfdaaa
open Go.ChangeShapes Go.WideShapes Go.ChangeAt Go.RowKit
set_option linter.unusedVariables false
/-- Two rows of texts in a new row of rows. -/
theorem rows_two (w : World) (v1 v2 : Value) (l1 l2 : List ByteArray) (t : TypeId) (h1 : RowT w v1 l1) (h2 : RowT w v2 l2) : RowsT (w.alloc (.cells #[v1, v2] t)) w.heap.size [(v1, l1), (v2, l2)] := by
  have hb := (Below.refl w.heap.size w).alloc (Nat.le_refl _) (.cells #[v1, v2] t)
  intro j x hx
  match j, hx with
  | 0, hx => simp at hx; subst hx; exact ⟨by simp, h1.below hb (Nat.le_refl _)⟩
  | 1, hx => simp at hx; subst hx; exact ⟨by simp, h2.below hb (Nat.le_refl _)⟩
set_option maxRecDepth 100000 in
set_option maxHeartbeats 4000000 in
theorem linear_bad (d x : Int) (v1 v2 : Value) (l m : List ByteArray) (w : World) (h1 : RowT w v1 l) (h2 : RowT w v2 m) (hn1 : l.length * 16 ≤ 140737488351232) (hn2 : m.length * 16 ≤ 140737488351232) (ha : P.arB d x = false)
    (HSk : Hid (∀ wx, Calls Try.prog 18 #[] wx fun e w' => e = .returned (.bool true) ∧ Below wx.heap.size wx w')) :
    Calls Try.prog 6 #[.int .i64 d, .int .i64 x, v1, v2] w fun e w' => e = .returned (.bool true) ∧ Below w.heap.size w w' := by
  have HS1 := hide (fun wx (hb : Below w.heap.size w wx) => sketched_bad d x v1 l wx ha (h1.below hb (Nat.le_refl _)))
  have HS2 := hide (fun wx (hb : Below w.heap.size w wx) => sketched_bad d x v2 m wx ha (h2.below hb (Nat.le_refl _)))
  have HS3 := hide (fun v wx (h : RowT wx v (catT [(v2, m), (v1, l)])) => sketched_bad d x v _ wx ha h)
  have HOd := hide (fun wx => odd_yes d x wx ha)
  have HRows := hide (fun wx (hb : Below w.heap.size w wx) => rows_two wx v2 v1 m l 37 (h2.below hb (Nat.le_refl _)) (h1.below hb (Nat.le_refl _)))
  have HCat := hide (fun wx b (hb : b < wx.heap.size) (hr : RowsT wx b [(v2, m), (v1, l)]) => concatT_any b 2 2 [(v2, m), (v1, l)] wx rfl (by decide) hb hr (by simp [catT]; omega))
  obtain ⟨a1, c1, rfl⟩ := h1.shp
  obtain ⟨a2, c2, rfl⟩ := h2.shp
  clear h1 h2 ha
  go_enter Try.func6, Try.ntmps6
  go_upto_region 3 with (go_at_call 18; go_must (refine (HSk.out _).mono ?_); rintro e w1 ⟨rfl, hb1⟩)
  have HB1 := hide hb1
  have H1 := hide (HS1.out w1 hb1)
  clear hb1 HS1
  go_upto_region 4 with (go_at_call 19; go_must (refine H1.out.mono ?_); rintro e w2 ⟨rfl, hb2⟩)
  have HB2 := hide ((Below.next HB1.out hb2).alloc (Below.next HB1.out hb2).size (.cells #[.int .i64 0, .int .i64 0, .slice none 0 0, .int .i64 0] 24))
  clear HB1 H1 hb2
  generalize w2.alloc (.cells #[.int .i64 0, .int .i64 0, .slice none 0 0, .int .i64 0] 24) = W2 at *
  have H2 := hide (HS2.out W2 HB2.out)
  go_upto_region 5 with (go_at_call 19; go_must (refine H2.out.mono ?_); rintro e w3 ⟨rfl, hb3⟩)
  have HB3 := hide ((Below.next HB2.out hb3).alloc (Below.next HB2.out hb3).size (.cells #[.int .i64 0, .int .i64 0, .slice none 0 0, .int .i64 0] 24))
  clear HB2 H2 hb3 HS2
  generalize w3.alloc (.cells #[.int .i64 0, .int .i64 0, .slice none 0 0, .int .i64 0] 24) = W3 at *
  have hrows := HRows.out W3 HB3.out
  have HB4 := hide (HB3.out.alloc HB3.out.size (.cells #[.slice a2 m.length c2, .slice a1 l.length c1] 37))
  have HC4 := hide (HCat.out _ W3.heap.size (by simp) hrows)
  clear HRows HCat hrows HB3
  go_wp2_with fail
  refine HC4.out.mono ?_
  rintro e w5 ⟨v5, rfl, own5, hb5⟩
  have H5 := hide (HS3.out v5 w5 (OwnX.row stC_len own5))
  obtain ⟨a5, c5, rfl⟩ := OwnX.shp stC_len own5
  have HB5 := hide (Below.next HB4.out hb5)
  clear HB4 HC4 hb5 own5 HS3
  go_wp2_with first
    | (go_at_call 19; go_must (refine H5.out.mono ?_); rintro e w6 ⟨rfl, hb6⟩; have HB6 := hide ((Below.next HB5.out hb6).alloc (Below.next HB5.out hb6).size (.cells #[.int .i64 0, .int .i64 0, .slice none 0 0, .int .i64 0] 24)); clear hb6)
    | (go_at_call 20; go_must (refine (HOd.out _).mono ?_); rintro e w7 ⟨rfl, rfl⟩)
  go_ret
  exact ⟨rfl, HB6.out⟩
set_option maxRecDepth 100000 in
set_option maxHeartbeats 4000000 in
theorem linear_good (d x : Nat) (v1 v2 : Value) (l m : List ByteArray) (w : World) (h1 : RowT w v1 l) (h2 : RowT w v2 m) (hl : TxOk l) (hm : TxOk m) (hn1 : l.length * 16 ≤ 140737488351232) (hn2 : m.length * 16 ≤ 140737488351232) (d1 : 1 ≤ d) (d8 : d ≤ 8) (x1 : 1 ≤ x) (x2 : x ≤ 200)
    (HSk : Hid (∀ wx, Calls Try.prog 18 #[] wx fun e w' => e = .returned (.bool true) ∧ Below wx.heap.size wx w')) :
    Calls Try.prog 6 #[.int .i64 d, .int .i64 x, v1, v2] w fun e w' => e = .returned (.bool true) ∧ Below w.heap.size w w' := by
  have HS1 := hide (fun wx (hb : Below w.heap.size w wx) => sketched_ok d x v1 l wx d1 d8 x1 x2 (h1.below hb (Nat.le_refl _)) hl (by omega))
  have HS2 := hide (fun wx (hb : Below w.heap.size w wx) => sketched_ok d x v2 m wx d1 d8 x1 x2 (h2.below hb (Nat.le_refl _)) hm (by omega))
  have hcat : catT [(v2, m), (v1, l)] = m ++ l := by simp [catT]
  have HS3 := hide (fun v wx (h : RowT wx v (catT [(v2, m), (v1, l)])) => sketched_ok d x v (m ++ l) wx d1 d8 x1 x2 (by rw [hcat] at h; exact h) (fun y hy => (List.mem_append.1 hy).elim (hm y) (hl y)) (by simp; omega))
  have HRows := hide (fun wx (hb : Below w.heap.size w wx) => rows_two wx v2 v1 m l 37 (h2.below hb (Nat.le_refl _)) (h1.below hb (Nat.le_refl _)))
  have HCat := hide (fun wx b (hb : b < wx.heap.size) (hr : RowsT wx b [(v2, m), (v1, l)]) => concatT_any b 2 2 [(v2, m), (v1, l)] wx rfl (by decide) hb hr (by simp [catT]; omega))
  have hln1 : (l.length : Int) + m.length ≤ 1000000000000000 := by omega
  obtain ⟨a1, c1, rfl⟩ := h1.shp
  obtain ⟨a2, c2, rfl⟩ := h2.shp
  clear h1 h2 hl hm hcat
  go_enter Try.func6, Try.ntmps6
  go_upto_region 3 with (go_at_call 18; go_must (refine (HSk.out _).mono ?_); rintro e w1 ⟨rfl, hb1⟩)
  have HB1 := hide hb1
  have H1 := hide (HS1.out w1 hb1)
  clear hb1 HS1
  go_upto_region 4 with (go_at_call 19; go_must (refine H1.out.mono ?_); rintro e w2 ⟨va, A, rfl, ownA, repA, hAd, hAw, hb2⟩; obtain ⟨aa, ac, rfl⟩ := ownA.shape; have RepA := hide repA; have HAd := hide hAd; have HAw := hide hAw; clear repA hAd hAw)
  have hba := (Below.refl w2.heap.size w2).alloc (Nat.le_refl _) (.cells #[.int .i64 A.d, .int .i64 A.w, .slice aa A.c.length ac, .int .i64 A.n] 24)
  have HB2 := hide ((Below.next HB1.out hb2).alloc (Below.next HB1.out hb2).size (.cells #[.int .i64 A.d, .int .i64 A.w, .slice aa A.c.length ac, .int .i64 A.n] 24))
  have HXa : Hid (BoxK (w2.alloc (.cells #[.int .i64 A.d, .int .i64 A.w, .slice aa A.c.length ac, .int .i64 A.n] 24)) w2.heap.size (.slice aa A.c.length ac) A) := BoxK.new w2 _ A
  have HRa := hide ((OwnK.row ownA).below hba (Nat.le_refl _))
  clear HB1 H1 hb2 hba ownA
  generalize w2.alloc (.cells #[.int .i64 A.d, .int .i64 A.w, .slice aa A.c.length ac, .int .i64 A.n] 24) = W2 at *
  have H2 := hide (HS2.out W2 HB2.out)
  go_upto_region 5 with (go_at_call 19; go_must (refine H2.out.mono ?_); rintro e w3 ⟨vb, B, rfl, ownB, repB, hBd, hBw, hb3⟩; obtain ⟨ba, bc, rfl⟩ := ownB.shape; have RepB := hide repB; have HBd := hide hBd; have HBw := hide hBw; clear repB hBd hBw)
  have hba := (Below.refl w3.heap.size w3).alloc (Nat.le_refl _) (.cells #[.int .i64 B.d, .int .i64 B.w, .slice ba B.c.length bc, .int .i64 B.n] 24)
  have HB3 := hide ((Below.next HB2.out hb3).alloc (Below.next HB2.out hb3).size (.cells #[.int .i64 B.d, .int .i64 B.w, .slice ba B.c.length bc, .int .i64 B.n] 24))
  have HXb : Hid (BoxK (w3.alloc (.cells #[.int .i64 B.d, .int .i64 B.w, .slice ba B.c.length bc, .int .i64 B.n] 24)) w3.heap.size (.slice ba B.c.length bc) B) := BoxK.new w3 _ B
  have HRb := hide ((OwnK.row ownB).below hba (Nat.le_refl _))
  have HXa3 := hide ((HXa.out.below hb3).below hba)
  have HRa3 := hide ((HRa.out.below hb3 (Nat.le_refl _)).below hba (Nat.le_refl _))
  clear HB2 H2 hb3 HS2 hba ownB HXa HRa
  generalize w3.alloc (.cells #[.int .i64 B.d, .int .i64 B.w, .slice ba B.c.length bc, .int .i64 B.n] 24) = W3 at *
  have hrows := HRows.out W3 HB3.out
  have hba := (Below.refl W3.heap.size W3).alloc (Nat.le_refl _) (.cells #[.slice a2 m.length c2, .slice a1 l.length c1] 37)
  have HB4 := hide (HB3.out.alloc HB3.out.size (.cells #[.slice a2 m.length c2, .slice a1 l.length c1] 37))
  have HC4 := hide (HCat.out _ W3.heap.size (by simp) hrows)
  have HXa4 := hide (HXa3.out.below hba)
  have HRa4 := hide (HRa3.out.below hba (Nat.le_refl _))
  have HXb4 := hide (HXb.out.below hba)
  have HRb4 := hide (HRb.out.below hba (Nat.le_refl _))
  clear HRows HCat hrows HB3 hba HXa3 HRa3 HXb HRb
  go_wp2_with fail
  refine HC4.out.mono ?_
  rintro e w5 ⟨v5, rfl, own5, hb5⟩
  have H5 := hide (HS3.out v5 w5 (OwnX.row stC_len own5))
  obtain ⟨a5, c5, rfl⟩ := OwnX.shp stC_len own5
  have HB5 := hide (Below.next HB4.out hb5)
  have HXa5 := hide (HXa4.out.below hb5)
  have HRa5 := hide (HRa4.out.below hb5 (Nat.le_refl _))
  have HXb5 := hide (HXb4.out.below hb5)
  have HRb5 := hide (HRb4.out.below hb5 (Nat.le_refl _))
  clear HB4 HC4 hb5 own5 HS3 HXa4 HRa4 HXb4 HRb4
  go_upto_region 8 with (go_at_call 19; go_must (refine H5.out.mono ?_); rintro e w6 ⟨vc, C, rfl, ownC, repC, hCd, hCw, hb6⟩; obtain ⟨ca, cc, rfl⟩ := ownC.shape; have RepC := hide repC; have HCd := hide hCd; have HCw := hide hCw; clear repC hCd hCw)
  have hba := (Below.refl w6.heap.size w6).alloc (Nat.le_refl _) (.cells #[.int .i64 C.d, .int .i64 C.w, .slice ca C.c.length cc, .int .i64 C.n] 24)
  have HB6 := hide ((Below.next HB5.out hb6).alloc (Below.next HB5.out hb6).size (.cells #[.int .i64 C.d, .int .i64 C.w, .slice ca C.c.length cc, .int .i64 C.n] 24))
  have HXc : Hid (BoxK (w6.alloc (.cells #[.int .i64 C.d, .int .i64 C.w, .slice ca C.c.length cc, .int .i64 C.n] 24)) w6.heap.size (.slice ca C.c.length cc) C) := BoxK.new w6 _ C
  have HRc := hide ((OwnK.row ownC).below hba (Nat.le_refl _))
  have HXa6 := hide ((HXa5.out.below hb6).below hba)
  have HRa6 := hide ((HRa5.out.below hb6 (Nat.le_refl _)).below hba (Nat.le_refl _))
  have HXb6 := hide ((HXb5.out.below hb6).below hba)
  have HRb6 := hide ((HRb5.out.below hb6 (Nat.le_refl _)).below hba (Nat.le_refl _))
  have hboth := P.skBoth_rep RepA.out RepB.out (by rw [HAd.out, HBd.out]) (by rw [HAw.out, HBw.out]) RepC.out (by rw [HCd.out, HAd.out]) (by rw [HCw.out, HAw.out])
  have hsum : A.n + B.n ≤ 1152921504606846976 := by rw [RepA.out.n, RepB.out.n]; omega
  have HM1 := hide (fun wx (hb : Below (w6.alloc (.cells #[.int .i64 C.d, .int .i64 C.w, .slice ca C.c.length cc, .int .i64 C.n] 24)).heap.size (w6.alloc (.cells #[.int .i64 C.d, .int .i64 C.w, .slice ca C.c.length cc, .int .i64 C.n] 24)) wx) => Merge_ok _ _ A B wx (HRa6.out.below hb (Nat.le_refl _)) (HRb6.out.below hb (Nat.le_refl _)) RepA.out.good RepB.out.good (by rw [HAd.out, HBd.out]) (by rw [HAw.out, HBw.out]) hsum)
  have HM2 := hide (fun wx (hb : Below (w6.alloc (.cells #[.int .i64 C.d, .int .i64 C.w, .slice ca C.c.length cc, .int .i64 C.n] 24)).heap.size (w6.alloc (.cells #[.int .i64 C.d, .int .i64 C.w, .slice ca C.c.length cc, .int .i64 C.n] 24)) wx) => Merge_ok _ _ B A wx (HRb6.out.below hb (Nat.le_refl _)) (HRa6.out.below hb (Nat.le_refl _)) RepB.out.good RepA.out.good (by rw [HAd.out, HBd.out]) (by rw [HAw.out, HBw.out]) (by omega))
  rw [hboth.1] at HM1
  rw [hboth.2] at HM2
  clear HB5 H5 hb6 hba ownC HXa5 HRa5 HXb5 HRb5 hboth hsum HRa6 HRb6 RepA RepB RepC HAd HBd HCd HAw HBw HCw
  generalize w6.alloc (.cells #[.int .i64 C.d, .int .i64 C.w, .slice ca C.c.length cc, .int .i64 C.n] 24) = W6 at *
  obtain ⟨p0, p1, p2, p3⟩ := HXa6.out.cells
  obtain ⟨q0, q1, q2, q3⟩ := HXb6.out.cells
  have HM1b := hide (HM1.out W6 (Below.refl _ _))
  clear HM1
  go_upto_region 9 with (go_at_call 17; go_must (refine HM1b.out.mono ?_); rintro e w7 ⟨vx, rfl, ownX, hb7⟩; obtain ⟨xa, xc, rfl⟩ := ownX.shape)
  have hba := (Below.refl w7.heap.size w7).alloc (Nat.le_refl _) (.cells #[.int .i64 C.d, .int .i64 C.w, .slice xa C.c.length xc, .int .i64 C.n] 24)
  have HW7 := hide (hb7.alloc hb7.size (.cells #[.int .i64 C.d, .int .i64 C.w, .slice xa C.c.length xc, .int .i64 C.n] 24))
  have HXx : Hid (BoxK (w7.alloc (.cells #[.int .i64 C.d, .int .i64 C.w, .slice xa C.c.length xc, .int .i64 C.n] 24)) w7.heap.size (.slice xa C.c.length xc) C) := BoxK.new w7 _ C
  have HRx := hide ((OwnK.row ownX).below hba (Nat.le_refl _))
  clear HM1b hb7 hba ownX p0 p1 p2 p3 q0 q1 q2 q3
  generalize w7.alloc (.cells #[.int .i64 C.d, .int .i64 C.w, .slice xa C.c.length xc, .int .i64 C.n] 24) = W7 at *
  obtain ⟨p0, p1, p2, p3⟩ := (HXa6.out.below HW7.out).cells
  obtain ⟨q0, q1, q2, q3⟩ := (HXb6.out.below HW7.out).cells
  have HM2b := hide (HM2.out W7 HW7.out)
  clear HM2
  go_upto_region 10 with (go_at_call 17; go_must (refine HM2b.out.mono ?_); rintro e w8 ⟨vy, rfl, ownY, hb8⟩; obtain ⟨ya, yc, rfl⟩ := ownY.shape)
  have hba := (Below.refl w8.heap.size w8).alloc (Nat.le_refl _) (.cells #[.int .i64 C.d, .int .i64 C.w, .slice ya C.c.length yc, .int .i64 C.n] 24)
  have hbe := (Below.refl (w8.alloc (.cells #[.int .i64 C.d, .int .i64 C.w, .slice ya C.c.length yc, .int .i64 C.n] 24)).heap.size _).alloc (Nat.le_refl _) (.cells #[.int .i64 0, .int .i64 0] 25)
  have hW8 := hb8.alloc hb8.size (.cells #[.int .i64 C.d, .int .i64 C.w, .slice ya C.c.length yc, .int .i64 C.n] 24)
  have HXy : Hid (BoxK (w8.alloc (.cells #[.int .i64 C.d, .int .i64 C.w, .slice ya C.c.length yc, .int .i64 C.n] 24)) w8.heap.size (.slice ya C.c.length yc) C) := BoxK.new w8 _ C
  have HRy := hide (((OwnK.row ownY).below hba (Nat.le_refl _)).below hbe (Nat.le_refl _))
  have HXx8 := hide ((HXx.out.below hW8).below hbe)
  have HRx8 := hide ((HRx.out.below hW8 (Nat.le_refl _)).below hbe (Nat.le_refl _))
  have HXy8 := hide (HXy.out.below hbe)
  have HXc8 := hide (((HXc.out.below HW7.out).below hW8).below hbe)
  have HRc8 := hide (((HRc.out.below HW7.out (Nat.le_refl _)).below hW8 (Nat.le_refl _)).below hbe (Nat.le_refl _))
  have hg := good_zeros _ 2 _ (row_two_zeros (w8.alloc (.cells #[.int .i64 C.d, .int .i64 C.w, .slice ya C.c.length yc, .int .i64 C.n] 24)) 25)
  rw [World.size_alloc] at hg
  have HG := hide hg
  clear hg
  have HB8 := hide ((Below.next HB6.out HW7.out |>.trans (hW8.mono (Below.next HB6.out HW7.out).size)).trans (hbe.mono ((Below.next HB6.out HW7.out |>.trans (hW8.mono (Below.next HB6.out HW7.out).size)).size)))
  clear HM2b hb8 hba ownY p0 p1 p2 p3 q0 q1 q2 q3 hbe hW8 HXy HXx HRx HXc HRc HB6 HW7 HXa6 HXb6
  go_wp2_with fail
  generalize (w8.alloc (.cells #[.int .i64 C.d, .int .i64 C.w, .slice ya C.c.length yc, .int .i64 C.n] 24)).alloc (.cells #[.int .i64 0, .int .i64 0] 25) = W9 at *
  refine HG.out.mono ?_
  rintro e w9 ⟨rfl, rfl⟩
  have HSa := hide (sameSketch_yes _ _ C w9 HRx8.out HRc8.out)
  have HSb := hide (fun wx (hb : Below w9.heap.size w9 wx) => sameSketch_yes _ _ C wx (HRy.out.below hb (Nat.le_refl _)) (HRc8.out.below hb (Nat.le_refl _)))
  obtain ⟨p0, p1, p2, p3⟩ := HXx8.out.cells
  obtain ⟨q0, q1, q2, q3⟩ := HXc8.out.cells
  go_wp2_with fail
  refine HSa.out.mono ?_
  rintro e w10 ⟨rfl, hb10⟩
  have HB10 := hide (Below.next HB8.out hb10)
  have HSb2 := hide (HSb.out w10 hb10)
  clear p0 p1 p2 p3 q0 q1 q2 q3
  obtain ⟨p0, p1, p2, p3⟩ := (HXy8.out.below hb10).cells
  obtain ⟨q0, q1, q2, q3⟩ := (HXc8.out.below hb10).cells
  clear HB8 HSa HSb hb10 HXx8 HXy8 HXc8 HRx8 HRc8 HRy HG
  go_wp2_with fail
  refine HSb2.out.mono ?_
  rintro e w11 ⟨rfl, hb11⟩
  have HB11 := hide (Below.next HB10.out hb11)
  clear hb11 HB10 HSb2
  go_wp2
  go_ret
  exact ⟨rfl, HB11.out⟩
theorem walk_SketchLinear (d x : Int) (v1 : Value) (l : List ByteArray) (v2 : Value) (m : List ByteArray) (w : World) (d0 : -9223372036854775808 ≤ d) (d1 : d ≤ 9223372036854775807) (x0 : -9223372036854775808 ≤ x) (x1 : x ≤ 9223372036854775807) (h1 : RowT w v1 l) (hl : TxOk l) (hn1 : l.length * 16 ≤ 140737488351232) (h2 : RowT w v2 m) (hm : TxOk m) (hn2 : m.length * 16 ≤ 140737488351232) :
    Calls Try.prog 6 #[.int .i64 d, .int .i64 x, v1, v2] w fun e w' => e = .returned (.bool true) ∧ Below w.heap.size w w' := by
  have HSk := hide (fun wx => sketches_any wx)
  cases ha : P.arB d x with
  | false => exact linear_bad d x v1 v2 l m w h1 h2 hn1 hn2 ha HSk
  | true =>
    unfold P.arB at ha
    simp at ha
    obtain ⟨D, rfl⟩ : ∃ D : Nat, d = D := ⟨d.toNat, by omega⟩
    obtain ⟨X, rfl⟩ : ∃ X : Nat, x = X := ⟨x.toNat, by omega⟩
    exact linear_good D X v1 v2 l m w h1 h2 hl hm hn1 hn2 (by omega) (by omega) (by omega) (by omega) HSk
set_option maxRecDepth 100000 in
theorem lifted_SketchLinear (os : Os) (started : os.Started) (H : Type) (enc : TypeId × Value → H) :
    ReturnsInHanded {} Try.checked os 6 .any (Rows.sketchLinearSpec.pre6 enc Try.prog Try.f6 Rows.sketchLinearRow.domain false) (Rows.sketchLinearSpec.post enc Try.prog Try.f6 false true false false) := by
  refine returnsInHanded_of_change_sized (C := Try.checked) own started (by kernel_rfl) Try.func6
    (ChangeSpec.witness6 (enc := enc) (C := Try.checked) false ⟨#[], #[.int .i64 0, .int .i64 0, .slice none 0 0, .slice none 0 0], []⟩ 8 (by kernel_rfl) (by kernel_rfl) (by kernel_rfl) (by kernel_rfl)) ?_
  intro W base args ds gs before hval0 hW hcnd hsz0  _
  have hsz : (DataW.weightsEach Try.prog (Try.f6.params.toList ++ Rows.sketchLinearSpec.plain.varTypes Try.prog) (ds ++ gs)).all (· ≤ reachBytes) = true := hsz0
  have hval : ∀ (j : Nat) t v, Try.f6.params[j]? = some t → args[j]? = some v → Value.okWide Try.prog W .any base t v := hval0
  have hW' := hW
  obtain ⟨p, q, hA0, hV, rfl, hfz, hnd⟩ := hW
  have hA : DataW.TrodAll enc Try.prog W 0 (fun _ => true) true Try.f6.params.toList args.toList ds p := hA0
  rw [Try.params6] at hA hval hsz
  obtain ⟨v0, vs0, d0, ds0, p0, q0, hargs, rfl, rfl, h0, r0⟩ := trodAll_cons hA
  obtain ⟨v1, vs1, d1, ds1, p1, q1, rfl, rfl, rfl, h1, r1⟩ := trodAll_cons r0
  obtain ⟨v2, vs2, d2, ds2, p2, q2, rfl, rfl, rfl, h2, r2⟩ := trodAll_cons r1
  obtain ⟨v3, vs3, d3, ds3, p3, q3, rfl, rfl, rfl, h3, r3⟩ := trodAll_cons r2
  obtain ⟨rfl, rfl, rfl⟩ := trodAll_nil r3
  obtain rfl : args = #[v0, v1, v2, v3] := by cases args; simp_all
  obtain ⟨rfl, rfl⟩ := trodVars_none hV
  have k0 := h0
  have lt0 : ∀ x ∈ p0, x.block < W.heap.size := by obtain ⟨m, hm⟩ := k0; exact DataW.trod_lt m _ _ _ hm
  obtain ⟨a0, rfl, rfl, rfl, w0⟩ := open_int Try.underlying3 (hval 0 3 v0 rfl rfl) h0
  have b0 := bounds_i64 w0
  have k1 := h1
  have lt1 : ∀ x ∈ p1, x.block < W.heap.size := by obtain ⟨m, hm⟩ := k1; exact DataW.trod_lt m _ _ _ hm
  obtain ⟨a1, rfl, rfl, rfl, w1⟩ := open_int Try.underlying3 (hval 1 3 v1 rfl rfl) h1
  have b1 := bounds_i64 w1
  have k2 := h2
  have lt2 : ∀ x ∈ p2, x.block < W.heap.size := by obtain ⟨m, hm⟩ := k2; exact DataW.trod_lt m _ _ _ hm
  obtain ⟨s2, len2, cap2, rfl⟩ := okWide_slice Try.underlying37 (hval 2 37 v2 rfl rfl)
  obtain ⟨l2, row2, wf2, sh2⟩ := open_texts h2
  have rc2 := row_reachN hsz (j := 2) (t := 37) rfl rfl Try.underlying37 sh2
  rw [bytes9] at rc2
  have k3 := h3
  have lt3 : ∀ x ∈ p3, x.block < W.heap.size := by obtain ⟨m, hm⟩ := k3; exact DataW.trod_lt m _ _ _ hm
  obtain ⟨s3, len3, cap3, rfl⟩ := okWide_slice Try.underlying37 (hval 3 37 v3 rfl rfl)
  obtain ⟨l3, row3, wf3, sh3⟩ := open_texts h3
  have rc3 := row_reachN hsz (j := 3) (t := 37) rfl rfl Try.underlying37 sh3
  rw [bytes9] at rc3
  clear hA0 hval0
  refine (walk_SketchLinear a0 a1 (.slice s2 len2 cap2) l2 (.slice s3 len3 cap3) l3 W b0.1 b0.2 b1.1 b1.2 row2 wf2 rc2 row3 wf3 rc3).mono fun e W' ⟨he, bel⟩ => ?_
  subst he
  exact ⟨_, rfl, _, _, _, [], _, [], hW', trodAll_mk1 (shut_bool Try.underlying4 _), (trodAll_cons_mk (Below.trod laidOut (by kernel_rfl) (of_decide_eq_true (by kernel_rfl)) k0 bel lt0) (trodAll_cons_mk (Below.trod laidOut (by kernel_rfl) (of_decide_eq_true (by kernel_rfl)) k1 bel lt1) (trodAll_cons_mk (Below.trod laidOut (by kernel_rfl) (of_decide_eq_true (by kernel_rfl)) k2 bel lt2) (trodAll_cons_mk (Below.trod laidOut (by kernel_rfl) (of_decide_eq_true (by kernel_rfl)) k3 bel lt3) trodAll_mk0)))), rfl, bel.frame _, fun h => by cases h⟩

theorem proved_SketchLinear : Rows.SketchLinearSaid :=
  OpenClaim.holds_of_wide 6 Try.f6 rfl rfl rfl rfl rfl rfl rfl ⟨rfl, rfl, rfl, rfl, rfl⟩ rfl rfl rfl rfl rfl (by kernel_rfl) Try.func6 (by kernel_rfl)
    (of_decide_eq_true (by kernel_rfl)) (by unfold Func.isWrapper; first | (rw [if_pos (by decide +kernel)]; kernel_rfl) | (rw [if_neg (by decide +kernel)]; exact ⟨rfl, rfl⟩))
    (fun os started H enc _ => lifted_SketchLinear os started H enc)
#print axioms proved_SketchLinear
end Go.Proofs.Ytenfpkokogfdaaa
