/- SketchMerges holds: at all inputs the law answers true and changes nothing that was there. -/
import Derived.Test.YtenfpkokogfdaaaSkMwAll
import Derived.Test.YtenfpkokogfdaaaSkMgAll
import Derived.Maps.AppendAt
namespace Go.Proofs.Ytenfpkokogfdaaa
open Go.ChangeShapes Go.WideShapes Go.ChangeAt Go.RowKit
set_option linter.unusedVariables false
theorem step_oneI {ops : Array Oper} {o : Oper} {a : Act} {K : Act → World → Prop} {Q : Exit → Act → World → Prop} {E : Prop} (hgd : o.guard = none) (s x : Operand)
    (ho : o.op = .call { callee := .builtin .append, args := #[s, x], argTypes := #[22, 22] })
    (B base : Nat) (w0 w : World) (v : Value) (acc : List Int) (y : Int) (hown : OwnI w base v acc) (hb : Below B w0 w) (hB : B ≤ base) (hs : a.eval s = v)
    (hx : a.eval x = .slice (some ⟨w.heap.size, 0, none⟩) 1 1) (hlen : (acc.length + 1) * 8 ≤ 140737488355328) (hbase : base ≤ w.heap.size)
    (h : ∀ v' w', OwnI w' base v' (acc ++ [y]) → Below B w0 w' → w.heap.size < w'.heap.size → w.grownBy w' v.ownBlock → K (a.put o.dst v') w') :
    if Region.wanted o (yielded ops a.tmps) = true then Oper.wp Try.prog o a (w.alloc (.cells #[.int .i64 y] 2)) K Q else E := by
  have hw : Region.wanted o (yielded ops a.tmps) = true := by simp [Region.wanted, hgd]
  rw [if_pos hw]
  obtain ⟨i0, hi, hz0, hz1, hz2⟩ := info_parts Try.info2
  refine wp_append_own _ s x 22 ho base 2 i0 (.int .i64 0) 1 8 Try.underlying22 hi hz0 hz1 hz2 rfl (by decide) v _ _ hs (hown.alloc _) ⟨w.heap.size, 0, none⟩ 1 1 [.int .i64 y] hx rfl ?_ ?_ ?_ ?_ ?_ ?_
  · intro j u hj
    match j, hj with
    | 0, hj => simp at hj; subst hj; simp [Addr.add]
  · intro u hu; simp at hu; subst hu; rfl
  · unfold maxLen; omega
  · omega
  · simp; omega
  · intro v' w' ho' hg _
    refine h v' w' ?_ ((hb.alloc (by omega) _).grown hg (by simp; omega) ?_) ?_ ((World.grownBy_alloc w _ _).trans hg)
    · have e1 : (acc ++ [y]).length = acc.length + 1 := by simp
      have e2 : (acc ++ [y]).map (Value.int .i64) = acc.map (Value.int .i64) ++ [.int .i64 y] := by simp
      show w'.ownsRow base 2 1 v' (acc ++ [y]).length ((acc ++ [y]).map (Value.int .i64))
      rw [e1, e2]; exact ho'
    · intro k hk; have := (hown.lt k hk).1; omega
    · have := hg.size; simp at this; omega
theorem step_oneId {ops : Array Oper} {o : Oper} {a : Act} {K : Act → World → Prop} {Q : Exit → Act → World → Prop} {E : Prop} (hgd : o.guard = none) (s x : Operand)
    (ho : o.op = .call { callee := .builtin .append, args := #[s, x], argTypes := #[22, 22] })
    (B base : Nat) (w0 w : World) (v : Value) (acc : List Int) (y : Int) (hown : OwnI w base v acc) (hb : Below B w0 w) (hB : B ≤ base) (hs : a.eval s = v)
    (hx : a.eval x = .slice (some ⟨w.heap.size, 0, none⟩) 1 1) (hlen : (acc.length + 1) * 8 ≤ 140737488355328) (hbase : base ≤ w.heap.size)
    (h : ∀ v' w', OwnI w' base v' (acc ++ [y]) → Below B w0 w' → w.heap.size < w'.heap.size → w.grownBy w' v.ownBlock → K (a.put o.dst v') w') :
    if Region.wanted o (yielded ops a.tmps) = true then Oper.wp Try.prog o a (w.alloc (.cells #[.int .i64 y] 2)).drew K Q else E :=
  step_oneI (ops := ops) hgd s x ho B base w0 w.drew v acc y hown hb.drew hB hs hx hlen hbase fun v' w' a1 a2 a3 a4 => h v' w' a1 a2 a3 ⟨a4.os, a4.tape, a4.output, a4.size, a4.block⟩
namespace P
/-- The first k cells of both. -/
def sumT (a b : List Int) (k : Nat) : List Int := (List.range k).map fun p => a.getD p 0 + b.getD p 0
theorem sumT_len (a b : List Int) (k : Nat) : (sumT a b k).length = k := by simp [sumT]
theorem sumT_succ (a b : List Int) (k : Nat) : sumT a b (k + 1) = sumT a b k ++ [a.getD k 0 + b.getD k 0] := by simp [sumT, List.range_succ]
theorem sumT_all (a b : List Int) : sumT a b a.length = bothC a b := by
  apply List.ext_getElem (by simp [sumT, bothC])
  intro i h1 h2
  have hi : i < a.length := by simpa [sumT] using h1
  simp [sumT, bothC, List.getD_eq_getElem?_getD, hi]
end P
set_option maxRecDepth 100000 in
set_option maxHeartbeats 4000000 in
theorem merges_ok (va vb : Value) (a b : P.Sk) (w : World) (hra : RowK .i64 w va a.c) (hrb : RowK .i64 w vb b.c) (hga : P.SkGood a) (hgb : P.SkGood b) (hd : a.d = b.d) (hw : a.w = b.w) (hn : a.n + b.n ≤ 1152921504606846976) :
    Calls Try.prog 4 #[aggK va a, aggK vb b] w fun e w' => e = .returned (.bool true) ∧ Below w.heap.size w w' := by
  have HB := hide (((Below.refl w.heap.size w).alloc (Nat.le_refl _) (.cells #[.int .i64 a.d, .int .i64 a.w, va, .int .i64 a.n] 24)).alloc (by simp) (.cells #[.int .i64 b.d, .int .i64 b.w, vb, .int .i64 b.n] 24))
  have HM := hide (fun wx (h : Below w.heap.size w wx) => Merge_ok va vb a b wx (hra.below h (Nat.le_refl _)) (hrb.below h (Nat.le_refl _)) hga hgb hd hw hn)
  have HFa : Hid (∀ wx, Below w.heap.size w wx → Calls Try.prog 13 #[.agg #[.int .i64 a.d, .int .i64 a.w, va, .int .i64 a.n]] wx fun e w' => e = .returned (.int .i64 0) ∧ Below wx.heap.size wx w') := fun wx h => by
    have := Fault_any va a.raw wx (hra.below h (Nat.le_refl _))
    rw [P.chk_raw hga] at this; exact this
  have HFb : Hid (∀ wx, Below w.heap.size w wx → Calls Try.prog 13 #[.agg #[.int .i64 b.d, .int .i64 b.w, vb, .int .i64 b.n]] wx fun e w' => e = .returned (.int .i64 0) ∧ Below wx.heap.size wx w') := fun wx h => by
    have := Fault_any vb b.raw wx (hrb.below h (Nat.le_refl _))
    rw [P.chk_raw hgb] at this; exact this
  have hs1 : (w.alloc (.cells #[.int .i64 a.d, .int .i64 a.w, va, .int .i64 a.n] 24)).heap.size = w.heap.size + 1 := by simp
  have HX : Hid (BoxK ((w.alloc (.cells #[.int .i64 a.d, .int .i64 a.w, va, .int .i64 a.n] 24)).alloc (.cells #[.int .i64 b.d, .int .i64 b.w, vb, .int .i64 b.n] 24)) w.heap.size va a) := (BoxK.new w va a).below ((Below.refl _ _).alloc (Nat.le_refl _) _)
  have HY : Hid (BoxK ((w.alloc (.cells #[.int .i64 a.d, .int .i64 a.w, va, .int .i64 a.n] 24)).alloc (.cells #[.int .i64 b.d, .int .i64 b.w, vb, .int .i64 b.n] 24)) (w.heap.size + 1) vb b) := by
    have h0 := BoxK.new (w.alloc (.cells #[.int .i64 a.d, .int .i64 a.w, va, .int .i64 a.n] 24)) vb b
    rw [hs1] at h0; exact h0
  have hlab : a.c.length = b.c.length := by rw [hga.len, hgb.len, hd, hw]
  have HBd1 := hide (fun p h => P.cell_bound hga p h)
  have HBd2 := hide (fun p h => P.cell_bound hgb p h)
  have hna0 := hga.n0
  have hnb0 := hgb.n0
  have hna1 := hga.n1
  have hnb1 := hgb.n1
  have hpos : 0 < a.c.length := by rw [hga.len]; exact Nat.mul_pos hga.d1 hga.w1
  have hlen : a.c.length ≤ 1600 := by rw [hga.len]; exact Nat.mul_le_mul hga.d8 hga.w200
  have e1 : IntKind.i64.wrap (a.n + b.n) = a.n + b.n := by rw [IntKind.wrap_i64]; omega
  have e2 : IntKind.i64.wrap (1152921504606846976 - b.n) = 1152921504606846976 - b.n := by rw [IntKind.wrap_i64]; omega
  have d1 : ((a.d : Int) != (b.d : Int)) = false := by rw [bne_eq_false_iff_eq, hd]
  have d2 : ((a.w : Int) != (b.w : Int)) = false := by rw [bne_eq_false_iff_eq, hw]
  have d3 : decide (1152921504606846976 - b.n < a.n) = false := by simp; omega
  have HTL := hide (P.sumT_len a.c b.c)
  have HTS := hide (P.sumT_succ a.c b.c)
  have HTA := hide (P.sumT_all a.c b.c)
  have HBoth : Hid (P.skBoth a b = ⟨a.d, a.w, P.bothC a.c b.c, a.n + b.n⟩) := rfl
  have HLab := hide hlab
  clear hga hgb hd hw hs1 hlab
  obtain ⟨av, acap, rfl, ⟨hac1, hac2, _⟩, hacase⟩ := hra
  obtain ⟨bv, bcap, rfl, ⟨hbc1, hbc2, _⟩, hbcase⟩ := hrb
  rcases hacase with h | ⟨ab, ao, rfl, habs, hacell⟩
  · rw [h] at hpos; simp at hpos
  rcases hbcase with h | ⟨bb, bo, rfl, hbbs, hbcell⟩
  · have := HLab.out; rw [h] at this; simp at this; rw [this] at hpos; simp at hpos
  have HAc := hide hacell
  have HBc : Hid (∀ j, j < a.c.length → w.cell? ⟨bb, bo + j, none⟩ = some (.int .i64 (b.c.getD j 0))) := fun j hj => hbcell j (by rw [← HLab.out]; exact hj)
  unfold maxLen at hbc2 hac2
  clear hacell hbcell
  generalize hbl : b.c.length = bl at *
  obtain rfl : a.c.length = bl := HLab.out
  clear hbl HLab
  go_enter Try.func4, Try.ntmps4
  go_upto_region 1 with fail
  generalize (w.alloc (.cells #[.int .i64 a.d, .int .i64 a.w, .slice (some ⟨ab, ao, none⟩) a.c.length acap, .int .i64 a.n] 24)).alloc (.cells #[.int .i64 b.d, .int .i64 b.w, .slice (some ⟨bb, bo, none⟩) a.c.length bcap, .int .i64 b.n] 24) = W1 at *
  obtain ⟨x0, x1, x2, x3⟩ := HX.out.cells
  obtain ⟨y0, y1, y2, y3⟩ := HY.out.cells
  have HM1 := hide (HM.out W1 HB.out)
  clear HM
  generalize hU : P.skBoth a b = U at *
  have HU := hide hU
  clear hU
  go_upto_region 2 with (go_at_call 17; go_must (refine HM1.out.mono ?_); rintro e w2 ⟨vu, rfl, ownU, hb2⟩; obtain ⟨ua, uc, rfl⟩ := ownU.shape)
  have hb3 := hb2.alloc hb2.size (.cells #[.int .i64 U.d, .int .i64 U.w, .slice ua U.c.length uc, .int .i64 U.n] 24)
  have HB2 := hide (Below.next HB.out hb3)
  have HXu : Hid (BoxK (w2.alloc (.cells #[.int .i64 U.d, .int .i64 U.w, .slice ua U.c.length uc, .int .i64 U.n] 24)) w2.heap.size (.slice ua U.c.length uc) U) := BoxK.new w2 _ U
  have HRu := hide ((OwnK.row ownU).below ((Below.refl w2.heap.size w2).alloc (Nat.le_refl _) (.cells #[.int .i64 U.d, .int .i64 U.w, .slice ua U.c.length uc, .int .i64 U.n] 24)) (Nat.le_refl _))
  have HX2 := hide (HX.out.below hb3)
  have HY2 := hide (HY.out.below hb3)
  clear HB hb2 hb3 HM1 ownU x0 x1 x2 x3 y0 y1 y2 y3 HX HY
  generalize w2.alloc (.cells #[.int .i64 U.d, .int .i64 U.w, .slice ua U.c.length uc, .int .i64 U.n] 24) = W2 at *
  generalize w2.heap.size = gu at *
  obtain ⟨x0, x1, x2, x3⟩ := HX2.out.cells
  obtain ⟨y0, y1, y2, y3⟩ := HY2.out.cells
  have HF1 := hide (HFa.out W2 HB2.out)
  go_upto_region 4 with (go_at_call 13; go_must (refine HF1.out.mono ?_); rintro e w3 ⟨rfl, hb3⟩)
  have HB3 := hide (Below.next HB2.out hb3)
  have HX3 := hide (HX2.out.below hb3)
  have HY3 := hide (HY2.out.below hb3)
  have HXu3 := hide (HXu.out.below hb3)
  have HRu3 := hide (HRu.out.below hb3 (Nat.le_refl _))
  clear HB2 HF1 hb3 HFa HX2 HY2 HXu HRu x0 x1 x2 x3 y0 y1 y2 y3
  obtain ⟨x0, x1, x2, x3⟩ := HX3.out.cells
  obtain ⟨y0, y1, y2, y3⟩ := HY3.out.cells
  have HF2 := hide (HFb.out w3 HB3.out)
  go_upto_region 12 with (go_at_call 13; go_must (refine HF2.out.mono ?_); rintro e w4 ⟨rfl, hb4⟩; replace x0 := keep_cell x0 hb4; replace x1 := keep_cell x1 hb4; replace x2 := keep_cell x2 hb4; replace x3 := keep_cell x3 hb4; replace y0 := keep_cell y0 hb4; replace y1 := keep_cell y1 hb4; replace y2 := keep_cell y2 hb4; replace y3 := keep_cell y3 hb4)
  have hb5 := hb4.alloc hb4.size (.cells #[.int .i64 a.d, .int .i64 a.w, .slice none 0 0, .int .i64 (a.n + b.n)] 24)
  have HB5 := hide (Below.next HB3.out hb5)
  have HX5 := hide (HX3.out.below hb5)
  have HY5 := hide (HY3.out.below hb5)
  have HXu5 := hide (HXu3.out.below hb5)
  have HRa : Hid (∀ wr, Below w4.heap.size (w4.alloc (.cells #[.int .i64 a.d, .int .i64 a.w, .slice none 0 0, .int .i64 (a.n + b.n)] 24)) wr → RowK .i64 wr (.slice ua U.c.length uc) U.c) := fun wr h => (HRu3.out.below hb4 (Nat.le_refl _)).below (((Below.refl w4.heap.size w4).alloc (Nat.le_refl _) _).trans h) (Nat.le_refl _)
  have HW5 : Hid (BoxK (w4.alloc (.cells #[.int .i64 a.d, .int .i64 a.w, .slice none 0 0, .int .i64 (a.n + b.n)] 24)) w4.heap.size (.slice none 0 0) ⟨a.d, a.w, [], a.n + b.n⟩) := BoxK.new w4 _ ⟨a.d, a.w, [], a.n + b.n⟩
  have hgu : gu < w4.heap.size := Nat.lt_of_lt_of_le HXu3.out.lt hb4.size
  have hgy : w.heap.size + 1 < w4.heap.size := Nat.lt_of_lt_of_le HY3.out.lt hb4.size
  clear HB3 HF2 hb4 hb5 HFb HX3 HY3 HXu3 HRu3 x0 x1 x2 x3 y0 y1 y2 y3
  generalize w4.alloc (.cells #[.int .i64 a.d, .int .i64 a.w, .slice none 0 0, .int .i64 (a.n + b.n)] 24) = W5 at *
  generalize w4.heap.size = gw at *
  have hgw : gw < W5.heap.size := HW5.out.lt
  obtain ⟨x0, x1, x2, x3⟩ := HX5.out.cells
  go_wp2
  clear x0 x1 x2 x3
  go_loopw [71] (fun i wr => ∃ (k : Nat) (xa : Option Addr) (xc : Nat), k ≤ a.c.length ∧ i = .int .i64 k ∧ BoxK wr gw (.slice xa k xc) ⟨a.d, a.w, [], a.n + b.n⟩ ∧ OwnI wr W5.heap.size (.slice xa k xc) (P.sumT a.c b.c k) ∧ Below gw W5 wr) (fun i _ => a.c.length - (intOf i).toNat)
  case atStart => exact ⟨0, none, 0, by omega, rfl, HW5.out, OwnK.nil _ _ _ _, Below.refl _ _⟩
  case round =>
    obtain ⟨k, xa, xc, hk, rfl, hbx, hown, hbl⟩ := hrel
    have HBr := hide (HB5.out.trans (hbl.mono (by omega)))
    by_cases hlt : k < a.c.length
    · have j0 : (0 : Int) ≤ (k : Int) := by omega
      have j1 : (k : Int) < (a.c.length : Int) := by omega
      obtain ⟨w0, w1, w2c, w3c⟩ := hbx.cells
      obtain ⟨x0, x1, x2, x3⟩ : _ ∧ _ ∧ _ ∧ _ := (show BoxK wr w.heap.size _ a from (hbl.block w.heap.size (by omega)).trans HX5.out).cells
      obtain ⟨y0, y1, y2, y3⟩ : _ ∧ _ ∧ _ ∧ _ := (show BoxK wr (w.heap.size + 1) _ b from (hbl.block (w.heap.size + 1) (by omega)).trans HY5.out).cells
      have p0 := (HBr.out.cell (p := ⟨ab, ao + k, none⟩) habs).trans (HAc.out k hlt)
      have p1 := (HBr.out.cell (p := ⟨bb, bo + k, none⟩) hbbs).trans (HBc.out k hlt)
      have hc1 := HBd1.out k hlt
      have hc2 := HBd2.out k hlt
      have HSu := hide (HTS.out k)
      have HLn := hide (HTL.out k)
      generalize a.c.getD k 0 = x at *
      generalize b.c.getD k 0 = y at *
      have e3 : IntKind.i64.wrap (x + y) = x + y := by rw [IntKind.wrap_i64]; omega
      have HBx := hide hbx
      have HOw := hide hown
      have HBl := hide hbl
      have HTL2 := hide (HTL.out (k + 1))
      have hwz : W5.heap.size ≤ wr.heap.size := hbl.size
      have w2d := keep_alloc w2c (.cells #[.int .i64 (x + y)] 2)
      clear hbx hown hbl hc1 hc2 w0 w1 w3c x0 x1 x3 y0 y1 y3
      go_wp2
      go_region_law (first
        | (refine step_oneId rfl (.tmp 75) (.tmp 87) rfl gw W5.heap.size W5 wr _ (P.sumT a.c b.c k) _ HOw.out HBl.out (by omega) rfl rfl (by rw [HLn.out]; omega) hwz ?_; intro v1 w9 own1 hb1 _ hg1; rw [← HSu.out] at own1; obtain ⟨xa1, xc1, hv1⟩ := own1.shape; rw [HTL2.out] at hv1; rw [hv1] at own1 ⊢; clear hv1; have bx1 := HBx.out.grown hg1 (HBx.out.ne HOw.out); obtain ⟨_, _, zc, _⟩ := bx1.cells; have zu := bx1.unfrozen 2; have HG := hide (And.intro (bx1.list (.slice xa1 (k + 1) xc1) []) (And.intro (own1.box bx1 (setCell_grown w9 gw 2 (.slice xa1 (k + 1) xc1))) (hb1.setCell (p := ⟨gw, 2, none⟩) (Nat.le_refl _) (.slice xa1 (k + 1) xc1)))); clear own1 hb1 bx1 hg1)
        | (refine step_oneI rfl (.tmp 75) (.tmp 87) rfl gw W5.heap.size W5 wr _ (P.sumT a.c b.c k) _ HOw.out HBl.out (by omega) rfl rfl (by rw [HLn.out]; omega) hwz ?_; intro v1 w9 own1 hb1 _ hg1; rw [← HSu.out] at own1; obtain ⟨xa1, xc1, hv1⟩ := own1.shape; rw [HTL2.out] at hv1; rw [hv1] at own1 ⊢; clear hv1; have bx1 := HBx.out.grown hg1 (HBx.out.ne HOw.out); obtain ⟨_, _, zc, _⟩ := bx1.cells; have zu := bx1.unfrozen 2; have HG := hide (And.intro (bx1.list (.slice xa1 (k + 1) xc1) []) (And.intro (own1.box bx1 (setCell_grown w9 gw 2 (.slice xa1 (k + 1) xc1))) (hb1.setCell (p := ⟨gw, 2, none⟩) (Nat.le_refl _) (.slice xa1 (k + 1) xc1)))); clear own1 hb1 bx1 hg1))
      all_goals
        go_wp2
        go_roundw
        case rel => exact ⟨k + 1, xa1, xc1, by omega, by go_num, HG.out.1, HG.out.2.1, HG.out.2.2⟩
        case measure => simp [intOf]; omega
    · obtain rfl : k = a.c.length := by omega
      have hdd : decide ((a.c.length : Int) < (a.c.length : Int)) = false := by simp
      rw [HTA.out] at hown
      have hbu : BoxK wr gu _ U := (hbl.block gu hgu).trans HXu5.out
      have hru := HRa.out wr hbl
      obtain ⟨w0, w1, w2c, w3c⟩ := hbx.cells
      have hU2 := HBoth.out
      subst hU2
      obtain ⟨v0, v1, v2, v3⟩ := hbu.cells
      have hS := SameSketch_yes _ (.slice xa a.c.length xc) ⟨a.d, a.w, P.bothC a.c b.c, a.n + b.n⟩ wr hru (OwnK.row hown)
      have HS := hide hS
      have hln2 : (P.bothC a.c b.c).length = a.c.length := P.bothC_len _ _
      have HLn2 := hide hln2
      clear hS hru hbu hbx hown hbl HXu5 HRa HBoth HU hln2
      go_wp2_with (go_at_call 12; go_must (refine HS.out.mono ?_); rintro e w9 ⟨rfl, hb9⟩; have HB9 := hide (Below.next HBr.out hb9))
      go_ret
      exact ⟨rfl, HB9.out⟩
theorem walk_SketchMerges (va : Value) (a : P.Rw) (vb : Value) (b : P.Rw) (w : World) (hra : RowK .i64 w va a.c) (hia : RwI a) (hrb : RowK .i64 w vb b.c) (hib : RwI b) :
    Calls Try.prog 4 #[aggS va a, aggS vb b] w fun e w' => e = .returned (.bool true) ∧ Below w.heap.size w w' := by
  by_cases ha : P.GoodR a
  · by_cases hb : P.GoodR b
    · by_cases hd : a.d = b.d
      · by_cases hw : a.w = b.w
        · by_cases hn : 1152921504606846976 < a.n + b.n
          · exact merges_bad va vb a b 2 w hra hrb hia hib (.inr (.inr (.inr (.inr ⟨ha, hb, hd, hw, hn, rfl⟩))))
          · obtain ⟨A, hA, rfl⟩ := ha
            obtain ⟨B, hB, rfl⟩ := hb
            exact merges_ok va vb A B w hra hrb hA hB (by have h : (A.d : Int) = (B.d : Int) := hd; omega) (by have h : (A.w : Int) = (B.w : Int) := hw; omega) (by have h : ¬ 1152921504606846976 < A.n + B.n := hn; omega)
        · exact merges_bad va vb a b 1 w hra hrb hia hib (.inr (.inr (.inr (.inl ⟨ha, hb, hd, hw, rfl⟩))))
      · exact merges_bad va vb a b 1 w hra hrb hia hib (.inr (.inr (.inl ⟨ha, hb, hd, rfl⟩)))
    · exact merges_bad va vb a b 4 w hra hrb hia hib (.inr (.inl ⟨ha, hb, rfl⟩))
  · exact merges_bad va vb a b 4 w hra hrb hia hib (.inl ⟨ha, rfl⟩)
set_option maxRecDepth 100000 in
theorem lifted_SketchMerges (os : Os) (started : os.Started) (H : Type) (enc : TypeId × Value → H) :
    ReturnsInHanded {} Try.checked os 4 .any (Rows.sketchMergesSpec.pre6 enc Try.prog Try.f4 Rows.sketchMergesRow.domain false) (Rows.sketchMergesSpec.post enc Try.prog Try.f4 false true false false) := by
  refine returnsInHanded_of_change_sized (C := Try.checked) own started (by kernel_rfl) Try.func4
    (ChangeSpec.witness6 (enc := enc) (C := Try.checked) false ⟨#[], #[.agg #[.int .i64 0, .int .i64 0, .slice none 0 0, .int .i64 0], .agg #[.int .i64 0, .int .i64 0, .slice none 0 0, .int .i64 0]], []⟩ 8 (by kernel_rfl) (by kernel_rfl) (by kernel_rfl) (by kernel_rfl)) ?_
  intro W base args ds gs before hval0 hW hcnd hsz0  _
  have hsz : (DataW.weightsEach Try.prog (Try.f4.params.toList ++ Rows.sketchMergesSpec.plain.varTypes Try.prog) (ds ++ gs)).all (· ≤ reachBytes) = true := hsz0
  have hval : ∀ (j : Nat) t v, Try.f4.params[j]? = some t → args[j]? = some v → Value.okWide Try.prog W .any base t v := hval0
  have hW' := hW
  obtain ⟨p, q, hA0, hV, rfl, hfz, hnd⟩ := hW
  have hA : DataW.TrodAll enc Try.prog W 0 (fun _ => true) true Try.f4.params.toList args.toList ds p := hA0
  rw [Try.params4] at hA hval hsz
  obtain ⟨v0, vs0, d0, ds0, p0, q0, hargs, rfl, rfl, h0, r0⟩ := trodAll_cons hA
  obtain ⟨v1, vs1, d1, ds1, p1, q1, rfl, rfl, rfl, h1, r1⟩ := trodAll_cons r0
  obtain ⟨rfl, rfl, rfl⟩ := trodAll_nil r1
  obtain rfl : args = #[v0, v1] := by cases args; simp_all
  obtain ⟨rfl, rfl⟩ := trodVars_none hV
  have k0 := h0
  have lt0 : ∀ x ∈ p0, x.block < W.heap.size := by obtain ⟨m, hm⟩ := k0; exact DataW.trod_lt m _ _ _ hm
  obtain ⟨cv0, x0, rfl, rk0, ri0⟩ := open_sketch (hval 0 24 v0 rfl rfl) h0
  have k1 := h1
  have lt1 : ∀ x ∈ p1, x.block < W.heap.size := by obtain ⟨m, hm⟩ := k1; exact DataW.trod_lt m _ _ _ hm
  obtain ⟨cv1, x1, rfl, rk1, ri1⟩ := open_sketch (hval 1 24 v1 rfl rfl) h1
  clear hA0 hval0
  refine (walk_SketchMerges cv0 x0 cv1 x1 W rk0 ri0 rk1 ri1).mono fun e W' ⟨he, bel⟩ => ?_
  subst he
  exact ⟨_, rfl, _, _, _, [], _, [], hW', trodAll_mk1 (shut_bool Try.underlying4 _), (trodAll_cons_mk (Below.trod laidOut (by kernel_rfl) (of_decide_eq_true (by kernel_rfl)) k0 bel lt0) (trodAll_cons_mk (Below.trod laidOut (by kernel_rfl) (of_decide_eq_true (by kernel_rfl)) k1 bel lt1) trodAll_mk0)), rfl, bel.frame _, fun h => by cases h⟩

theorem proved_SketchMerges : Rows.SketchMergesSaid :=
  OpenClaim.holds_of_wide 4 Try.f4 rfl rfl rfl rfl rfl rfl rfl ⟨rfl, rfl, rfl, rfl, rfl⟩ rfl rfl rfl rfl rfl (by kernel_rfl) Try.func4 (by kernel_rfl)
    (of_decide_eq_true (by kernel_rfl)) (by unfold Func.isWrapper; first | (rw [if_pos (by decide +kernel)]; kernel_rfl) | (rw [if_neg (by decide +kernel)]; exact ⟨rfl, rfl⟩))
    (fun os started H enc _ => lifted_SketchMerges os started H enc)
#print axioms proved_SketchMerges
end Go.Proofs.Ytenfpkokogfdaaa
