/- Several texts in one. -/
import Derived.Test.YtcaidfffmllfeaaRefHvTAll
import Derived.Test.YtcaidfffmllfeaaHeavyEAll
/- What the reference's TalliesMerged answers: two of one K. -/
namespace Go.Proofs.Ytcaidfffmllfeaa
open Go.RowKit
set_option linter.unusedVariables false
namespace P
theorem tog_take {a b : List Ct} {j : Nat} {x : Ct} (h : b[j]? = some x) : tog a (b.take (j + 1)) = ins (tog a (b.take j)) x.1 x.2 := by
  unfold tog; rw [List.take_add_one, h, List.foldl_append]; rfl
/-- What holds of a part of what is put together. -/
theorem Two.part {a b : Hv} (h : Two a b) (j : Nat) : Asc (tog a.l (b.l.take j)) ∧ (tog a.l (b.l.take j)).length ≤ 1000 ∧ ∀ y ∈ tog a.l (b.l.take j), 0 < y.2 ∧ y.2 ≤ 4000000000 := by
  have hp : Pos (b.l.take j) := fun x hx => h.gb.ok.pos x (List.mem_of_mem_take hx)
  have hpos := tog_pos h.ga.ok.pos hp
  refine ⟨tog_asc h.ga.ok.2 _, ?_, fun y hy => ⟨hpos y hy, ?_⟩⟩
  · have h1 := tog_len a.l (b.l.take j)
    have h2 := h.ga.len; have h3 := h.ga.k2; have h4 := h.gb.len; have h5 := h.gb.k2
    rw [List.length_take] at h1
    omega
  · have h1 := mem_le_tot hpos hy
    rw [tog_tot] at h1
    have h2 := h.tot1
    rw [tog_tot] at h2
    have h3 := tot_append (b.l.take j) (b.l.drop j)
    rw [List.take_append_drop] at h3
    have h4 := tot_nonneg (l := b.l.drop j) (fun x hx => h.gb.ok.pos x (List.mem_of_mem_drop hx))
    omega
theorem many_take {l : List Ct} {k : Nat} {x : Ct} (h : l[k]? = some x) (v : Int) : many (l.take (k + 1)) v = many (l.take k) v + (if v ≤ x.2 then 1 else 0) := by
  unfold many
  rw [List.take_add_one, h, List.countP_append]
  simp [List.countP_cons]
/-- How the greatest number that is had by so many stands. -/
structure AtM (l : List Ct) (m : Nat) (j : Nat) (M : Int) : Prop where
  lo : 0 ≤ M
  hi : M ≤ thr l m
  hit : ∀ i x, i < j → l[i]? = some x → x.2 = thr l m → M = thr l m
theorem AtM.start {l : List Ct} {m : Nat} (h : 0 < thr l m) : AtM l m 0 0 := ⟨Int.le_refl _, by omega, fun i x hi => by omega⟩
theorem AtM.take {l : List Ct} {m : Nat} (h1 : 1 ≤ m) (h2 : m ≤ l.length) {j : Nat} {M : Int} (h : AtM l m j M) {x : Ct} (hx : l[j]? = some x) (hm : m ≤ many l x.2) (hg : M < x.2) : AtM l m (j + 1) x.2 := by
  have ht := thr_top h1 h2 hm
  have := h.lo
  refine ⟨by omega, ht, fun i y hi hy e => ?_⟩
  rcases Nat.lt_or_ge i j with h3 | h3
  · have := h.hit i y h3 hy e; omega
  · obtain rfl : i = j := by omega
    rw [hx] at hy; simp at hy; subst hy; exact e
theorem AtM.pass {l : List Ct} {m : Nat} (h1 : 1 ≤ m) (h2 : m ≤ l.length) {j : Nat} {M : Int} (h : AtM l m j M) {x : Ct} (hx : l[j]? = some x) (hm : ¬ (m ≤ many l x.2 ∧ M < x.2)) : AtM l m (j + 1) M := by
  refine ⟨h.lo, h.hi, fun i y hi hy e => ?_⟩
  rcases Nat.lt_or_ge i j with h3 | h3
  · exact h.hit i y h3 hy e
  · obtain rfl : i = j := by omega
    rw [hx] at hy; simp at hy; subst hy
    have h4 := thr_many h1 h2
    rw [← e] at h4
    have h5 := h.hi
    have : ¬ M < x.2 := fun hl => hm ⟨h4, hl⟩
    omega
theorem AtM.done {l : List Ct} {m : Nat} (h1 : 1 ≤ m) (h2 : m ≤ l.length) {M : Int} (h : AtM l m l.length M) : M = thr l m := by
  obtain ⟨c, hc, e⟩ := thr_mem h1 h2
  obtain ⟨i, hi, rfl⟩ := List.getElem_of_mem hc
  exact h.hit i _ hi (List.getElem?_eq_getElem hi) e
end P
/-- A list that came in, or that the call made. -/
def RdC (w wr : World) (v : Value) (l : List P.Ct) : Prop := RowC w v l ∨ OwnC wr w.heap.size v l
theorem RdC.read {w wr : World} {v : Value} {l : List P.Ct} (h : RdC w wr v l) (hb : Below w.heap.size w wr) : RowC wr v l := by
  rcases h with h | h
  · exact h.below hb (Nat.le_refl _)
  · exact h.row
theorem RdC.below {w wr w' : World} {v : Value} {l : List P.Ct} (h : RdC w wr v l) (hb : Below wr.heap.size wr w') : RdC w w' v l := by
  rcases h with h | h
  · exact .inl h
  · exact .inr (OwnX.below h hb (Nat.le_refl _))
theorem RdC.box {w wr w' : World} {v vb : Value} {l : List P.Ct} {s : P.Hv} {g : Nat} (h : RdC w wr v l) (hb : BoxH wr g vb s) (hg : wr.grownBy w' (some g)) : RdC w w' v l := by
  rcases h with h | h
  · exact .inl h
  · exact .inr (h.box hb hg)
theorem RdC.shp {w wr : World} {v : Value} {l : List P.Ct} (h : RdC w wr v l) : ∃ a cap, v = .slice a l.length cap := by
  rcases h with h | h
  · exact RowX.shp h
  · exact OwnX.shp ctC_len h
/-- How the first loop of TalliesMerged stands. -/
def MgdAt (w : World) (a b : P.Hv) (i : Value) (wr : World) : Prop :=
  ∃ (j : Nat) (va : Value), j ≤ b.l.length ∧ i = .int .i64 j ∧ BoxH wr w.heap.size va ⟨a.k, P.tog a.l (b.l.take j), a.n + b.n, a.off + b.off⟩ ∧ RdC w wr va (P.tog a.l (b.l.take j)) ∧ BoxH wr (w.heap.size + 2) (.slice none 0 0) z0 ∧ Below w.heap.size w wr
set_option maxRecDepth 100000 in
set_option maxHeartbeats 8000000 in
theorem talliesMerged_any (va vb : Value) (a b : P.Hv) (w : World) (h : P.Two a b) (ra : RowC w va a.l) (rb : RowC w vb b.l) :
    Calls Try.prog 18 #[aggH va a, aggH vb b] w fun e w' => ∃ v', e = .returned (aggH v' (P.uni a b)) ∧ RowC w' v' (P.uni a b).l ∧ Below w.heap.size w w' := by
  obtain ⟨X1, X2, X3, hB⟩ := boxes3 va vb a b w
  have HCd := hide (fun wx (j : Nat) (x : P.Ct) (v : Value) (hr : RowC wx v (P.tog a.l (b.l.take j))) (hx : b.l[j]? = some x) => counted_any v (P.tog a.l (b.l.take j)) x.1 x.2 wx hr (h.part j).1 (h.part j).2.1 (h.part j).2.2 ⟨h.gb.ok.pos x (List.mem_of_getElem? hx), by have := (h.gb.ok.1 x (List.mem_of_getElem? hx)).2.2; omega⟩)
  have HRa : Hid (RdC w (((w.alloc (.cells #[.int .i64 a.k, va, .int .i64 a.n, .int .i64 a.off] 24)).alloc (.cells #[.int .i64 b.k, vb, .int .i64 b.n, .int .i64 b.off] 24)).alloc (.cells #[.int .i64 0, .slice none 0 0, .int .i64 0, .int .i64 0] 24)) va a.l) := .inl ra
  have n0 := h.ga.n0; have n1 := h.ga.n1; have n2 := h.gb.n0; have n3 := h.gb.n1
  have o0 := h.ga.o0; have o1 := h.ga.o1; have o2 := h.gb.o0; have o3 := h.gb.o1
  have hk1 := h.ga.k1; have hk2 := h.ga.k2
  obtain ⟨xa, ca, rfl⟩ := ra.shp
  obtain ⟨xb, cb, rfl, ⟨hlc, hmax, hnn⟩, hcase⟩ := rb
  unfold maxLen at hmax
  have HB := hide hB
  have HX1 := hide X1
  have HX3 := hide X3
  obtain ⟨a0, a1, a2, a3⟩ := X1.cells
  obtain ⟨b0, b1, b2, b3⟩ := X2.cells
  have HX2 := hide X2
  have u2 := X1.unfrozen 2
  clear ra X1 X2 X3 hB
  go_enter Try.func18, Try.ntmps18
  go_upto_region 1 with fail
  generalize (((w.alloc (.cells #[.int .i64 a.k, .slice xa a.l.length ca, .int .i64 a.n, .int .i64 a.off] 24)).alloc (.cells #[.int .i64 b.k, .slice xb b.l.length cb, .int .i64 b.n, .int .i64 b.off] 24)).alloc (.cells #[.int .i64 0, .slice none 0 0, .int .i64 0, .int .i64 0] 24)) = W at *
  go_upto_region 2 with fail
  have hg2 := setCell_grown W w.heap.size 2 (.int .i64 (a.n + b.n))
  have HY1 : Hid (BoxH (W.setCell ⟨w.heap.size, 2, none⟩ (.int .i64 (a.n + b.n))) w.heap.size (.slice xa a.l.length ca) ⟨a.k, a.l, a.n + b.n, a.off⟩) := HX1.out.num _
  have HY2 := hide (HX2.out.other hg2 (by omega))
  have HY3 := hide (HX3.out.other hg2 (by omega))
  have HRa2 := hide (HRa.out.box HX1.out hg2)
  have HB2 : Hid (Below w.heap.size w (W.setCell ⟨w.heap.size, 2, none⟩ (.int .i64 (a.n + b.n)))) := HB.out.setCell (Nat.le_refl _) _
  clear a0 a1 a2 a3 b0 b1 b2 b3 u2 hg2 HX1 HX2 HX3 HRa HB
  generalize W.setCell ⟨w.heap.size, 2, none⟩ (.int .i64 (a.n + b.n)) = W2 at *
  obtain ⟨a0, a1, a2, a3⟩ := HY1.out.cells
  obtain ⟨b0, b1, b2, b3⟩ := HY2.out.cells
  have u3 := HY1.out.unfrozen 3
  simp only at a0 a1 a2 a3
  go_upto_region 3 with fail
  have hg3 := setCell_grown W2 w.heap.size 3 (.int .i64 (a.off + b.off))
  have HX1 : Hid (BoxH (W2.setCell ⟨w.heap.size, 3, none⟩ (.int .i64 (a.off + b.off))) w.heap.size (.slice xa a.l.length ca) ⟨a.k, a.l, a.n + b.n, a.off + b.off⟩) := HY1.out.offs _
  have HX2 := hide (HY2.out.other hg3 (by omega))
  have HX3 := hide (HY3.out.other hg3 (by omega))
  have HRa := hide (HRa2.out.box HY1.out hg3)
  have HB := hide (HB2.out.setCell (Nat.le_refl _) (p := ⟨w.heap.size, 3, none⟩) (.int .i64 (a.off + b.off)))
  clear a0 a1 a2 a3 b0 b1 b2 b3 u3 hg3 HY1 HY2 HY3 HRa2 HB2
  generalize W2.setCell ⟨w.heap.size, 3, none⟩ (.int .i64 (a.off + b.off)) = W3 at *
  obtain ⟨b0, b1, b2, b3⟩ := HX2.out.cells
  have HSt : Hid (MgdAt w a b (.int .i64 0) W3) := ⟨0, _, Nat.zero_le _, rfl, HX1.out, HRa.out, HX3.out, HB.out⟩
  go_wp2
  go_loopw [28] (fun i wr => MgdAt w a b i wr) (fun i _ => b.l.length - (intOf i).toNat)
  case atStart => exact HSt.out
  case round =>
    obtain ⟨j, vj, hj, rfl, hbx, hrd, hzx, hBw⟩ := hrel
    have HBx := hide hbx
    have HRd := hide hrd
    have HZx := hide hzx
    have HBw := hide hBw
    obtain ⟨xj, cj, rfl⟩ := hrd.shp
    by_cases hlt : j < b.l.length
    · rcases hcase with hc | ⟨p, o, rfl, hpl, hc⟩
      · rw [hc] at hlt; simp at hlt
      obtain ⟨y, hy⟩ : ∃ y, b.l[j]? = some y := ⟨_, List.getElem?_eq_getElem hlt⟩
      obtain ⟨g0, g1⟩ := RowC.at hc hy
      replace g0 := (hBw.cell (p := ⟨p, o + j * 2, none⟩) hpl).trans g0
      replace g1 := (hBw.cell (p := ⟨p, o + j * 2 + 1, none⟩) hpl).trans g1
      have j0 : (0 : Int) ≤ (j : Int) := by omega
      have j1 : (j : Int) < (b.l.length : Int) := by omega
      have hA : Below wr.heap.size wr (wr.alloc (.cells #[.string y.1, .int .i64 y.2] 50)) := (Below.refl _ wr).alloc (Nat.le_refl _) _
      have HBx2 := hide (hbx.below hA)
      have HRd2 := hide (hrd.below hA)
      have HZx2 := hide (hzx.below hA)
      have HB2 := hide (Below.next HBw.out hA)
      have HCj := hide (HCd.out _ j y _ (HRd2.out.read HB2.out) hy)
      have HTk := hide (P.tog_take (a := a.l) hy)
      obtain ⟨c0, c1, c2, c3⟩ := HBx2.out.cells
      simp only at c0 c1 c2 c3
      obtain ⟨y0, y1⟩ := y
      simp only at g0 g1 HCj HTk c0 c1 c2 c3
      generalize P.tog a.l (b.l.take j) = T at *
      generalize P.ins T y0 y1 = T2 at *
      clear hc hy hbx hrd hzx hBw hA HCd HSt HX1 HX3 HRa HB
      go_wp2_with (go_at_call 31; go_must (refine HCj.out.mono ?_); rintro e w4 ⟨v4, rfl, own4, hb4⟩; obtain ⟨a4, k4, hv4⟩ := own4.shp ctC_len; rw [hv4] at own4 ⊢; have y4 := HBx2.out.below hb4; obtain ⟨t0, t1, t2, t3⟩ := y4.cells; have u1 := y4.unfrozen 1; clear hv4)
      have hg4 := setCell_grown w4 w.heap.size 1 (.slice a4 T2.length k4)
      have HF : Hid (MgdAt w a b (.int .i64 ((j : Int) + 1)) (w4.setCell ⟨w.heap.size, 1, none⟩ (.slice a4 T2.length k4))) := by
        refine ⟨j + 1, .slice a4 T2.length k4, by omega, by simp, ?_, ?_, (HZx2.out.below hb4).other hg4 (by omega), (Below.next HB2.out hb4).setCell (Nat.le_refl _) _⟩
        · rw [HTk.out]; exact y4.list _ T2
        · rw [HTk.out]; exact .inr ((own4.box y4 hg4).base HB2.out.size)
      go_roundw
      case rel => exact HF.out
      case measure => simp [intOf]; omega
    · have hd : decide ((j : Int) < (b.l.length : Int)) = false := by simp; omega
      obtain rfl : j = b.l.length := by omega
      rw [List.take_length] at HBx HRd
      obtain ⟨c0, c1, c2, c3⟩ := HBx.out.cells
      simp only at c0 c1 c2 c3
      clear hbx hrd hzx hBw HCd HSt HX1 HX3 HRa HB
      by_cases hl : ((P.tog a.l b.l).length : Int) ≤ a.k
      · have hd2 : decide (((P.tog a.l b.l).length : Int) ≤ a.k) = true := by simpa using hl
        have HU : Hid (P.uni a b = ⟨a.k, P.tog a.l b.l, a.n + b.n, a.off + b.off⟩) := by show _ = _; unfold P.uni; rw [if_pos hl]
        obtain ⟨g0, g1, g2, g3⟩ := HZx.out.cells
        have u0 := HZx.out.unfrozen 0
        have u1 := HZx.out.unfrozen 1
        have u2 := HZx.out.unfrozen 2
        have u3 := HZx.out.unfrozen 3
        generalize P.tog a.l b.l = T at *
        clear hl
        go_wp2
        have hg := setH_grown wr (w.heap.size + 2) (.slice xj T.length cj) ⟨a.k, T, a.n + b.n, a.off + b.off⟩
        have hr := HZx.out.all (.slice xj T.length cj) ⟨a.k, T, a.n + b.n, a.off + b.off⟩
        have ho := HRd.out.box HZx.out hg
        have hb := Below.setH' HBw.out (g := w.heap.size + 2) (by omega) (.slice xj T.length cj) ⟨a.k, T, a.n + b.n, a.off + b.off⟩
        obtain ⟨r0, r1, r2, r3⟩ := hr.cells
        refine bodyPost_ret (w := setH wr (w.heap.size + 2) (.slice xj T.length cj) ⟨a.k, T, a.n + b.n, a.off + b.off⟩) (v := aggH (.slice xj T.length cj) ⟨a.k, T, a.n + b.n, a.off + b.off⟩) ?_ rfl ⟨.slice xj T.length cj, by rw [HU.out], by rw [HU.out]; exact ho.read hb, hb⟩
        generalize setH wr (w.heap.size + 2) (.slice xj T.length cj) ⟨a.k, T, a.n + b.n, a.off + b.off⟩ = wf at *
        simp only at r0 r1 r2 r3
        simp [results, Try.results18, go_sem, r0, r1, r2, r3]
      · have hd2 : decide (((P.tog a.l b.l).length : Int) ≤ a.k) = false := by simpa using hl
        have HU : Hid (P.uni a b = ⟨a.k, P.les (P.tog a.l b.l) (P.thr (P.tog a.l b.l) (a.k.toNat + 1)), a.n + b.n, a.off + b.off + P.thr (P.tog a.l b.l) (a.k.toNat + 1)⟩) := by show _ = _; unfold P.uni; rw [if_neg hl]
        obtain ⟨t1, t2, t3, t4⟩ := h.thr hl
        have hp := h.pos
        have ht5 := h.tot1
        have hTl := h.len
        have hmem : ∀ y ∈ P.tog a.l b.l, 0 < y.2 ∧ y.2 ≤ 1000000000 := fun y hy => ⟨hp y hy, by have := P.mem_le_tot hp hy; omega⟩
        have tb : P.thr (P.tog a.l b.l) (a.k.toNat + 1) ≤ 1000000000 := by
          obtain ⟨c, hc, e⟩ := P.thr_mem (l := P.tog a.l b.l) (m := a.k.toNat + 1) (by omega) t1
          have := (hmem c hc).2
          omega
        have HRow := hide (HRd.out.read HBw.out)
        have HLs := hide (fun wx (hb : Below wr.heap.size wr wx) => refLessened_any (.slice xj (P.tog a.l b.l).length cj) (P.tog a.l b.l) (P.thr (P.tog a.l b.l) (a.k.toNat + 1)) wx (HRow.out.below hb (Nat.le_refl _)) (by omega) (fun y hy => ⟨(hmem y hy).1, by have := (hmem y hy).2; omega⟩) ⟨by omega, by omega⟩)
        have hmn : ((a.k.toNat + 1 : Nat) : Int) = a.k + 1 := by omega
        have HM := hide hmn
        have HSt2 := hide (P.AtM.start (l := P.tog a.l b.l) (m := a.k.toNat + 1) t2)
        have HTake := hide (fun j M x (ha : P.AtM (P.tog a.l b.l) (a.k.toNat + 1) j M) (hx : (P.tog a.l b.l)[j]? = some x) h1 h2 => ha.take (by omega) t1 hx h1 h2)
        have HPass := hide (fun j M x (ha : P.AtM (P.tog a.l b.l) (a.k.toNat + 1) j M) (hx : (P.tog a.l b.l)[j]? = some x) h1 => ha.pass (by omega) t1 hx h1)
        have HDone := hide (fun M (ha : P.AtM (P.tog a.l b.l) (a.k.toNat + 1) (P.tog a.l b.l).length M) => ha.done (by omega) t1)
        have HHi := hide (fun j M (ha : P.AtM (P.tog a.l b.l) (a.k.toNat + 1) j M) => And.intro ha.lo ha.hi)
        have hm1 : IntKind.i64.wrap (a.k + 1) = a.k + 1 := by rw [IntKind.wrap_i64]; omega
        generalize a.k.toNat + 1 = m at *
        generalize P.thr (P.tog a.l b.l) m = th at *
        generalize P.les (P.tog a.l b.l) th = R2 at *
        generalize P.tog a.l b.l = T at *
        obtain ⟨aT, cT, hvT, ⟨hlT, hmT, _⟩, hcT⟩ := HRow.out
        simp only [Value.slice.injEq] at hvT
        obtain ⟨rfl, _, rfl⟩ := hvT
        unfold maxLen at hmT
        clear hl h t1 t3 t4 ht5 hp hmn
        go_wp2
        go_loopw [51, 7] (fun i mv wx => ∃ (j2 : Nat) (M : Int), j2 ≤ T.length ∧ i = .int .i64 j2 ∧ mv = .int .i64 M ∧ P.AtM T m j2 M ∧ Below wr.heap.size wr wx) (fun i _ _ => T.length - (intOf i).toNat)
        case atStart => exact ⟨0, 0, by omega, rfl, rfl, HSt2.out, Below.refl _ _⟩
        case round =>
          obtain ⟨j2, M, hj2, rfl, rfl, hAt, hBx⟩ := hrel
          have HAt := hide hAt
          have HB2 := hide hBx
          obtain ⟨hM0, hM1⟩ := HHi.out _ _ hAt
          have d0 := keep_cell c0 hBx
          have d1 := keep_cell c1 hBx
          have d3 := keep_cell c3 hBx
          clear hAt
          by_cases hlt2 : j2 < T.length
          · rcases hcT with hc | ⟨p, o, rfl, hpl, hc⟩
            · rw [hc] at hlt2; simp at hlt2
            obtain ⟨x, hx⟩ : ∃ x, T[j2]? = some x := ⟨_, List.getElem?_eq_getElem hlt2⟩
            obtain ⟨g0, g1⟩ := RowC.at hc hx
            replace g0 := (hBx.cell (p := ⟨p, o + j2 * 2, none⟩) hpl).trans g0
            replace g1 := (hBx.cell (p := ⟨p, o + j2 * 2 + 1, none⟩) hpl).trans g1
            have j0 : (0 : Int) ≤ (j2 : Int) := by omega
            have j1 : (j2 : Int) < (T.length : Int) := by omega
            have hA : Below wr.heap.size wr (wr.alloc (.cells #[.string x.1, .int .i64 x.2] 50)) := (Below.refl _ wr).alloc (Nat.le_refl _) _
            have e0 := keep_cell d0 hA
            have e1 := keep_cell d1 hA
            have HB3 := hide (Below.next hBx hA)
            have q1 : (wr.alloc (.cells #[.string x.1, .int .i64 x.2] 50)).cell? ⟨wr.heap.size, 1, none⟩ = some (.int .i64 x.2) := by simp
            have hxb := hmem x (List.mem_of_getElem? hx)
            have HX2 := hide hx
            obtain ⟨x0, x1⟩ := x
            simp only at g0 g1 q1 hxb e0 e1 hA HB3
            have HmT := hide (fun k z (hz : T[k]? = some z) => P.many_take hz x1)
            have HmB : Hid (∀ k, P.many (T.take k) x1 ≤ 128) := fun k => by
              have h1 : P.many (T.take k) x1 ≤ (T.take k).length := List.countP_le_length
              rw [List.length_take] at h1; omega
            clear hx hBx
            go_upto_region 15 with fail
            generalize hWx : wr.alloc (.cells #[.string x0, .int .i64 x1] 50) = Wx at *
            generalize wr.heap.size = gx at *
            clear hWx hA d0 d1 d3
            go_wp2
            go_loopw [58, 10] (fun i nv wy => ∃ (j3 : Nat), j3 ≤ T.length ∧ i = .int .i64 j3 ∧ nv = .int .i64 (P.many (T.take j3) x1 : Nat) ∧ Below Wx.heap.size Wx wy) (fun i _ _ => T.length - (intOf i).toNat)
            case atStart => exact ⟨0, by omega, rfl, by simp [P.many], Below.refl _ _⟩
            case round =>
              obtain ⟨j3, hj3, rfl, rfl, hBy⟩ := hrel
              have HB4 := hide hBy
              have hmb := HmB.out j3
              have r1 := keep_cell q1 hBy
              have r0 := keep_cell e0 hBy
              by_cases hlt3 : j3 < T.length
              · obtain ⟨y, hy⟩ : ∃ y, T[j3]? = some y := ⟨_, List.getElem?_eq_getElem hlt3⟩
                obtain ⟨h0, h1⟩ := RowC.at hc hy
                replace h0 := ((Below.next HB3.out hBy).cell (p := ⟨p, o + j3 * 2, none⟩) hpl).trans h0
                replace h1 := ((Below.next HB3.out hBy).cell (p := ⟨p, o + j3 * 2 + 1, none⟩) hpl).trans h1
                have k0 : (0 : Int) ≤ (j3 : Int) := by omega
                have k1 : (j3 : Int) < (T.length : Int) := by omega
                have HMt := hide (HmT.out j3 y hy)
                obtain ⟨y0, y1⟩ := y
                simp only at h0 h1 HMt
                generalize P.many (T.take j3) x1 = n at *
                have hA2 := hide (hBy.alloc hBy.size (.cells #[.string y0, .int .i64 y1] 50))
                have r2 := keep_alloc r1 (.cells #[.string y0, .int .i64 y1] 50)
                clear hy hBy
                by_cases hv : x1 ≤ y1
                · have dv : decide (x1 ≤ y1) = true := by simpa using hv
                  rw [if_pos hv] at HMt
                  clear hv
                  go_wp2
                  go_roundw
                  case rel => exact ⟨j3 + 1, by omega, by go_num, by rw [HMt.out]; simp, hA2.out⟩
                  case measure => simp [intOf]; omega
                · have dv : decide (x1 ≤ y1) = false := by simpa using hv
                  rw [if_neg hv, Nat.add_zero] at HMt
                  clear hv
                  go_wp2
                  go_roundw
                  case rel => exact ⟨j3 + 1, by omega, by go_num, by rw [HMt.out] <;> rfl, hA2.out⟩
                  case measure => simp [intOf]; omega
              · have dd : decide ((j3 : Int) < (T.length : Int)) = false := by simp; omega
                obtain rfl : j3 = T.length := by omega
                rw [List.take_length]
                rw [List.take_length] at hmb
                have HB5 := hide (Below.next HB3.out hBy)
                by_cases hv : m ≤ P.many T x1
                · have dv : decide (a.k + 1 ≤ ((P.many T x1 : Nat) : Int)) = true := by have := HM.out; simp; omega
                  by_cases hw : M < x1
                  · have dw : decide (M < x1) = true := by simpa using hw
                    have HN := hide (HTake.out j2 M (x0, x1) HAt.out HX2.out hv hw)
                    generalize P.many T x1 = n at *
                    clear hv hw hBy
                    go_wp2
                    go_roundw
                    case rel => exact ⟨j2 + 1, x1, by omega, by go_num, rfl, HN.out, HB5.out⟩
                    case measure => simp [intOf]; omega
                  · have dw : decide (M < x1) = false := by simpa using hw
                    have HN := hide (HPass.out j2 M (x0, x1) HAt.out HX2.out (fun h => hw h.2))
                    generalize P.many T x1 = n at *
                    clear hv hw hBy
                    go_wp2
                    go_roundw
                    case rel => exact ⟨j2 + 1, M, by omega, by go_num, rfl, HN.out, HB5.out⟩
                    case measure => simp [intOf]; omega
                · have dv : decide (a.k + 1 ≤ ((P.many T x1 : Nat) : Int)) = false := by have := HM.out; simp; omega
                  have HN := hide (HPass.out j2 M (x0, x1) HAt.out HX2.out (fun h => hv h.1))
                  generalize P.many T x1 = n at *
                  clear hv hBy
                  go_wp2
                  go_roundw
                  case rel => exact ⟨j2 + 1, M, by omega, by go_num, rfl, HN.out, HB5.out⟩
                  case measure => simp [intOf]; omega
          · have dd : decide ((j2 : Int) < (T.length : Int)) = false := by simp; omega
            obtain rfl : j2 = T.length := by omega
            obtain rfl : M = th := HDone.out M HAt.out
            have HZ2 := hide (HZx.out.below hBx)
            have HX9 := hide (HBx.out.below hBx)
            have HLs2 := hide (HLs.out wr hBx)
            have HB5 := hide (Below.next HBw.out hBx)
            clear HTake HPass HDone HHi HLs HSt2 HRow HRd HBx HZx HBw hBx
            go_upto_region 25 with (go_at_call 32; go_must (refine HLs2.out.mono ?_); rintro e w5 ⟨v5, rfl, own5, hb5⟩; have x5 := HX9.out.below hb5; obtain ⟨e0, e1, e2, e3⟩ := x5.cells; have u1 := x5.unfrozen 1; obtain ⟨y5, k5, hv5⟩ := own5.shp ctC_len; rw [hv5] at own5 ⊢; clear hv5)
            have HX5 : Hid (BoxH (w5.setCell ⟨w.heap.size, 1, none⟩ (.slice y5 R2.length k5)) w.heap.size (.slice y5 R2.length k5) ⟨a.k, R2, a.n + b.n, a.off + b.off⟩) := x5.list _ R2
            have HO5 : Hid (OwnC (w5.setCell ⟨w.heap.size, 1, none⟩ (.slice y5 R2.length k5)) wr.heap.size (.slice y5 R2.length k5) R2) := own5.box x5 (setCell_grown w5 w.heap.size 1 _)
            have HZ5 : Hid (BoxH (w5.setCell ⟨w.heap.size, 1, none⟩ (.slice y5 R2.length k5)) (w.heap.size + 2) (.slice none 0 0) z0) := (HZ2.out.below hb5).other (setCell_grown w5 w.heap.size 1 _) (by omega)
            have HB6 : Hid (Below w.heap.size w (w5.setCell ⟨w.heap.size, 1, none⟩ (.slice y5 R2.length k5))) := (Below.next HB5.out hb5).setCell (Nat.le_refl _) _
            clear x5 own5 hb5 e0 e1 e2 e3 u1 HX9 HZ2 HB5 HLs2 d0 d1 d3 c0 c1 c2 c3
            generalize w5.setCell ⟨w.heap.size, 1, none⟩ (.slice y5 R2.length k5) = w6 at *
            obtain ⟨f0, f1, f2, f3⟩ := HX5.out.cells
            have u3 := HX5.out.unfrozen 3
            simp only at f0 f1 f2 f3
            go_upto_region 26 with fail
            have HX7 : Hid (BoxH (w6.setCell ⟨w.heap.size, 3, none⟩ (.int .i64 (a.off + b.off + M))) w.heap.size (.slice y5 R2.length k5) ⟨a.k, R2, a.n + b.n, a.off + b.off + M⟩) := HX5.out.offs _
            have HO7 : Hid (OwnC (w6.setCell ⟨w.heap.size, 3, none⟩ (.int .i64 (a.off + b.off + M))) wr.heap.size (.slice y5 R2.length k5) R2) := HO5.out.box HX5.out (setCell_grown w6 w.heap.size 3 _)
            have hx3 : BoxH (w6.setCell ⟨w.heap.size, 3, none⟩ (.int .i64 (a.off + b.off + M))) (w.heap.size + 2) (.slice none 0 0) z0 := HZ5.out.other (setCell_grown w6 w.heap.size 3 _) (by omega)
            have HB7 : Hid (Below w.heap.size w (w6.setCell ⟨w.heap.size, 3, none⟩ (.int .i64 (a.off + b.off + M)))) := HB6.out.setCell (Nat.le_refl _) _
            clear HX5 HO5 HZ5 HB6 f0 f1 f2 f3 u3
            generalize w6.setCell ⟨w.heap.size, 3, none⟩ (.int .i64 (a.off + b.off + M)) = w7 at *
            obtain ⟨f0, f1, f2, f3⟩ := HX7.out.cells
            simp only at f0 f1 f2 f3
            obtain ⟨t0, t1, t2', t3⟩ := hx3.cells
            have u0 := hx3.unfrozen 0
            have u1 := hx3.unfrozen 1
            have u2 := hx3.unfrozen 2
            have u3 := hx3.unfrozen 3
            go_wp2
            have hg := setH_grown w7 (w.heap.size + 2) (.slice y5 R2.length k5) ⟨a.k, R2, a.n + b.n, a.off + b.off + M⟩
            have hr := hx3.all (.slice y5 R2.length k5) ⟨a.k, R2, a.n + b.n, a.off + b.off + M⟩
            have ho := HO7.out.box hx3 hg
            have hb := Below.setH' HB7.out (g := w.heap.size + 2) (by omega) (.slice y5 R2.length k5) ⟨a.k, R2, a.n + b.n, a.off + b.off + M⟩
            obtain ⟨r0, r1, r2, r3⟩ := hr.cells
            refine bodyPost_ret (w := setH w7 (w.heap.size + 2) (.slice y5 R2.length k5) ⟨a.k, R2, a.n + b.n, a.off + b.off + M⟩) (v := aggH (.slice y5 R2.length k5) ⟨a.k, R2, a.n + b.n, a.off + b.off + M⟩) ?_ rfl ⟨.slice y5 R2.length k5, by rw [HU.out], by rw [HU.out]; exact ho.row, hb⟩
            generalize setH w7 (w.heap.size + 2) (.slice y5 R2.length k5) ⟨a.k, R2, a.n + b.n, a.off + b.off + M⟩ = wf at *
            simp only at r0 r1 r2 r3
            simp [results, Try.results18, go_sem, r0, r1, r2, r3]
end Go.Proofs.Ytcaidfffmllfeaa
