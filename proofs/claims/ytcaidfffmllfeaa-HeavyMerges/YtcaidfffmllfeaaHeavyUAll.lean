/- Several texts in one. -/
import Derived.Test.YtcaidfffmllfeaaHeavyGAll
import Derived.Test.YtcaidfffmllfeaaHeavyMAll
import Derived.Test.YtcaidfffmllfeaaHeavyKAll
import Derived.Test.YtcaidfffmllfeaaKitBAll
/- What unite answers. -/
namespace Go.Proofs.Ytcaidfffmllfeaa
open Go.RowKit
set_option linter.unusedVariables false
namespace P
theorem off_le {k o n : Int} (hk : 0 ≤ k) (ho : 0 ≤ o) (h : (k + 1) * o ≤ n) : o ≤ n := by
  have : k * o ≥ 0 := Int.mul_nonneg hk ho
  have e : (k + 1) * o = k * o + o := by rw [Int.add_mul]; omega
  omega
structure Two (a b : Hv) : Prop where
  ga : Good a
  gb : Good b
  k : a.k = b.k
  n : a.n + b.n ≤ 1000000000
theorem Two.acc {a b : Hv} (h : Two a b) : (a.k + 1) * (a.off + b.off) + tot (tog a.l b.l) ≤ a.n + b.n ∧ 0 ≤ tot a.l ∧ 0 ≤ tot b.l := by
  have h1 := h.ga.acc
  have h2 := h.gb.acc
  rw [← h.k] at h2
  rw [tog_tot, Int.mul_add]
  have h3 := tot_nonneg h.ga.ok.pos
  have h4 := tot_nonneg h.gb.ok.pos
  omega
theorem Two.tot1 {a b : Hv} (h : Two a b) : tot (tog a.l b.l) ≤ 1000000000 := by
  have h1 := h.acc.1
  have h2 := h.n
  have h3 : 0 ≤ (a.k + 1) * (a.off + b.off) := Int.mul_nonneg (by have := h.ga.k1; omega) (by have := h.ga.o0; have := h.gb.o0; omega)
  omega
theorem Two.pos {a b : Hv} (h : Two a b) : Pos (tog a.l b.l) := tog_pos h.ga.ok.pos h.gb.ok.pos
theorem Two.asc {a b : Hv} (h : Two a b) : Asc (tog a.l b.l) := tog_asc h.ga.ok.2 _
theorem Two.len {a b : Hv} (h : Two a b) : (tog a.l b.l).length ≤ 128 := by
  have h1 := tog_len a.l b.l
  have h2 := h.ga.len
  have h3 := h.ga.k2
  have h4 := h.gb.len
  have h5 := h.gb.k2
  omega
theorem Two.short {a b : Hv} (h : Two a b) : ∀ x ∈ tog a.l b.l, x.1.size ≤ 40 := fun x hx => by
  rcases tog_mem hx with ⟨y, hy, e⟩ | ⟨y, hy, e⟩
  · rw [← e]; exact (h.ga.ok.1 y hy).1
  · rw [← e]; exact (h.gb.ok.1 y hy).1
/-- What is taken off where too many keys are there. -/
theorem Two.thr {a b : Hv} (h : Two a b) (hl : ¬ ((tog a.l b.l).length : Int) ≤ a.k) :
    a.k.toNat + 1 ≤ (tog a.l b.l).length ∧ 0 < thr (tog a.l b.l) (a.k.toNat + 1) ∧ (a.k + 1) * thr (tog a.l b.l) (a.k.toNat + 1) + tot (les (tog a.l b.l) (thr (tog a.l b.l) (a.k.toNat + 1))) ≤ tot (tog a.l b.l) ∧ ((les (tog a.l b.l) (thr (tog a.l b.l) (a.k.toNat + 1))).length : Int) ≤ a.k := by
  have hk := h.ga.k1
  have hm : a.k.toNat + 1 ≤ (tog a.l b.l).length := by omega
  obtain ⟨c, hc, e⟩ := thr_mem (l := tog a.l b.l) (show 1 ≤ a.k.toNat + 1 by omega) hm
  have hv : 0 < P.thr (tog a.l b.l) (a.k.toNat + 1) := by rw [← e]; exact h.pos c hc
  have h1 := les_tot h.pos (v := P.thr (tog a.l b.l) (a.k.toNat + 1)) (by omega)
  have h2 := thr_many (l := tog a.l b.l) (show 1 ≤ a.k.toNat + 1 by omega) hm
  have h3 := thr_more (l := tog a.l b.l) (show 1 ≤ a.k.toNat + 1 by omega) hm
  have h4 : (a.k + 1) * P.thr (tog a.l b.l) (a.k.toNat + 1) ≤ (many (tog a.l b.l) (P.thr (tog a.l b.l) (a.k.toNat + 1)) : Nat) * P.thr (tog a.l b.l) (a.k.toNat + 1) := Int.mul_le_mul_of_nonneg_right (by omega) (by omega)
  refine ⟨hm, hv, by omega, ?_⟩
  rw [les_len]; omega
theorem Two.good {a b : Hv} (h : Two a b) : Good (uni a b) := by
  have hacc := h.acc.1
  have ht := h.tot1
  have hn := h.n
  have ha := h.ga
  have hb := h.gb
  have := ha.n0; have := hb.n0; have := ha.o0; have := hb.o0; have := ha.k1
  unfold uni
  by_cases hl : ((tog a.l b.l).length : Int) ≤ a.k
  · rw [if_pos hl]
    have hoff := off_le (k := a.k) (o := a.off + b.off) (n := a.n + b.n) (by omega) (by omega) (by have := tot_nonneg h.pos; omega)
    refine ⟨ha.k1, ha.k2, hl, ⟨fun x hx => ⟨h.short x hx, h.pos x hx, ?_⟩, h.asc⟩, by show 0 ≤ a.n + b.n; omega, hn, by show 0 ≤ a.off + b.off; omega, by show a.off + b.off ≤ _; omega, hacc⟩
    have := mem_le_tot h.pos hx; omega
  · rw [if_neg hl]
    obtain ⟨hm, hv, h3, h4⟩ := h.thr hl
    generalize P.thr (tog a.l b.l) (a.k.toNat + 1) = v at *
    have hp := les_pos (tog a.l b.l) v
    have h5 := tot_nonneg hp
    have hacc2 : (a.k + 1) * (a.off + b.off + v) + tot (les (tog a.l b.l) v) ≤ a.n + b.n := by rw [Int.mul_add]; omega
    have hoff := off_le (k := a.k) (o := a.off + b.off + v) (n := a.n + b.n) (by omega) (by omega) (by omega)
    have h6 : 0 ≤ (a.k + 1) * v := Int.mul_nonneg (by omega) (by omega)
    refine ⟨ha.k1, ha.k2, h4, ⟨fun x hx => ⟨?_, hp x hx, ?_⟩, les_asc h.asc _⟩, by show 0 ≤ a.n + b.n; omega, hn, by show 0 ≤ a.off + b.off + v; omega, by show a.off + b.off + v ≤ _; omega, hacc2⟩
    · obtain ⟨y, hy, e⟩ := les_mem hx; rw [← e]; exact h.short y hy
    · have := mem_le_tot hp hx; omega
end P
theorem keep_set4 {w : World} {g : Nat} {p : Addr} {a b c d u : Value} (h : w.cell? p = some u) (hne : p.block ≠ g) :
    ((((w.setCell ⟨g, 0, none⟩ a).setCell ⟨g, 1, none⟩ b).setCell ⟨g, 2, none⟩ c).setCell ⟨g, 3, none⟩ d).cell? p = some u := by
  have e : ∀ (w : World) (j : Nat) (x : Value), (w.setCell ⟨g, j, none⟩ x).cell? p = w.cell? p := fun w j x => World.cell?_of_block (heap_setCell_other w ⟨g, j, none⟩ p.block x hne)
  rw [e, e, e, e]; exact h
theorem GoodRow.common (v : Value) (a b : P.Hv) (h : P.Two a b) (hl : ¬ ((P.tog a.l b.l).length : Int) ≤ a.k) (w : World) (hr : RowC w v (P.tog a.l b.l)) :
    Calls Try.prog 38 #[v, .int .i64 (a.k + 1)] w fun e w' => e = .returned (.int .i64 (P.thr (P.tog a.l b.l) (a.k.toNat + 1))) ∧ Below w.heap.size w w' := by
  have h1 := h.ga.k1
  have h2 := common_any v (P.tog a.l b.l) (a.k.toNat + 1) w hr (by have := h.len; omega) (by omega) (h.thr hl).1
  have e : ((a.k.toNat + 1 : Nat) : Int) = a.k + 1 := by omega
  rw [e] at h2; exact h2
/-- What unite answers. -/
def UniPost (w : World) (s : P.Hv) (e : Ending) (w' : World) : Prop := ∃ v', e = .returned (aggH v' s) ∧ OwnC w' w.heap.size v' s.l ∧ Below w.heap.size w w'
set_option maxRecDepth 100000 in
set_option maxHeartbeats 4000000 in
theorem unite_any (va vb : Value) (a b : P.Hv) (w : World) (h : P.Two a b) (ra : RowC w va a.l) (rb : RowC w vb b.l) :
    Calls Try.prog 27 #[aggH va a, aggH vb b] w (UniPost w (P.uni a b)) := by
  have HB : Hid (Below w.heap.size w (((w.alloc (.cells (cellsH va a) 24)).alloc (.cells (cellsH vb b) 24)).alloc (.cells (cellsH (.slice none 0 0) z0) 24))) := (((Below.refl _ w).alloc (Nat.le_refl _) _).alloc (by simp) _).alloc (by simp; omega) _
  have X1 : BoxH (((w.alloc (.cells (cellsH va a) 24)).alloc (.cells (cellsH vb b) 24)).alloc (.cells (cellsH (.slice none 0 0) z0) 24)) w.heap.size va a := ((BoxH.new w va a).below ((Below.refl _ _).alloc (Nat.le_refl _) _)).below ((Below.refl _ _).alloc (Nat.le_refl _) _)
  have X2 : BoxH (((w.alloc (.cells (cellsH va a) 24)).alloc (.cells (cellsH vb b) 24)).alloc (.cells (cellsH (.slice none 0 0) z0) 24)) (w.heap.size + 1) vb b := by
    have := (BoxH.new (w.alloc (.cells (cellsH va a) 24)) vb b).below ((Below.refl _ _).alloc (Nat.le_refl _) (.cells (cellsH (.slice none 0 0) z0) 24))
    simpa using this
  have X3 : BoxH (((w.alloc (.cells (cellsH va a) 24)).alloc (.cells (cellsH vb b) 24)).alloc (.cells (cellsH (.slice none 0 0) z0) 24)) (w.heap.size + 2) (.slice none 0 0) z0 := by
    have := BoxH.new ((w.alloc (.cells (cellsH va a) 24)).alloc (.cells (cellsH vb b) 24)) (.slice none 0 0) z0
    simpa using this
  have HS : (((w.alloc (.cells (cellsH va a) 24)).alloc (.cells (cellsH vb b) 24)).alloc (.cells (cellsH (.slice none 0 0) z0) 24)).heap.size = w.heap.size + 3 := by simp
  have HT := hide (fun wx (hb : Below w.heap.size w wx) => together_any va vb a.l b.l wx (ra.below hb (Nat.le_refl _)) (rb.below hb (Nat.le_refl _)) (by have := h.ga.len; have := h.ga.k2; omega) (by have := h.gb.len; have := h.gb.k2; omega) h.ga.ok.2 h.ga.ok.pos h.gb.ok.pos
    (by have := (P.tot_bound h.ga.ok.1).2; have := h.ga.len; have := h.ga.k2; have := h.acc; have := h.tot1; rw [P.tog_tot] at *; omega) (by have := h.acc; have := h.tot1; rw [P.tog_tot] at *; omega))
  have hn : a.n + b.n ≤ 1000000000 := h.n
  have hn0 : 0 ≤ a.n := h.ga.n0
  have hn1 : 0 ≤ b.n := h.gb.n0
  have ho0 : 0 ≤ a.off := h.ga.o0
  have ho2 : a.off ≤ 1000000000 := h.ga.o1
  have ho1 : 0 ≤ b.off := h.gb.o0
  have ho3 : b.off ≤ 1000000000 := h.gb.o1
  have hwn : IntKind.i64.wrap (a.n + b.n) = a.n + b.n := by rw [IntKind.wrap_i64]; omega
  have hwo : IntKind.i64.wrap (a.off + b.off) = a.off + b.off := by rw [IntKind.wrap_i64]; omega
  have hk1 : 1 ≤ a.k := h.ga.k1
  have hk2 : a.k ≤ 64 := h.ga.k2
  obtain ⟨xa, ca, e1⟩ := ra.shp
  obtain ⟨xb, cb, e2⟩ := rb.shp
  rw [e1] at HT HB X1 X2 X3 HS ⊢
  rw [e2] at HT HB X1 X2 X3 HS ⊢
  clear ra rb e1 e2
  go_enter Try.func27, Try.ntmps27
  go_upto_region 1 with fail
  simp only [cellsH, z0] at HB X1 X2 X3 HS
  generalize (((w.alloc (.cells #[.int .i64 a.k, .slice xa a.l.length ca, .int .i64 a.n, .int .i64 a.off] 24)).alloc (.cells #[.int .i64 b.k, .slice xb b.l.length cb, .int .i64 b.n, .int .i64 b.off] 24)).alloc (.cells #[.int .i64 0, .slice none 0 0, .int .i64 0, .int .i64 0] 24)) = W at *
  obtain ⟨a0, a1, a2, a3⟩ := X1.cells
  obtain ⟨b0, b1, b2, b3⟩ := X2.cells
  have X3h := hide X3
  have X1h := hide X1
  have X2h := hide X2
  have HS3 : w.heap.size + 3 ≤ W.heap.size := by omega
  clear X1 X2 X3 HS
  go_cut [5] from 7 to 24 (fun p wx => ∃ g v', p = .pointer (some ⟨g, 0, none⟩) ∧ BoxH wx g v' ⟨a.k, P.tog a.l b.l, a.n + b.n, a.off + b.off⟩ ∧ w.heap.size + 3 ≤ g ∧ OwnC wx (w.heap.size + 3) v' (P.tog a.l b.l) ∧ BoxH wx (w.heap.size + 2) (.slice none 0 0) z0 ∧ Below w.heap.size w wx)
  case first =>
    have d0 : W.drew.cell? ⟨w.heap.size, 0, none⟩ = some (.int .i64 a.k) := a0
    have d1 : W.drew.cell? ⟨w.heap.size, 1, none⟩ = some (.slice xa a.l.length ca) := a1
    have d2 : W.drew.cell? ⟨w.heap.size, 2, none⟩ = some (.int .i64 a.n) := a2
    have d3 : W.drew.cell? ⟨w.heap.size, 3, none⟩ = some (.int .i64 a.off) := a3
    have f1 : W.drew.cell? ⟨w.heap.size + 1, 1, none⟩ = some (.slice xb b.l.length cb) := b1
    have f2 : W.drew.cell? ⟨w.heap.size + 1, 2, none⟩ = some (.int .i64 b.n) := b2
    have f3 : W.drew.cell? ⟨w.heap.size + 1, 3, none⟩ = some (.int .i64 b.off) := b3
    have e0 : (W.alloc (.cells #[.int .i64 0, .slice none 0 0, .int .i64 0, .int .i64 0] 24)).drew.cell? ⟨w.heap.size, 0, none⟩ = some (.int .i64 a.k) := keep_alloc a0 _
    have e1 : (W.alloc (.cells #[.int .i64 0, .slice none 0 0, .int .i64 0, .int .i64 0] 24)).drew.cell? ⟨w.heap.size, 1, none⟩ = some (.slice xa a.l.length ca) := keep_alloc a1 _
    have e2 : (W.alloc (.cells #[.int .i64 0, .slice none 0 0, .int .i64 0, .int .i64 0] 24)).drew.cell? ⟨w.heap.size, 2, none⟩ = some (.int .i64 a.n) := keep_alloc a2 _
    have e3 : (W.alloc (.cells #[.int .i64 0, .slice none 0 0, .int .i64 0, .int .i64 0] 24)).drew.cell? ⟨w.heap.size, 3, none⟩ = some (.int .i64 a.off) := keep_alloc a3 _
    have p1 : (W.alloc (.cells #[.int .i64 0, .slice none 0 0, .int .i64 0, .int .i64 0] 24)).drew.cell? ⟨w.heap.size + 1, 1, none⟩ = some (.slice xb b.l.length cb) := keep_alloc b1 _
    have p2 : (W.alloc (.cells #[.int .i64 0, .slice none 0 0, .int .i64 0, .int .i64 0] 24)).drew.cell? ⟨w.heap.size + 1, 2, none⟩ = some (.int .i64 b.n) := keep_alloc b2 _
    have p3 : (W.alloc (.cells #[.int .i64 0, .slice none 0 0, .int .i64 0, .int .i64 0] 24)).drew.cell? ⟨w.heap.size + 1, 3, none⟩ = some (.int .i64 b.off) := keep_alloc b3 _
    have HBa : Below w.heap.size w (W.alloc (.cells #[.int .i64 0, .slice none 0 0, .int .i64 0, .int .i64 0] 24)).drew := below_dr (HB.out.alloc HB.out.size _)
    have HN0 : ¬ (W.heap.size : Nat) = w.heap.size := by omega
    have HN1 : ¬ (W.heap.size : Nat) = w.heap.size + 1 := by omega
    go_region_held3 (fun wx => wx.cell? ⟨w.heap.size, 0, none⟩ = some (.int .i64 a.k) ∧ wx.cell? ⟨w.heap.size, 1, none⟩ = some (.slice xa a.l.length ca) ∧ wx.cell? ⟨w.heap.size, 2, none⟩ = some (.int .i64 a.n) ∧ wx.cell? ⟨w.heap.size, 3, none⟩ = some (.int .i64 a.off) ∧ wx.cell? ⟨w.heap.size + 1, 1, none⟩ = some (.slice xb b.l.length cb) ∧ wx.cell? ⟨w.heap.size + 1, 2, none⟩ = some (.int .i64 b.n) ∧ wx.cell? ⟨w.heap.size + 1, 3, none⟩ = some (.int .i64 b.off)) (first | (refine ⟨?_, ?_, ?_, ?_, ?_, ?_, ?_⟩ <;> with_reducible assumption) | (simp only [World.cell?_alloc_some, World.cell?_setCell_far, ne_eq, HN0, HN1, not_false_eq_true, and_self, Option.isSome_some, g0, g1, g2, g3, h1, h2, h3]; done)) ((go_at_call 37; (first
      | (refine (HT.out _ (below_dr HB.out)).mono ?_; rintro e w1 ⟨v1, rfl, own1, hb1⟩; obtain ⟨y1, k1, hv1⟩ := own1.shp ctC_len; rw [hv1] at own1 ⊢; have g0 := keep_cell d0 hb1; have g1 := keep_cell d1 hb1; have g2 := keep_cell d2 hb1; have g3 := keep_cell d3 hb1; have h1 := keep_cell f1 hb1; have h2 := keep_cell f2 hb1; have h3 := keep_cell f3 hb1; clear hv1)
      | (refine (HT.out _ HBa).mono ?_; rintro e w1 ⟨v1, rfl, own1, hb1⟩; obtain ⟨y1, k1, hv1⟩ := own1.shp ctC_len; rw [hv1] at own1 ⊢; have g0 := keep_cell e0 hb1; have g1 := keep_cell e1 hb1; have g2 := keep_cell e2 hb1; have g3 := keep_cell e3 hb1; have h1 := keep_cell p1 hb1; have h2 := keep_cell p2 hb1; have h3 := keep_cell p3 hb1; have hz : BoxH w1 W.heap.size (.slice none 0 0) z0 := BoxH.below (show BoxH (W.alloc (.cells #[.int .i64 0, .slice none 0 0, .int .i64 0, .int .i64 0] 24)).drew W.heap.size (.slice none 0 0) z0 from zero_new W) hb1; obtain ⟨c0, c1, c2, c3⟩ := hz.cells; have u0 := hz.unfrozen 0; have u1 := hz.unfrozen 1; have u2 := hz.unfrozen 2; have u3 := hz.unfrozen 3; clear hv1))))
    all_goals go_wp2
    all_goals go_meet
    case rel =>
      have hb2 := Below.next (below_dr HB.out) hb1
      have hs1 : w.heap.size + 3 ≤ w1.heap.size := Nat.le_trans HS3 hb1.size
      have hx3 : BoxH w1 (w.heap.size + 2) (.slice none 0 0) ⟨0, [], 0, 0⟩ := BoxH.below (show BoxH W.drew _ _ _ from X3h.out) hb1
      have ho : OwnC w1 (w.heap.size + 3) (.slice y1 (P.tog a.l b.l).length k1) (P.tog a.l b.l) := own1.base HS3
      exact ⟨w1.heap.size, _, rfl, heap_alloc_new w1 _, hs1, ho.below ((Below.refl _ w1).alloc (Nat.le_refl _) _) (Nat.le_refl _), hx3.below ((Below.refl _ w1).alloc (Nat.le_refl _) _), hb2.alloc hb2.size _⟩
    case rel =>
      have hb2 := Below.next HBa hb1
      have hs1 : w.heap.size + 3 ≤ w1.heap.size := by have := hb1.size; simp at this; omega
      have hx3 : BoxH w1 (w.heap.size + 2) (.slice none 0 0) ⟨0, [], 0, 0⟩ := BoxH.below (show BoxH (W.alloc (.cells #[.int .i64 0, .slice none 0 0, .int .i64 0, .int .i64 0] 24)).drew _ _ _ from X3h.out.below (below_dr ((Below.refl _ W).alloc (Nat.le_refl _) _))) hb1
      have ho : OwnC w1 (w.heap.size + 3) (.slice y1 (P.tog a.l b.l).length k1) (P.tog a.l b.l) := own1.base (by simp; omega)
      have hg := setH_grown w1 W.heap.size (.slice y1 (P.tog a.l b.l).length k1) ⟨a.k, P.tog a.l b.l, a.n + b.n, a.off + b.off⟩
      exact ⟨W.heap.size, _, rfl, hz.all _ ⟨a.k, P.tog a.l b.l, a.n + b.n, a.off + b.off⟩, HS3, ho.box hz hg, hx3.other hg (by omega), Below.setH' hb2 (by omega) _ ⟨a.k, P.tog a.l b.l, a.n + b.n, a.off + b.off⟩⟩
  case rest =>
    obtain ⟨g, v1, rfl, hx, hg3, hown, hx3, hbw⟩ := hcut
    obtain ⟨y1, k1, hv1⟩ := hown.shp ctC_len
    subst hv1
    obtain ⟨c0, c1, c2, c3⟩ := hx.cells
    simp only at c0 c1 c2 c3
    clear HT X3h X1h X2h HS3 a0 a1 a2 a3 b0 b1 b2 b3
    by_cases hl : ((P.tog a.l b.l).length : Int) ≤ a.k
    · have hd : decide (a.k < ((P.tog a.l b.l).length : Int)) = false := by simp; omega
      have HU : Hid (P.uni a b = ⟨a.k, P.tog a.l b.l, a.n + b.n, a.off + b.off⟩) := by show _ = _; unfold P.uni; rw [if_pos hl]
      obtain ⟨z1, z2, z3, z4⟩ := hx3.cells
      have u0 := hx3.unfrozen 0
      have u1 := hx3.unfrozen 1
      have u2 := hx3.unfrozen 2
      have u3 := hx3.unfrozen 3
      generalize P.tog a.l b.l = R at *
      clear hl
      go_wp2
      have hg := setH_grown wc (w.heap.size + 2) (.slice y1 R.length k1) ⟨a.k, R, a.n + b.n, a.off + b.off⟩
      have hr := hx3.all (.slice y1 R.length k1) ⟨a.k, R, a.n + b.n, a.off + b.off⟩
      have ho := hown.box hx3 hg
      have hb := Below.setH' hbw (g := w.heap.size + 2) (by omega) (.slice y1 R.length k1) ⟨a.k, R, a.n + b.n, a.off + b.off⟩
      obtain ⟨r0, r1, r2, r3⟩ := hr.cells
      refine bodyPost_ret (w := setH wc (w.heap.size + 2) (.slice y1 R.length k1) ⟨a.k, R, a.n + b.n, a.off + b.off⟩) (v := aggH (.slice y1 R.length k1) ⟨a.k, R, a.n + b.n, a.off + b.off⟩) ?_ rfl ⟨.slice y1 R.length k1, by rw [HU.out], by rw [HU.out]; exact ho.base (by omega), hb⟩
      generalize setH wc (w.heap.size + 2) (.slice y1 R.length k1) ⟨a.k, R, a.n + b.n, a.off + b.off⟩ = wf at *
      simp only at r0 r1 r2 r3
      simp [results, Try.results27, go_sem, r0, r1, r2, r3]
    · have hd : decide (a.k < ((P.tog a.l b.l).length : Int)) = true := by simp; omega
      have HU : Hid (P.uni a b = ⟨a.k, P.les (P.tog a.l b.l) (P.thr (P.tog a.l b.l) (a.k.toNat + 1)), a.n + b.n, a.off + b.off + P.thr (P.tog a.l b.l) (a.k.toNat + 1)⟩) := by show _ = _; unfold P.uni; rw [if_neg hl]
      have HC := hide (GoodRow.common (.slice y1 (P.tog a.l b.l).length k1) a b h hl wc hown.row)
      obtain ⟨t1, t2, t3, t4⟩ := h.thr hl
      have ht5 := h.tot1
      have hp := h.pos
      have tb : P.thr (P.tog a.l b.l) (a.k.toNat + 1) ≤ 1000000000 := by
        obtain ⟨c, hc, e⟩ := P.thr_mem (l := P.tog a.l b.l) (m := a.k.toNat + 1) (by omega) t1
        have := P.mem_le_tot hp hc
        omega
      have HL := hide (fun wx (hb : Below wc.heap.size wc wx) => lessened_any (.slice y1 (P.tog a.l b.l).length k1) (P.tog a.l b.l) (P.thr (P.tog a.l b.l) (a.k.toNat + 1)) wx (hown.row.below hb (Nat.le_refl _)) (by have := h.len; omega) (fun y hy => ⟨hp y hy, by have := P.mem_le_tot hp hy; omega⟩) ⟨by omega, by omega⟩)
      have hm : IntKind.i64.wrap (a.k + 1) = a.k + 1 := by rw [IntKind.wrap_i64]; omega
      generalize P.thr (P.tog a.l b.l) (a.k.toNat + 1) = T at *
      have HX := hide hx
      have HX3 := hide hx3
      have HBw := hide hbw
      generalize P.les (P.tog a.l b.l) T = R2 at *
      generalize P.tog a.l b.l = R at *
      clear hl h t1 t3 t4 ht5 hp hx hx3 hown
      go_upto_region 5 with (first
        | (go_at_call 38; go_must (refine HC.out.mono ?_); rintro e w4 ⟨rfl, hb4⟩; have x4 := HX.out.below hb4; obtain ⟨d0, d1, d2, d3⟩ := x4.cells)
        | (go_at_call 39; go_must (refine (HL.out _ hb4).mono ?_); rintro e w5 ⟨v5, rfl, own5, hb5⟩; have x5 := x4.below hb5; obtain ⟨e0, e1, e2, e3⟩ := x5.cells; have u1 := x5.unfrozen 1; obtain ⟨y5, k5, hv5⟩ := own5.shp ctC_len; rw [hv5] at own5 ⊢; clear hv5))
      have HX5 : Hid (BoxH (w5.setCell ⟨g, 1, none⟩ (.slice y5 R2.length k5)) g (.slice y5 R2.length k5) ⟨a.k, R2, a.n + b.n, a.off + b.off⟩) := x5.list _ R2
      have HO5 : Hid (OwnC (w5.setCell ⟨g, 1, none⟩ (.slice y5 R2.length k5)) w4.heap.size (.slice y5 R2.length k5) R2) := own5.box x5 (setCell_grown w5 g 1 _)
      have HZ5 : Hid (BoxH (w5.setCell ⟨g, 1, none⟩ (.slice y5 R2.length k5)) (w.heap.size + 2) (.slice none 0 0) z0) := ((HX3.out.below hb4).below hb5).other (setCell_grown w5 g 1 _) (by omega)
      have HB5 : Hid (Below w.heap.size w (w5.setCell ⟨g, 1, none⟩ (.slice y5 R2.length k5))) := (Below.next (Below.next HBw.out hb4) hb5).setCell (show w.heap.size ≤ g by omega) _
      have hs4 : w.heap.size ≤ w4.heap.size := (Below.next HBw.out hb4).size
      obtain ⟨f0, f1, f2, f3⟩ := HX5.out.cells
      have u3 := HX5.out.unfrozen 3
      simp only at f0 f1 f2 f3
      clear x4 x5 own5 hb5 hb4 hbw d0 d1 d2 d3 e0 e1 e2 e3 u1 c0 c1 c2 c3 HC HL HX HX3 HBw
      generalize w5.setCell ⟨g, 1, none⟩ (.slice y5 R2.length k5) = w6 at *
      go_upto_region 6 with fail
      have HX7 : Hid (BoxH (w6.setCell ⟨g, 3, none⟩ (.int .i64 (a.off + b.off + T))) g (.slice y5 R2.length k5) ⟨a.k, R2, a.n + b.n, a.off + b.off + T⟩) := HX5.out.offs _
      have HO7 : Hid (OwnC (w6.setCell ⟨g, 3, none⟩ (.int .i64 (a.off + b.off + T))) w4.heap.size (.slice y5 R2.length k5) R2) := HO5.out.box HX5.out (setCell_grown w6 g 3 _)
      have hx3 : BoxH (w6.setCell ⟨g, 3, none⟩ (.int .i64 (a.off + b.off + T))) (w.heap.size + 2) (.slice none 0 0) z0 := HZ5.out.other (setCell_grown w6 g 3 _) (by omega)
      have HB7 : Hid (Below w.heap.size w (w6.setCell ⟨g, 3, none⟩ (.int .i64 (a.off + b.off + T)))) := HB5.out.setCell (show w.heap.size ≤ g by omega) _
      clear HX5 HO5 HZ5 HB5 f0 f1 f2 f3 u3
      generalize w6.setCell ⟨g, 3, none⟩ (.int .i64 (a.off + b.off + T)) = w7 at *
      obtain ⟨f0, f1, f2, f3⟩ := HX7.out.cells
      simp only at f0 f1 f2 f3
      obtain ⟨z1, z2, z3, z4⟩ := hx3.cells
      have u0 := hx3.unfrozen 0
      have u1 := hx3.unfrozen 1
      have u2 := hx3.unfrozen 2
      have u3 := hx3.unfrozen 3
      go_wp2
      have hg := setH_grown w7 (w.heap.size + 2) (.slice y5 R2.length k5) ⟨a.k, R2, a.n + b.n, a.off + b.off + T⟩
      have hr := hx3.all (.slice y5 R2.length k5) ⟨a.k, R2, a.n + b.n, a.off + b.off + T⟩
      have ho := HO7.out.box hx3 hg
      have hb := Below.setH' HB7.out (g := w.heap.size + 2) (by omega) (.slice y5 R2.length k5) ⟨a.k, R2, a.n + b.n, a.off + b.off + T⟩
      obtain ⟨r0, r1, r2, r3⟩ := hr.cells
      refine bodyPost_ret (w := setH w7 (w.heap.size + 2) (.slice y5 R2.length k5) ⟨a.k, R2, a.n + b.n, a.off + b.off + T⟩) (v := aggH (.slice y5 R2.length k5) ⟨a.k, R2, a.n + b.n, a.off + b.off + T⟩) ?_ rfl ⟨.slice y5 R2.length k5, by rw [HU.out], by rw [HU.out]; exact ho.base hs4, hb⟩
      generalize setH w7 (w.heap.size + 2) (.slice y5 R2.length k5) ⟨a.k, R2, a.n + b.n, a.off + b.off + T⟩ = wf at *
      simp only at r0 r1 r2 r3
      simp [results, Try.results27, go_sem, r0, r1, r2, r3]
end Go.Proofs.Ytcaidfffmllfeaa
