/- What own does. -/
import Derived.Test.YtlndbmenaaiogaaRankN
import Derived.Test.YtlndbmenaaiogaaRankK
namespace Go.Proofs.Ytlndbmenaaiogaa
open Go.RowKit
set_option linter.unusedVariables false
/-- How the loop of own stands. -/
def OwnAt (w : World) (g r : Nat) (tv lv : Value) (s : P.Rk) (i vl : Value) (wr : World) : Prop :=
  ∃ (j : Nat) (tz lz : Value) (sz : P.Rk), j ≤ s.lv.length ∧ i = .int .i64 j ∧ OwnV wr w.heap.size tv vl ⟨s.k, s.tail, s.lv.take j, s.n, s.sl⟩ ∧ BoxR wr g tv lv s ∧ BoxR wr r tz lz sz ∧ Below w.heap.size w wr
theorem OwnV.more {w w2 w3 : World} {base : Nat} {tv lv lv' v : Value} {s : P.Rk} {l : List Int} (h : OwnV w base tv lv s) (hb : Below w.heap.size w w2) (hbase : base ≤ w.heap.size) (hv : OwnI w2 w.heap.size v l)
    (hvs : ∃ ws : List Value, OwnL w2 base lv ws ∧ OwnL w3 base lv' (ws ++ [v]) ∧ ws.length = s.lv.length ∧ (∀ (j : Nat) (u : Value) (m : List Int), ws[j]? = some u → s.lv[j]? = some m → OwnI w base u m) ∧ (∀ u ∈ ws, Apt u tv)) (hg : w2.grownBy w3 lv.ownBlock) :
    OwnV w3 base tv lv' ⟨s.k, s.tail, s.lv ++ [l], s.n, s.sl⟩ := by
  obtain ⟨ws, h1, h2, h3, h4, h5⟩ := hvs
  have ht := h.tail.below hb (Nat.le_refl _)
  have hd : (22 : TypeId) ≠ 2 := by decide
  refine ⟨OwnK.keep ht hg (own_two h1 ht hd), ws ++ [v], by simp [h3], h2, ?_, ?_⟩
  · intro j u m hu hm
    rcases Nat.lt_or_ge j ws.length with hj | hj
    · rw [List.getElem?_append_left hj] at hu
      rw [List.getElem?_append_left (by omega)] at hm
      have := (h4 j u m hu hm).below hb (Nat.le_refl _)
      exact OwnK.keep this hg (own_two h1 this hd)
    · have e : j = ws.length := by
        rcases Nat.lt_or_ge ws.length j with h6 | h6
        · rw [List.getElem?_eq_none (by simp; omega)] at hu; cases hu
        · omega
      subst e
      rw [List.getElem?_append_right (Nat.le_refl _)] at hu
      rw [List.getElem?_append_right (by omega)] at hm
      simp at hu
      rw [h3] at hm
      simp at hm
      subst hu hm
      have := OwnK.base hv hbase
      exact OwnK.keep this hg (own_two h1 this hd)
  · intro u hu
    rcases List.mem_append.1 hu with hu | hu
    · exact h5 u hu
    · simp at hu; subst hu
      intro b hb1 hb2
      have h6 := (hv.lt b hb1).1
      have h7 := (h.tail.lt b hb2).2
      omega
set_option maxRecDepth 100000 in
set_option maxHeartbeats 2000000 in
theorem own_any (tv lv : Value) (s : P.Rk) (w : World) (hr : RkV w tv lv s) (hg : P.Good s) :
    Calls Try.prog 27 #[aggR tv lv s] w fun e w' => ∃ tv' lv', e = .returned (aggR tv' lv' s) ∧ OwnV w' w.heap.size tv' lv' s ∧ Below w.heap.size w w' := by
  have h20 := hg.2.1
  have hl64 : ∀ l ∈ s.lv, l.length ≤ 100000 := fun l hl => by have := (hg.1.lv l hl).2; have := hg.1.k64; omega
  have ht64 : s.tail.length ≤ 100000 := by have := hg.1.room; have := hg.1.k64; omega
  have HT := hide (fun wx (hb : Below w.heap.size w wx) => fresh_any tv s.tail wx (hr.tail.below hb (Nat.le_refl _)) ht64)
  have HFr := hide (fun wx v (l : List Int) (h : RowK .i64 wx v l) (hl : l.length ≤ 100000) => fresh_any v l wx h hl)
  obtain ⟨al, cl, rfl, ⟨hlc, hmax⟩, hcase⟩ := hr.lv
  unfold maxLen at hmax
  have hB : Below w.heap.size w ((w.alloc (.cells #[.int .i64 s.k, tv, .slice al s.lv.length cl, .int .i64 s.n, .int .i64 s.sl] 25)).alloc (.cells #[.int .i64 0, .slice none 0 0, .slice none 0 0, .int .i64 0, .int .i64 0] 25)) := ((Below.refl _ w).alloc (Nat.le_refl _) _).alloc (by simp) _
  have hX1 : BoxR ((w.alloc (.cells #[.int .i64 s.k, tv, .slice al s.lv.length cl, .int .i64 s.n, .int .i64 s.sl] 25)).alloc (.cells #[.int .i64 0, .slice none 0 0, .slice none 0 0, .int .i64 0, .int .i64 0] 25)) w.heap.size tv (.slice al s.lv.length cl) s :=
    BoxR.below (BoxR.new w tv _ s) ((Below.refl _ _).alloc (Nat.le_refl _) _)
  have hX2 : BoxR ((w.alloc (.cells #[.int .i64 s.k, tv, .slice al s.lv.length cl, .int .i64 s.n, .int .i64 s.sl] 25)).alloc (.cells #[.int .i64 0, .slice none 0 0, .slice none 0 0, .int .i64 0, .int .i64 0] 25)) (w.heap.size + 1) (.slice none 0 0) (.slice none 0 0) ⟨0, [], [], 0, 0⟩ := by
    have := BoxR.new (w.alloc (.cells #[.int .i64 s.k, tv, .slice al s.lv.length cl, .int .i64 s.n, .int .i64 s.sl] 25)) (.slice none 0 0) (.slice none 0 0) ⟨0, [], [], 0, 0⟩
    simpa using this
  have HBw := hide hB
  have HX1 := hide hX1
  have HX2 := hide hX2
  have c1 := hX1.cells.2.1
  have HLl := hide hl64
  clear hr hg hl64 hB hX1 hX2
  go_enter Try.func27, Try.ntmps27
  go_wp2_with (go_at_call 38; go_must (refine (HT.out _ HBw.out).mono ?_); rintro e w1 ⟨v1, rfl, own1, hb1⟩; obtain ⟨a1, k1, rfl⟩ := OwnK.shape own1; have x1 := HX1.out.below hb1; have u1 := x1.unfrozen 1; have q1 := x1.cells.2.1; have q2 := x1.cells.2.2.1; have x2 := HX2.out.below hb1)
  have HB1 : Hid (Below w.heap.size w (w1.setCell ⟨w.heap.size, 1, none⟩ (.slice a1 s.tail.length k1))) := (Below.next HBw.out hb1).setCell (Nat.le_refl _) _
  have hs1 : w.heap.size + 2 ≤ w1.heap.size := by have := hb1.size; simp at this; omega
  have Y1 : Hid (BoxR (w1.setCell ⟨w.heap.size, 1, none⟩ (.slice a1 s.tail.length k1)) w.heap.size (.slice a1 s.tail.length k1) (.slice al s.lv.length cl) s) := x1.tail _ s.tail
  have Y2 : Hid (BoxR (w1.setCell ⟨w.heap.size, 1, none⟩ (.slice a1 s.tail.length k1)) (w.heap.size + 1) (.slice none 0 0) (.slice none 0 0) ⟨0, [], [], 0, 0⟩) := x2.grown (setCell_grown w1 w.heap.size 1 _) (by simp)
  have O1 : Hid (OwnI (w1.setCell ⟨w.heap.size, 1, none⟩ (.slice a1 s.tail.length k1)) w.heap.size (.slice a1 s.tail.length k1) s.tail) := OwnI.box (OwnK.base own1 (by simp; omega)) x1 1 _
  clear x1 x2 u1 q1 q2 own1 hb1 c1 HX1 HX2 HBw HT
  generalize w1.setCell ⟨w.heap.size, 1, none⟩ (.slice a1 s.tail.length k1) = w2 at *
  clear hs1
  go_loopw [13, 3] (fun i vl wr => OwnAt w w.heap.size (w.heap.size + 1) (.slice a1 s.tail.length k1) (.slice al s.lv.length cl) s i vl wr) (fun i _ _ => s.lv.length - (intOf i).toNat)
  case atStart => exact ⟨0, _, _, _, by omega, rfl, ⟨O1.out, [], by simp, World.ownsRow_nil _ _ _ _, fun j v l hv => by simp at hv, fun v hv => by cases hv⟩, Y1.out, Y2.out, HB1.out⟩
  case round =>
    obtain ⟨j, tz, lz, sz, hj, rfl, hown, hx1, hx2, hB⟩ := hrel
    by_cases hlt : j < s.lv.length
    · rcases hcase with h | ⟨b, off, rfl, hbs, hcell⟩
      · rw [h] at hlt; simp at hlt
      have j0 : (0 : Int) ≤ (j : Int) := by omega
      have j1 : (j : Int) < (s.lv.length : Int) := by omega
      obtain ⟨l, hx⟩ : ∃ y, s.lv[j]? = some y := ⟨_, List.getElem?_eq_getElem hlt⟩
      obtain ⟨vj, g0, hrow⟩ := hcell j l hx
      have g1 := (hB.cell (p := ⟨b, off + j, none⟩) hbs).trans g0
      have HFj := hide (HFr.out wr vj l (hrow.below hB (Nat.le_refl _)) (HLl.out l (List.mem_of_getElem? hx)))
      obtain ⟨ar, cr, rfl, _, _⟩ := hrow.nil_of
      have HX := hide hx
      have HOw := hide hown
      have HX1 := hide hx1
      have HX2 := hide hx2
      have HBr := hide hB
      have hsz := hB.size
      obtain ⟨ws, hws, hL0, _⟩ := hown.rows
      obtain ⟨aL, cL, hvl, _, _, _⟩ := OwnL.shp hL0
      have hwj : ws.length = j := by rw [hws]; simp; omega
      rw [hwj] at hvl
      rw [hvl] at HOw ⊢
      clear hwj
      have hwl : ws.length ≤ 20 := by rw [hws]; simp; omega
      clear hcell hrow g0 hx hown hx1 hx2 hB O1 Y1 Y2 HB1 hL0
      go_wp2_with (first
        | (at_builtin; obtain ⟨vs, hvs1, hvs2, hvs3, hvs4⟩ := HOw.out.rows; go_must (refine wp_app1L rfl _ _ rfl w.heap.size _ _ vs _ rfl (OwnL.below hvs2 hb3 (Nat.le_refl _)) rfl rfl (by rw [hvs1]; simp; omega) (Nat.le_trans hsz hb3.size) ?_); intro v4 w4 own4 hg4)
        | (go_at_call 38; go_must (refine HFj.out.mono ?_); rintro e w3 ⟨v3, rfl, own3, hb3⟩; obtain ⟨a3, k3, rfl⟩ := OwnK.shape own3))
      have hL3 := OwnL.below hvs2 hb3 (Nat.le_refl _)
      have hne1 := (HX1.out.below hb3).neL hL3
      have hne2 := (HX2.out.below hb3).neL hL3
      go_roundw
      case rel =>
        refine ⟨j + 1, tz, lz, sz, by omega, by go_num, ?_, (HX1.out.below hb3).grown hg4 hne1, (HX2.out.below hb3).grown hg4 hne2, (Below.next HBr.out hb3).grown hg4 (Nat.le_trans hsz hb3.size) (fun k hk => (World.ownsRow.lt hL3 k hk).1)⟩
        have := OwnV.more HOw.out hb3 hsz own3 ⟨vs, hL3, own4, hvs1, hvs3, hvs4⟩ hg4
        rw [List.take_add_one, HX.out]
        exact this
      case measure => simp [intOf]; omega
    · have hd : decide ((j : Int) < (s.lv.length : Int)) = false := by simp; omega
      obtain rfl : j = s.lv.length := by omega
      rw [List.take_length] at hown
      have HOw := hide hown
      have HX1 := hide hx1
      have HX2 := hide hx2
      have HBr := hide hB
      obtain ⟨ws, hws, hL0, _⟩ := hown.rows
      obtain ⟨aL, cL, hvl, _, _, _⟩ := OwnL.shp hL0
      have hwj : ws.length = s.lv.length := by rw [hws]
      rw [hwj] at hvl
      rw [hvl] at HOw ⊢
      clear hwj hws
      obtain ⟨c0, c1, c2, c3, c4⟩ := hx1.cells
      obtain ⟨z0, z1, z2, z3, z4⟩ := hx2.cells
      have u1 := hx1.unfrozen 2
      have t0 := hx2.unfrozen 0
      have t1 := hx2.unfrozen 1
      have t2 := hx2.unfrozen 2
      have t3 := hx2.unfrozen 3
      have t4 := hx2.unfrozen 4
      clear hown hx1 hx2 hB O1 Y1 Y2 HB1 hL0
      go_wp2
      have y2 : BoxR (wr.setCell ⟨w.heap.size, 2, none⟩ (.slice aL s.lv.length cL)) (w.heap.size + 1) tz lz sz := HX2.out.grown (setCell_grown _ _ _ _) (by simp)
      have y3 := y2.all (.slice a1 s.tail.length k1) (.slice aL s.lv.length cL) s
      have o3 : OwnV (setR (wr.setCell ⟨w.heap.size, 2, none⟩ (.slice aL s.lv.length cL)) (w.heap.size + 1) (.slice a1 s.tail.length k1) (.slice aL s.lv.length cL) s) w.heap.size (.slice a1 s.tail.length k1) (.slice aL s.lv.length cL) s := OwnV.setR' (HOw.out.box HX1.out 2 _) y2
      have b3 : Below w.heap.size w (setR (wr.setCell ⟨w.heap.size, 2, none⟩ (.slice aL s.lv.length cL)) (w.heap.size + 1) (.slice a1 s.tail.length k1) (.slice aL s.lv.length cL) s) := Below.setR' (HBr.out.setCell (Nat.le_refl _) _) (by omega) _ _ _
      obtain ⟨r0, r1, r2, r3, r4⟩ := y3.cells
      refine bodyPost_ret (w := setR (wr.setCell ⟨w.heap.size, 2, none⟩ (.slice aL s.lv.length cL)) (w.heap.size + 1) (.slice a1 s.tail.length k1) (.slice aL s.lv.length cL) s) (v := aggR (.slice a1 s.tail.length k1) (.slice aL s.lv.length cL) s) ?_ rfl ⟨_, _, rfl, o3, b3⟩
      generalize setR (wr.setCell ⟨w.heap.size, 2, none⟩ (.slice aL s.lv.length cL)) (w.heap.size + 1) (.slice a1 s.tail.length k1) (.slice aL s.lv.length cL) s = wf at *
      simp [results, Try.results27, go_sem, r0, r1, r2, r3, r4]
end Go.Proofs.Ytlndbmenaaiogaa
