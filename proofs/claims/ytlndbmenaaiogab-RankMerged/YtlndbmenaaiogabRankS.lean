/- What ranked answers: numbers that were added, one by one. -/
import Derived.Test.YtlndbmenaaiogabRankD
namespace Go.Proofs.Ytlndbmenaaiogab
open Go.RowKit
set_option linter.unusedVariables false
theorem OwnV.zero (w : World) (b : Nat) (s : P.Rk) (h1 : s.tail = []) (h2 : s.lv = []) : OwnV w b (.slice none 0 0) (.slice none 0 0) s :=
  ⟨by rw [h1]; exact OwnK.nil _ _ _ _, [], by rw [h2]; rfl, World.ownsRow_nil _ _ _ _, fun j v l hv => by simp at hv, fun v hv => by cases hv⟩
abbrev zRk : P.Rk := ⟨0, [], [], 0, 0⟩
/-- How the loop of ranked stands. -/
structure RkdAt (w : World) (g r : Nat) (k : Int) (l : List Int) (j : Nat) (ec : Int) (wr : World) : Prop where
  box : ∃ tv lv S, BoxR wr g tv lv S ∧ OwnV wr 0 tv lv S ∧ (ec = 0 → S.k = k ∧ P.Good S ∧ P.Rep S (l.take j)) ∧ (∃ x y, tv = .slice x S.tail.length y) ∧ ∃ x y, lv = .slice x S.lv.length y
  res : ∃ tz lz sz, BoxR wr r tz lz sz
  bad : ec ≠ 0 → k < 2 ∨ 64 < k ∨ 1000 < l.length
  below : Below w.heap.size w wr
theorem OwnV.shapes {w : World} {b : Nat} {tv lv : Value} {S : P.Rk} (h : OwnV w b tv lv S) : (∃ x y, tv = .slice x S.tail.length y) ∧ ∃ x y, lv = .slice x S.lv.length y := by
  obtain ⟨a, c, h1⟩ := OwnK.shape h.tail
  obtain ⟨a2, c2, h2, _⟩ := h.shp
  exact ⟨⟨a, c, h1⟩, a2, c2, h2⟩
/-- What ranked answers. -/
def RkdPost (w : World) (k : Int) (l : List Int) (e : Ending) (w' : World) : Prop :=
  ∃ tv lv S ok, e = .returned (.tuple #[aggR tv lv S, .bool ok]) ∧ OwnV w' 0 tv lv S ∧ (ok = true → S.k = k ∧ P.Good S ∧ P.Rep S l) ∧ (ok = false → k < 2 ∨ 64 < k ∨ 1000 < l.length) ∧ Below w.heap.size w w'
theorem P.bnd_many {s : P.Rk} {l : List Int} (h : P.Rep s l) (hb : P.bndE s ≠ 0) : 1000 < l.length := by
  rcases Nat.lt_or_ge 1000 l.length with h1 | h1
  · exact h1
  · have := (h.few (by omega)).2.2
    exact absurd ((P.bnd_good h.mid).2 this) hb
set_option maxRecDepth 100000 in
set_option maxHeartbeats 4000000 in
theorem ranked_any (k : Int) (v : Value) (l : List Int) (w : World) (hr : RowK .i64 w v l) :
    Calls Try.prog 7 #[.int .i64 k, v] w (RkdPost w k l) := by
  obtain ⟨a, cap, rfl, ⟨hlc, hmax, hnn⟩, hcase⟩ := hr
  unfold maxLen at hmax
  have HB := hide ((Below.refl w.heap.size w).alloc (Nat.le_refl _) (.cells #[.int .i64 0, .slice none 0 0, .slice none 0 0, .int .i64 0, .int .i64 0] 26))
  have HZ : Hid (BoxR (w.alloc (.cells #[.int .i64 0, .slice none 0 0, .slice none 0 0, .int .i64 0, .int .i64 0] 26)) w.heap.size (.slice none 0 0) (.slice none 0 0) zRk) := BoxR.new w _ _ zRk
  have HA := hide (fun tv lv S x wx (h1 : RkV wx tv lv S) (h2 : P.Good S) => Add_ok tv lv S x wx h1 h2)
  obtain ⟨S0, e0, hE⟩ : ∃ (S0 : P.Rk) (e0 : Int), (∀ wx, Calls Try.prog 14 #[.int .i64 k] wx fun e w' => e = .returned (.tuple #[.agg #[.int .i64 S0.k, .slice none 0 0, .slice none 0 0, .int .i64 S0.n, .int .i64 S0.sl], .int .i64 e0]) ∧ Below wx.heap.size wx w') ∧ S0.tail = [] ∧ S0.lv = [] ∧ (e0 = 0 → S0.k = k ∧ P.Good S0 ∧ P.Rep S0 []) ∧ (e0 ≠ 0 → k < 2 ∨ 64 < k ∨ 1000 < l.length) := by
    by_cases hk : 2 ≤ k ∧ k ≤ 64
    · exact ⟨P.empR k, 0, fun wx => Empty_ok k wx hk, rfl, rfl, fun _ => ⟨rfl, P.empR_good hk, P.rep_emp hk⟩, fun h => absurd rfl h⟩
    · exact ⟨zRk, 1, fun wx => Empty_bad k wx hk, rfl, rfl, (fun h => by cases h), fun _ => by omega⟩
  obtain ⟨hE, t0, l0, hok, hbad⟩ := hE
  have HE := hide hE
  have HT := hide (And.intro t0 l0)
  have HOk := hide hok
  have HBad := hide hbad
  clear hE t0 l0 hok hbad
  go_enter Try.func7, Try.ntmps7
  go_wp2_with (go_at_call 14; go_must (refine (HE.out _).mono ?_); rintro e w1 ⟨rfl, hb1⟩)
  have z1 := HZ.out.below hb1
  have HAt : Hid (RkdAt w w1.heap.size w.heap.size k l 0 e0 (w1.alloc (.cells #[.int .i64 S0.k, .slice none 0 0, .slice none 0 0, .int .i64 S0.n, .int .i64 S0.sl] 26))) := by
    refine ⟨⟨_, _, S0, BoxR.new w1 _ _ S0, OwnV.zero _ _ S0 HT.out.1 HT.out.2, fun h => ?_, ⟨none, 0, by rw [HT.out.1]; rfl⟩, none, 0, by rw [HT.out.2]; rfl⟩, ⟨_, _, _, z1.below ((Below.refl w1.heap.size w1).alloc (Nat.le_refl _) _)⟩, HBad.out, (Below.next HB.out hb1).alloc (Below.next HB.out hb1).size _⟩
    simpa using HOk.out h
  have hgr : w.heap.size < w1.heap.size := z1.lt
  clear hb1 z1 HE HZ HB HOk HBad HT
  generalize w1.heap.size = g at *
  go_loopw [17, 7] (fun i ev wr => ∃ (j : Nat) (ec : Int), j ≤ l.length ∧ i = .int .i64 j ∧ ev = .int .i64 ec ∧ RkdAt w g w.heap.size k l j ec wr) (fun i _ _ => l.length - (intOf i).toNat)
  case atStart => exact ⟨0, e0, by omega, rfl, rfl, HAt.out⟩
  case round =>
    obtain ⟨j, ec, hj, rfl, rfl, hR⟩ := hrel
    have HR := hide hR
    obtain ⟨tv, lv, S, hbx, hown, hgd, ⟨xt, yt, rfl⟩, xl, yl, rfl⟩ := hR.box
    obtain ⟨tz, lz, sz, hres⟩ := hR.res
    obtain ⟨f0, f1, f2, f3, f4⟩ := hbx.cells
    have HBx := hide hbx
    have HOw := hide hown
    have HGd := hide hgd
    have HRs := hide hres
    have hB := hR.below
    clear hbx hown hgd HAt
    by_cases hlt : j < l.length
    · rcases hcase with h | ⟨b, off, rfl, hbs, hcell⟩
      · rw [h] at hlt; simp at hlt
      have q0 := (hB.cell (p := ⟨b, off + j, none⟩) hbs).trans (hcell j hlt)
      have j0 : (0 : Int) ≤ (j : Int) := by omega
      have j1 : (j : Int) < (l.length : Int) := by omega
      have htk : l.take (j + 1) = l.take j ++ [l.getD j 0] := by rw [List.take_add_one, List.getElem?_eq_getElem hlt]; simp [List.getD_eq_getElem?_getD, List.getElem?_eq_getElem hlt]
      have HTk := hide htk
      generalize l.getD j 0 = y at *
      clear hcell htk hR hB
      by_cases hec : ec = 0
      · obtain ⟨hk, hg, hrep⟩ := HGd.out hec
        have hd : (ec == 0) = true := by rw [beq_iff_eq]; exact hec
        have HAd := hide (HA.out _ _ S y wr HOw.out.read hg)
        have hrep2 := hrep.ad y
        rw [← HTk.out] at hrep2
        have HRep := hide hrep2
        have HK := hide hk
        have hk2 := P.adU_k S y
        have HK2 := hide hk2
        clear hk hg hrep hrep2 hk2 hec
        go_wp2_with fail
        refine HAd.out.mono ?_
        intro e w3 hP
        obtain ⟨p1, p2, p3⟩ := hP
        by_cases hb0 : P.bndE (P.adU S y) = 0
        · obtain ⟨tv3, lv3, rfl, own3⟩ := p1 hb0
          obtain ⟨⟨xt3, yt3, rfl⟩, xl3, yl3, rfl⟩ := own3.shapes
          have b3 := HBx.out.below p3
          have r3 := HRs.out.below p3
          obtain ⟨c0, c1, c2, c3, c4⟩ := b3.cells
          have u0 := b3.unfrozen 0; have u1 := b3.unfrozen 1; have u2 := b3.unfrozen 2; have u3 := b3.unfrozen 3; have u4 := b3.unfrozen 4
          have hfin : RkdAt w g w.heap.size k l (j + 1) 0 (setR w3 g (.slice xt3 (P.adU S y).tail.length yt3) (.slice xl3 (P.adU S y).lv.length yl3) (P.adU S y)) :=
            ⟨⟨_, _, _, b3.all _ _ _, OwnV.setR' own3 b3, fun _ => ⟨HK2.out.trans HK.out, (P.bnd_good HRep.out.mid).1 hb0, HRep.out⟩, ⟨_, _, rfl⟩, _, _, rfl⟩, ⟨_, _, _, r3.grown (setR_grown _ _ _ _ _) (by simp; omega)⟩, fun h => absurd rfl h, Below.setR' (Below.next HR.out.below p3) (by omega) _ _ _⟩
          have HF := hide hfin
          clear hfin p1 p2 own3 HRep HK HK2 hb0
          generalize P.adU S y = S2 at *
          go_wp2
          go_roundw
          case rel => exact ⟨j + 1, 0, by omega, by go_num, rfl, HF.out⟩
          case measure => simp [intOf]; omega
        · have p4 := p2 hb0
          subst p4
          have b3 := HBx.out.below p3
          have r3 := HRs.out.below p3
          obtain ⟨c0, c1, c2, c3, c4⟩ := b3.cells
          have u0 := b3.unfrozen 0; have u1 := b3.unfrozen 1; have u2 := b3.unfrozen 2; have u3 := b3.unfrozen 3; have u4 := b3.unfrozen 4
          have hmany := P.bnd_many HRep.out hb0
          have hl1000 : 1000 < l.length := by rw [List.length_take] at hmany; omega
          have hfin : RkdAt w g w.heap.size k l (j + 1) 2 (setR w3 g (.slice none 0 0) (.slice none 0 0) zRk) :=
            ⟨⟨_, _, zRk, b3.all _ _ zRk, OwnV.setR' (OwnV.zero _ _ _ rfl rfl) b3, (fun h => by cases h), ⟨_, _, rfl⟩, _, _, rfl⟩, ⟨_, _, _, r3.grown (setR_grown _ _ _ _ _) (by simp; omega)⟩, fun _ => .inr (.inr hl1000), Below.setR' (Below.next HR.out.below p3) (by omega) _ _ _⟩
          have HF := hide hfin
          clear hfin p1 p2 HRep HK HK2 hb0 hmany hl1000
          go_wp2
          go_roundw
          case rel => exact ⟨j + 1, 2, by omega, by go_num, rfl, HF.out⟩
          case measure => simp [intOf]; omega
      · have hd : (ec == 0) = false := by rw [beq_eq_false_iff_ne]; exact hec
        have hfin : RkdAt w g w.heap.size k l (j + 1) ec wr := ⟨⟨_, _, S, HBx.out, HOw.out, fun h => absurd h hec, ⟨_, _, rfl⟩, _, _, rfl⟩, ⟨_, _, _, HRs.out⟩, HR.out.bad, HR.out.below⟩
        have HF := hide hfin
        clear hfin hec
        go_wp2
        go_roundw
        case rel => exact ⟨j + 1, ec, by omega, by go_num, rfl, HF.out⟩
        case measure => simp [intOf]; omega
    · have hd : decide ((j : Int) < (l.length : Int)) = false := by simp; omega
      obtain rfl : j = l.length := by omega
      rw [List.take_length] at HGd
      obtain ⟨c0, c1, c2, c3, c4⟩ := hres.cells
      have u0 := hres.unfrozen 0; have u1 := hres.unfrozen 1; have u2 := hres.unfrozen 2; have u3 := hres.unfrozen 3; have u4 := hres.unfrozen 4
      have y6 := hres.all (.slice xt S.tail.length yt) (.slice xl S.lv.length yl) S
      have o6 : OwnV (setR wr w.heap.size (.slice xt S.tail.length yt) (.slice xl S.lv.length yl) S) 0 (.slice xt S.tail.length yt) (.slice xl S.lv.length yl) S := OwnV.setR' HOw.out hres
      have b6 : Below w.heap.size w (setR wr w.heap.size (.slice xt S.tail.length yt) (.slice xl S.lv.length yl) S) := Below.setR' hB (Nat.le_refl _) _ _ _
      obtain ⟨r0, r1, r2, r3, r4⟩ := y6.cells
      have HBd := hide hR.bad
      clear hR hB
      go_wp2
      refine bodyPost_ret (w := setR wr w.heap.size (.slice xt S.tail.length yt) (.slice xl S.lv.length yl) S) (v := .tuple #[aggR (.slice xt S.tail.length yt) (.slice xl S.lv.length yl) S, .bool (ec == 0)]) ?_ rfl ⟨_, _, S, (ec == 0), rfl, o6, fun h => HGd.out (by simpa using h), fun h => HBd.out (by simpa using h), b6⟩
      generalize setR wr w.heap.size (.slice xt S.tail.length yt) (.slice xl S.lv.length yl) S = wf at *
      simp [results, Try.results7, go_sem, r0, r1, r2, r3, r4]
end Go.Proofs.Ytlndbmenaaiogab
