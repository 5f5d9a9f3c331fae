/- Several texts in one. -/
import Derived.Test.YtenfpkokogfdaaaSkEqAll
import Derived.Test.YtenfpkokogfdaaaSkAeAll
/- What sketched answers: keys that came, one by one. -/
namespace Go.Proofs.Ytenfpkokogfdaaa
open Go.RowKit
set_option linter.unusedVariables false
/-- How the loop of sketched stands. -/
structure SkdAt (w : World) (g r d x : Nat) (l : List ByteArray) (j : Nat) (wr : World) : Prop where
  box : ∃ v S, BoxK wr g v S ∧ OwnI wr 0 v S.c ∧ P.SkRep (P.hc x) S (l.take j) ∧ S.d = d ∧ S.w = x ∧ ∃ a c, v = .slice a S.c.length c
  res : ∃ z sz, BoxK wr r z sz
  below : Below w.heap.size w wr
set_option maxRecDepth 100000 in
set_option maxHeartbeats 4000000 in
theorem sketched_ok (d x : Nat) (v : Value) (l : List ByteArray) (w : World) (h1 : 1 ≤ d) (h2 : d ≤ 8) (h3 : 1 ≤ x) (h4 : x ≤ 200) (hr : RowT w v l) (hl : ∀ y ∈ l, y.size ≤ 9223372036854775807) (hn : l.length ≤ 1000000000000000) :
    Calls Try.prog 19 #[.int .i64 d, .int .i64 x, v] w fun e w' => ∃ v' S, e = .returned (.tuple #[aggK v' S, .bool true]) ∧ OwnI w' 0 v' S.c ∧ P.SkRep (P.hc x) S l ∧ S.d = d ∧ S.w = x ∧ Below w.heap.size w w' := by
  obtain ⟨a, cap, rfl, ⟨hlc, hmax, hnn⟩, hcase⟩ := hr
  unfold maxLen at hmax
  have HB := hide ((Below.refl w.heap.size w).alloc (Nat.le_refl _) (.cells #[.int .i64 0, .int .i64 0, .slice none 0 0, .int .i64 0] 24))
  have HZ := hide (zero_new w)
  have HA := hide (fun v S q wx (h1 : RowK .i64 wx v S.c) (h2 : P.SkGood S) (h3 : S.n + 1 ≤ 1152921504606846976) (h4 : q.size ≤ 9223372036854775807) => Add_ok v S q 1 wx h1 h2 (by decide) h3 h4)
  have HE := hide (fun wx => Empty_ok d x wx h1 h2 h3 h4)
  have HEm := hide (P.skEmp_rep (P.hc x) h1 h2 h3 h4)
  have HHc := hide (fun i y => P.hc_lt (w := x) (by omega) i y)
  clear h1 h2 h3 h4
  go_enter Try.func19, Try.ntmps19
  go_wp2_with fail
  refine (HE.out _).mono ?_
  rintro e w1 ⟨v1, rfl, own1, hb1⟩
  obtain ⟨a1, c1, rfl⟩ := own1.shape
  have z1 := HZ.out.below hb1
  have HAt : Hid (SkdAt w w1.heap.size w.heap.size d x l 0 (w1.alloc (.cells #[.int .i64 (P.skEmp d x).d, .int .i64 (P.skEmp d x).w, .slice a1 (P.skEmp d x).c.length c1, .int .i64 (P.skEmp d x).n] 24))) := by
    have hB1 := (Below.refl w1.heap.size w1).alloc (Nat.le_refl _) (.cells #[.int .i64 (P.skEmp d x).d, .int .i64 (P.skEmp d x).w, .slice a1 (P.skEmp d x).c.length c1, .int .i64 (P.skEmp d x).n] 24)
    refine ⟨⟨_, P.skEmp d x, BoxK.new w1 _ (P.skEmp d x), (own1.base (Nat.zero_le _)).below hB1 (Nat.le_refl _), by rw [List.take_zero]; exact HEm.out, rfl, rfl, a1, c1, rfl⟩, ⟨_, _, z1.below hB1⟩, (Below.next HB.out hb1).alloc (Below.next HB.out hb1).size _⟩
  have hgr : w.heap.size < w1.heap.size := z1.lt
  clear hb1 z1 HE HZ HB HEm own1
  generalize P.skEmp d x = S0 at *
  go_upto_region 2 with fail
  generalize (w1.alloc (.cells #[.int .i64 S0.d, .int .i64 S0.w, .slice a1 S0.c.length c1, .int .i64 S0.n] 24)) = W2 at *
  generalize w1.heap.size = g at *
  go_wp2
  go_loopw [20, 9] (fun i ev wr => ∃ j : Nat, j ≤ l.length ∧ i = .int .i64 j ∧ ev = .int .i64 0 ∧ SkdAt w g w.heap.size d x l j wr) (fun i _ _ => l.length - (intOf i).toNat)
  case atStart => exact ⟨0, by omega, rfl, rfl, HAt.out⟩
  case round =>
    obtain ⟨j, hj, rfl, rfl, hR⟩ := hrel
    have HR := hide hR
    obtain ⟨v, S, hbx, hown, hrep, hSd, hSw, xt, yt, rfl⟩ := hR.box
    obtain ⟨z, sz, hres⟩ := hR.res
    obtain ⟨f0, f1, f2, f3⟩ := hbx.cells
    have HBx := hide hbx
    have HOw := hide hown
    have HRep := hide hrep
    have HRs := hide hres
    have HSd := hide hSd
    have HSw := hide hSw
    have hB := hR.below
    clear hbx hown hrep hSd hSw
    by_cases hlt : j < l.length
    · rcases hcase with h | ⟨b, off, rfl, hbs, hcell⟩
      · rw [h] at hlt; simp at hlt
      obtain ⟨y, hy⟩ : ∃ x, l[j]? = some x := ⟨_, List.getElem?_eq_getElem hlt⟩
      have q0 := (hB.cell (p := ⟨b, off + j, none⟩) hbs).trans (RowT.at hcell hy)
      have j0 : (0 : Int) ≤ (j : Int) := by omega
      have j1 : (j : Int) < (l.length : Int) := by omega
      have hysz := hl y (List.mem_of_getElem? hy)
      have HTk : Hid (l.take (j + 1) = l.take j ++ [y]) := by show _ = _; rw [List.take_add_one, hy]; rfl
      have hnb : S.n + 1 ≤ 1152921504606846976 := by have := HRep.out.n; rw [List.length_take] at this; omega
      have HAd := hide (HA.out _ S y wr HOw.out.row HRep.out.good hnb hysz)
      have hrep2 := HRep.out.ad (fun i x0 hi => by rw [HSw.out]; exact HHc.out i x0) y hnb
      rw [← HTk.out] at hrep2
      have HRep2 : Hid (P.SkRep (P.hc x) (P.adS S y 1) (l.take (j + 1))) := by
        show P.SkRep _ _ _
        unfold P.adS
        rw [HSw.out]; exact hrep2
      have HSd2 : Hid ((P.adS S y 1).d = d) := HSd.out
      have HSw2 : Hid ((P.adS S y 1).w = x) := HSw.out
      clear hcell hR hB hy hrep2 hnb
      go_wp2_with fail
      refine HAd.out.mono ?_
      rintro e w3 ⟨v3, rfl, own3, p3⟩
      obtain ⟨xt3, yt3, rfl⟩ := own3.shape
      have b3 := HBx.out.below p3
      have r3 := HRs.out.below p3
      obtain ⟨c0, c1, c2, c3⟩ := b3.cells
      have u0 := b3.unfrozen 0; have u1 := b3.unfrozen 1; have u2 := b3.unfrozen 2; have u3 := b3.unfrozen 3
      have hfin : SkdAt w g w.heap.size d x l (j + 1) (setK w3 g (.slice xt3 (P.adS S y 1).c.length yt3) (P.adS S y 1)) :=
        ⟨⟨_, _, b3.all _ _, (own3.box b3 (setK_grown _ _ _ _)).base (Nat.zero_le _), HRep2.out, HSd2.out, HSw2.out, _, _, rfl⟩, ⟨_, _, r3.other (setK_grown _ _ _ _) (by omega)⟩, Below.setK' (Below.next HR.out.below p3) (by omega) _ _⟩
      have HF := hide hfin
      clear hfin own3 HRep2 HSd2 HSw2
      generalize P.adS S y 1 = S2 at *
      go_wp2
      go_roundw
      case rel => exact ⟨j + 1, by omega, by go_num, rfl, HF.out⟩
      case measure => simp [intOf]; omega
    · have hd : decide ((j : Int) < (l.length : Int)) = false := by simp; omega
      obtain rfl : j = l.length := by omega
      rw [List.take_length] at HRep
      obtain ⟨c0, c1, c2, c3⟩ := hres.cells
      have u0 := hres.unfrozen 0; have u1 := hres.unfrozen 1; have u2 := hres.unfrozen 2; have u3 := hres.unfrozen 3
      have y6 := hres.all (.slice xt S.c.length yt) S
      have o6 := HOw.out.box hres (setK_grown wr w.heap.size (.slice xt S.c.length yt) S)
      have b6 : Below w.heap.size w (setK wr w.heap.size (.slice xt S.c.length yt) S) := Below.setK' hB (Nat.le_refl _) _ _
      obtain ⟨r0, r1, r2, r3⟩ := y6.cells
      clear hR hB
      go_wp2
      refine bodyPost_ret (w := setK wr w.heap.size (.slice xt S.c.length yt) S) (v := .tuple #[aggK (.slice xt S.c.length yt) S, .bool true]) ?_ rfl ⟨_, S, rfl, o6, HRep.out, HSd.out, HSw.out, b6⟩
      generalize setK wr w.heap.size (.slice xt S.c.length yt) S = wf at *
      simp [results, Try.results19, go_sem, r0, r1, r2, r3]
set_option maxRecDepth 100000 in
set_option maxHeartbeats 2000000 in
theorem sketched_bad (d x : Int) (v : Value) (l : List ByteArray) (w : World) (h : P.arB d x = false) (hr : RowT w v l) :
    Calls Try.prog 19 #[.int .i64 d, .int .i64 x, v] w fun e w' => e = .returned (.tuple #[zeroK, .bool false]) ∧ Below w.heap.size w w' := by
  obtain ⟨a, cap, rfl, ⟨hlc, hmax, hnn⟩, hcase⟩ := hr
  unfold maxLen at hmax
  have HB := hide ((Below.refl w.heap.size w).alloc (Nat.le_refl _) (.cells #[.int .i64 0, .int .i64 0, .slice none 0 0, .int .i64 0] 24))
  have HZ := hide (zero_new w)
  have HE := hide (fun wx => Empty_bad d x wx h)
  clear h
  go_enter Try.func19, Try.ntmps19
  go_wp2_with fail
  refine (HE.out _).mono ?_
  rintro e w1 ⟨rfl, hb1⟩
  have z1 := HZ.out.below hb1
  have hB1 := (Below.refl w1.heap.size w1).alloc (Nat.le_refl _) (.cells #[.int .i64 0, .int .i64 0, .slice none 0 0, .int .i64 0] 24)
  have HG := hide (zero_new w1)
  have HR0 := hide (z1.below hB1)
  have HB1 := hide ((Below.next HB.out hb1).alloc (Below.next HB.out hb1).size (.cells #[.int .i64 0, .int .i64 0, .slice none 0 0, .int .i64 0] 24))
  have hgr : w.heap.size < w1.heap.size := z1.lt
  clear hb1 z1 HE HZ HB hB1
  go_upto_region 2 with fail
  generalize (w1.alloc (.cells #[.int .i64 0, .int .i64 0, .slice none 0 0, .int .i64 0] 24)) = W2 at *
  generalize w1.heap.size = g at *
  go_wp2
  go_loop [20, 9] (fun i ev => ∃ j : Nat, j ≤ l.length ∧ i = .int .i64 j ∧ ev = .int .i64 1) (fun i _ => l.length - (intOf i).toNat)
  case atStart => exact ⟨0, by omega, rfl, rfl⟩
  case round =>
    obtain ⟨j, hj, rfl, rfl⟩ := hrel
    by_cases hlt : j < l.length
    · rcases hcase with h | ⟨b, off, rfl, hbs, hcell⟩
      · rw [h] at hlt; simp at hlt
      obtain ⟨y, hy⟩ : ∃ x, l[j]? = some x := ⟨_, List.getElem?_eq_getElem hlt⟩
      have q0 := (HB1.out.cell (p := ⟨b, off + j, none⟩) hbs).trans (RowT.at hcell hy)
      have j0 : (0 : Int) ≤ (j : Int) := by omega
      have j1 : (j : Int) < (l.length : Int) := by omega
      clear hcell hy
      go_wp2
      go_round
      case rel => exact ⟨j + 1, by omega, by go_num, rfl⟩
      case measure => simp [intOf]; omega
    · have hd : decide ((j : Int) < (l.length : Int)) = false := by simp; omega
      obtain rfl : j = l.length := by omega
      obtain ⟨f0, f1, f2, f3⟩ := HG.out.cells
      obtain ⟨c0, c1, c2, c3⟩ := HR0.out.cells
      have u0 := HR0.out.unfrozen 0; have u1 := HR0.out.unfrozen 1; have u2 := HR0.out.unfrozen 2; have u3 := HR0.out.unfrozen 3
      have y6 := HR0.out.all (.slice none 0 0) z0
      have b6 : Below w.heap.size w (setK W2 w.heap.size (.slice none 0 0) z0) := Below.setK' HB1.out (Nat.le_refl _) _ _
      obtain ⟨r0, r1, r2, r3⟩ := y6.cells
      go_wp2
      refine bodyPost_ret (w := setK W2 w.heap.size (.slice none 0 0) z0) (v := .tuple #[zeroK, .bool false]) ?_ rfl ⟨rfl, b6⟩
      generalize setK W2 w.heap.size (.slice none 0 0) z0 = wf at *
      simp [z0] at r0 r1 r2 r3
      simp [results, Try.results19, go_sem, r0, r1, r2, r3]
end Go.Proofs.Ytenfpkokogfdaaa
