/- Several texts in one. -/
import Derived.Test.YtcaidfffmllfeaaHeavySAll
/- What tallied answers: keys that came, one by one. -/
namespace Go.Proofs.Ytcaidfffmllfeaa
open Go.RowKit
set_option linter.unusedVariables false
theorem P.Good.hvI {s : P.Hv} (h : P.Good s) : HvI s := by
  have h1 := h.k1; have h2 := h.k2; have h3 := h.n0; have h4 := h.n1; have h5 := h.o0; have h6 := h.o1
  refine ⟨by omega, by omega, by omega, fun x hx => ?_⟩
  obtain ⟨a, b, c⟩ := h.ok.1 x hx
  exact ⟨by omega, by omega, by omega⟩
/-- How the loop of tallied stands. -/
structure TldAt (w : World) (g r : Nat) (k : Int) (l : List ByteArray) (j : Nat) (ec : Int) (wr : World) : Prop where
  box : ∃ v S, BoxH wr g v S ∧ OwnC wr 0 v S.l ∧ (ec = 0 → P.Rep k S (l.take j)) ∧ ∃ x y, v = .slice x S.l.length y
  res : ∃ z sz, BoxH wr r z sz
  bad : ec ≠ 0 → P.Bad k l
  below : Below w.heap.size w wr
/-- What tallied answers. -/
def TldPost (w : World) (k : Int) (l : List ByteArray) (e : Ending) (w' : World) : Prop :=
  ∃ v S ok, e = .returned (.tuple #[aggH v S, .bool ok]) ∧ OwnC w' 0 v S.l ∧ (ok = true → P.Rep k S l) ∧ (ok = false → P.Bad k l) ∧ Below w.heap.size w w'
set_option maxRecDepth 100000 in
set_option maxHeartbeats 4000000 in
theorem tallied_any (k : Int) (v : Value) (l : List ByteArray) (w : World) (hr : RowT w v l) (hl : TxOk l) :
    Calls Try.prog 20 #[.int .i64 k, v] w (TldPost w k l) := by
  obtain ⟨a, cap, rfl, ⟨hlc, hmax, hnn⟩, hcase⟩ := hr
  unfold maxLen at hmax
  have HB := hide ((Below.refl w.heap.size w).alloc (Nat.le_refl _) (.cells #[.int .i64 0, .slice none 0 0, .int .i64 0, .int .i64 0] 24))
  have HZ : Hid (BoxH (w.alloc (.cells #[.int .i64 0, .slice none 0 0, .int .i64 0, .int .i64 0] 24)) w.heap.size (.slice none 0 0) z0) := zero_new w
  have HA := hide (fun v S x wx (h1 : RowC wx v S.l) (h2 : P.Good S) => Add_ok v S x wx h1 h2.hvI h2)
  have HBd := hide (fun v S x wx (h1 : RowC wx v S.l) (h2 : P.Good S) => Add_bad v S x wx h1 h2.hvI)
  obtain ⟨S0, e0, hE⟩ : ∃ (S0 : P.Hv) (e0 : Int), (∀ wx, Calls Try.prog 9 #[.int .i64 k] wx fun e w' => e = .returned (.tuple #[.agg #[.int .i64 S0.k, .slice none 0 0, .int .i64 S0.n, .int .i64 S0.off], .int .i64 e0]) ∧ Below wx.heap.size wx w') ∧ S0.l = [] ∧ (e0 = 0 → P.Rep k S0 []) ∧ (e0 ≠ 0 → P.Bad k l) := by
    by_cases hk : 1 ≤ k ∧ k ≤ 64
    · exact ⟨P.empS k, 0, fun wx => Empty_ok k wx hk, rfl, fun _ => P.rep_emp hk, fun h => absurd rfl h⟩
    · exact ⟨z0, 1, fun wx => Empty_bad k wx hk, rfl, (fun h => by cases h), fun _ => by unfold P.Bad; omega⟩
  obtain ⟨hE, l0, hok, hbad⟩ := hE
  have HE := hide hE
  have HT := hide l0
  have HOk := hide hok
  have HBad := hide hbad
  clear hE l0 hok hbad
  go_enter Try.func20, Try.ntmps20
  go_wp2_with (go_at_call 9; go_must (refine (HE.out _).mono ?_); rintro e w1 ⟨rfl, hb1⟩)
  have z1 := HZ.out.below hb1
  have HAt : Hid (TldAt w w1.heap.size w.heap.size k l 0 e0 (w1.alloc (.cells #[.int .i64 S0.k, .slice none 0 0, .int .i64 S0.n, .int .i64 S0.off] 24))) := by
    refine ⟨⟨_, S0, BoxH.new w1 _ S0, by rw [HT.out]; exact OwnX.nil _ _ _ _ _, fun h => ?_, none, 0, by rw [HT.out]; rfl⟩, ⟨_, _, z1.below ((Below.refl w1.heap.size w1).alloc (Nat.le_refl _) _)⟩, HBad.out, (Below.next HB.out hb1).alloc (Below.next HB.out hb1).size _⟩
    simpa using HOk.out h
  have hgr : w.heap.size < w1.heap.size := z1.lt
  clear hb1 z1 HE HZ HB HOk HBad HT
  generalize w1.heap.size = g at *
  go_loopw [17, 7] (fun i ev wr => ∃ (j : Nat) (ec : Int), j ≤ l.length ∧ i = .int .i64 j ∧ ev = .int .i64 ec ∧ TldAt w g w.heap.size k l j ec wr) (fun i _ _ => l.length - (intOf i).toNat)
  case atStart => exact ⟨0, e0, by omega, rfl, rfl, HAt.out⟩
  case round =>
    obtain ⟨j, ec, hj, rfl, rfl, hR⟩ := hrel
    have HR := hide hR
    obtain ⟨v, S, hbx, hown, hgd, xt, yt, rfl⟩ := hR.box
    obtain ⟨z, sz, hres⟩ := hR.res
    obtain ⟨f0, f1, f2, f3⟩ := hbx.cells
    have HBx := hide hbx
    have HOw := hide hown
    have HGd := hide hgd
    have HRs := hide hres
    have hB := hR.below
    clear hbx hown hgd HAt
    by_cases hlt : j < l.length
    · rcases hcase with h | ⟨b, off, rfl, hbs, hcell⟩
      · rw [h] at hlt; simp at hlt
      obtain ⟨y, hy⟩ : ∃ x, l[j]? = some x := ⟨_, List.getElem?_eq_getElem hlt⟩
      have q0 := (hB.cell (p := ⟨b, off + j, none⟩) hbs).trans (RowT.at hcell hy)
      have j0 : (0 : Int) ≤ (j : Int) := by omega
      have j1 : (j : Int) < (l.length : Int) := by omega
      have hysz := hl y (List.mem_of_getElem? hy)
      have HTk : Hid (l.take (j + 1) = l.take j ++ [y]) := by show _ = _; rw [List.take_add_one, hy]; rfl
      have HMem := hide (List.mem_of_getElem? hy)
      clear hcell hR hB hy
      by_cases hec : ec = 0
      · have hrep := HGd.out hec
        have hd : (ec == 0) = true := by rw [beq_iff_eq]; exact hec
        by_cases hE : P.adE S y = 0
        · have hsh : y.size ≤ 40 ∧ S.n ≠ 1000000000 := by
            unfold P.adE at hE
            rw [if_neg (not_not_intro hrep.good)] at hE
            by_cases hc : 40 < y.size ∨ S.n = 1000000000
            · rw [if_pos hc] at hE; cases hE
            · exact ⟨by omega, fun h => hc (.inr h)⟩
          have HAd := hide (HA.out _ S y wr HOw.out.row hrep.good hsh.1 hsh.2)
          have hrep2 := hrep.ad hsh.1 hsh.2
          rw [← HTk.out] at hrep2
          have HRep := hide hrep2
          clear hrep hrep2 hec hE hsh
          go_wp2_with fail
          refine HAd.out.mono ?_
          rintro e w3 ⟨v3, rfl, own3, p3⟩
          obtain ⟨xt3, yt3, rfl⟩ := own3.shp ctC_len
          have b3 := HBx.out.below p3
          have r3 := HRs.out.below p3
          obtain ⟨c0, c1, c2, c3⟩ := b3.cells
          have u0 := b3.unfrozen 0; have u1 := b3.unfrozen 1; have u2 := b3.unfrozen 2; have u3 := b3.unfrozen 3
          have hfin : TldAt w g w.heap.size k l (j + 1) 0 (setH w3 g (.slice xt3 (P.adH S y).l.length yt3) (P.adH S y)) :=
            ⟨⟨_, _, b3.all _ _, (own3.box b3 (setH_grown _ _ _ _)).base (Nat.zero_le _), fun _ => HRep.out, _, _, rfl⟩, ⟨_, _, r3.other (setH_grown _ _ _ _) (by omega)⟩, fun h => absurd rfl h, Below.setH' (Below.next HR.out.below p3) (by omega) _ _⟩
          have HF := hide hfin
          clear hfin own3 HRep
          generalize P.adH S y = S2 at *
          go_wp2
          go_roundw
          case rel => exact ⟨j + 1, 0, by omega, by go_num, rfl, HF.out⟩
          case measure => simp [intOf]; omega
        · have hbd : P.Bad k l ∧ P.adE S y = 2 := by
            unfold P.adE at hE ⊢
            rw [if_neg (not_not_intro hrep.good)] at hE ⊢
            by_cases hc : 40 < y.size ∨ S.n = 1000000000
            · rw [if_pos hc]
              refine ⟨?_, rfl⟩
              rcases hc with hc | hc
              · exact .inr (.inr (.inl ⟨y, HMem.out, hc⟩))
              · have := hrep.n
                rw [hc, List.length_take] at this
                exact .inr (.inr (.inr (by omega)))
            · rw [if_neg hc] at hE; exact absurd rfl hE
          have HAd := hide (HBd.out _ S y wr HOw.out.row hrep.good hysz 2 hbd.2 (by decide))
          have HBb := hide hbd.1
          clear hrep hec hE hbd
          go_wp2_with fail
          refine HAd.out.mono ?_
          rintro e w3 ⟨rfl, p3⟩
          have b3 := HBx.out.below p3
          have r3 := HRs.out.below p3
          obtain ⟨c0, c1, c2, c3⟩ := b3.cells
          have u0 := b3.unfrozen 0; have u1 := b3.unfrozen 1; have u2 := b3.unfrozen 2; have u3 := b3.unfrozen 3
          have hfin : TldAt w g w.heap.size k l (j + 1) 2 (setH w3 g (.slice none 0 0) z0) :=
            ⟨⟨_, z0, b3.all _ z0, OwnX.nil _ _ _ _ _, (fun h => by cases h), _, _, rfl⟩, ⟨_, _, r3.other (setH_grown _ _ _ _) (by omega)⟩, fun _ => HBb.out, Below.setH' (Below.next HR.out.below p3) (by omega) _ _⟩
          have HF := hide hfin
          clear hfin
          go_wp2
          go_roundw
          case rel => exact ⟨j + 1, 2, by omega, by go_num, rfl, HF.out⟩
          case measure => simp [intOf]; omega
      · have hd : (ec == 0) = false := by rw [beq_eq_false_iff_ne]; exact hec
        have hfin : TldAt w g w.heap.size k l (j + 1) ec wr := ⟨⟨_, S, HBx.out, HOw.out, fun h => absurd h hec, _, _, rfl⟩, ⟨_, _, HRs.out⟩, HR.out.bad, HR.out.below⟩
        have HF := hide hfin
        clear hfin hec
        go_wp2
        go_roundw
        case rel => exact ⟨j + 1, ec, by omega, by go_num, rfl, HF.out⟩
        case measure => simp [intOf]; omega
    · have hd : decide ((j : Int) < (l.length : Int)) = false := by simp; omega
      obtain rfl : j = l.length := by omega
      rw [List.take_length] at HGd
      obtain ⟨c0, c1, c2, c3⟩ := hres.cells
      have u0 := hres.unfrozen 0; have u1 := hres.unfrozen 1; have u2 := hres.unfrozen 2; have u3 := hres.unfrozen 3
      have y6 := hres.all (.slice xt S.l.length yt) S
      have o6 := HOw.out.box hres (setH_grown wr w.heap.size (.slice xt S.l.length yt) S)
      have b6 : Below w.heap.size w (setH wr w.heap.size (.slice xt S.l.length yt) S) := Below.setH' hB (Nat.le_refl _) _ _
      obtain ⟨r0, r1, r2, r3⟩ := y6.cells
      have HBd := hide hR.bad
      clear hR hB
      go_wp2
      refine bodyPost_ret (w := setH wr w.heap.size (.slice xt S.l.length yt) S) (v := .tuple #[aggH (.slice xt S.l.length yt) S, .bool (ec == 0)]) ?_ rfl ⟨_, S, (ec == 0), rfl, o6, fun h => HGd.out (by simpa using h), fun h => HBd.out (by simpa using h), b6⟩
      generalize setH wr w.heap.size (.slice xt S.l.length yt) S = wf at *
      simp [results, Try.results20, go_sem, r0, r1, r2, r3]
end Go.Proofs.Ytcaidfffmllfeaa
