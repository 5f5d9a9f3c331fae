/- What delta.Pack answers. -/
import Derived.Test.YtlejpbghakaooaaDoorDpush
namespace Go.Proofs.YtlejpbghakaooaaDoor
open Go.RowKit
set_option linter.unusedVariables false

theorem u64_wrap (x : Int) : ((P.u64 x : Nat) : Int) = IntKind.u64.wrap x := by
  rw [IntKind.wrap_u64]; unfold P.u64; omega
theorem front_one (l : List Int) (n : Nat) : P.front l n 1 = P.front l n 0 ++ P.ofVal (P.u64 (l.getD 0 0)) 64 := by
  rw [P.front_succ]; rfl
theorem front_next (l : List Int) (n j : Nat) (h : 0 < j) : P.front l n (j + 1) = P.front l n j ++ P.chg (wrap64 (wrap64 (l.getD j 0 - P.lst l j) - P.stp l j)) := by
  rw [P.front_succ]
  unfold P.tb P.cg P.lst
  rw [if_neg (by omega), if_neg (by omega)]
theorem lst_next (l : List Int) (j : Nat) : P.lst l (j + 1) = l.getD j 0 := by unfold P.lst; simp
theorem stp_next (l : List Int) (j : Nat) (h : 0 < j) : P.stp l (j + 1) = wrap64 (l.getD j 0 - P.lst l j) := by
  unfold P.stp P.lst
  rw [if_neg (by omega), if_neg (by omega)]
  have e : j + 1 - 2 = j - 1 := by omega
  rw [e]; simp
theorem stp_one (l : List Int) : P.stp l 1 = P.stp l 0 := by unfold P.stp; simp

theorem pack_large (v : Value) (l : List Int) (w : World) (hr : RowK .i64 w v l) (hn : 1000 < l.length) :
    Calls Tryd.prog 9 #[v] w fun e w' => e = .returned (.tuple #[noBits, .int .i64 2]) ∧ Below w.heap.size w w' := by
  obtain ⟨a, cap, rfl, ⟨hlc, hmax, hnn⟩, hcase⟩ := hr
  unfold maxLen at hmax
  clear hcase
  go_enter Tryd.func9, Tryd.ntmps9
  go_wp2
  exact bodyPost_ret (v := .tuple #[noBits, .int .i64 2]) (by simp [results, Tryd.results9, go_sem]) rfl ⟨rfl, (Below.refl _ _).alloc (Nat.le_refl _) _⟩

set_option maxHeartbeats 2000000 in
theorem pack_any (v : Value) (l : List Int) (w : World) (hr : RowK .i64 w v l) (hi : P.I64 l) (hn : l.length ≤ 1000) (hs : Shp w) :
    Calls Tryd.prog 9 #[v] w fun e w' =>
      ∃ vy, e = .returned (.tuple #[.agg #[vy, .int .i64 ((P.packT l).length : Nat)], .int .i64 0]) ∧ OwnB w' w.heap.size vy (P.pack (P.packT l)) ∧ Below w.heap.size w w' := by
  obtain ⟨a, cap, rfl, ⟨hlc, hmax, hnn⟩, hcase⟩ := hr
  unfold maxLen at hmax
  have HF : Hid (P.packT l = P.front l l.length l.length) := rfl
  generalize P.packT l = res at HF ⊢
  have HP0 : Hid (∀ w : World, Calls Tryd.prog 22 #[noBits, .int .u64 l.length, .int .i64 16] w fun e w' =>
      ∃ vy, e = .returned (.agg #[vy, .int .i64 ((P.front l l.length 0).length : Nat)]) ∧ OwnB w' w.heap.size vy (P.pack (P.front l l.length 0)) ∧ Below w.heap.size w w') := by
    intro w
    have h := dpush_ok (.slice none 0 0) [] l.length 16 w ⟨none, 0, rfl, ⟨by simp [P.pack, P.packTo, P.bytesN], by simp, fun _ => rfl⟩, .inl rfl⟩ (by decide) (by omega) (by omega) (by simp)
    rw [P.front_zero, P.ofVal_len]
    exact h
  have HP1 : Hid (∀ (v : Value) (w : World), RowB w v (P.pack (P.front l l.length 0)) → Calls Tryd.prog 22 #[.agg #[v, .int .i64 (P.front l l.length 0).length], .int .u64 (IntKind.u64.wrap (l.getD 0 0)), .int .i64 64] w fun e w' =>
      ∃ vy, e = .returned (.agg #[vy, .int .i64 ((P.front l l.length 1).length : Nat)]) ∧ OwnB w' w.heap.size vy (P.pack (P.front l l.length 1)) ∧ Below w.heap.size w w') := by
    intro v w hr
    have hu := P.u64_lt (l.getD 0 0)
    have hle := P.front_le l l.length 0
    have h := dpush_ok v (P.front l l.length 0) (P.u64 (l.getD 0 0)) 64 w hr (by decide) (by omega) (by simpa using hu) (by omega)
    rw [u64_wrap, ← front_one] at h
    rw [front_one, List.length_append, P.ofVal_len, ← front_one]
    exact h
  have HP2 : Hid (∀ (j : Nat), 0 < j → j < l.length → ∀ (v : Value) (w : World), RowB w v (P.pack (P.front l l.length j)) → Shp w → Calls Tryd.prog 23 #[.agg #[v, .int .i64 (P.front l l.length j).length], .int .i64 (wrap64 (wrap64 (l.getD j 0 - P.lst l j) - P.stp l j))] w fun e w' =>
      ∃ vy, e = .returned (.agg #[vy, .int .i64 ((P.front l l.length (j + 1)).length : Nat)]) ∧ OwnB w' w.heap.size vy (P.pack (P.front l l.length (j + 1))) ∧ Below w.heap.size w w') := by
    intro j hj hjl v w hr hs
    have hle := P.front_le l l.length j
    have h := pushChange_ok v (P.front l l.length j) _ w hr (P.wrap64_lo (wrap64 (l.getD j 0 - P.lst l j) - P.stp l j)) (P.wrap64_hi _) (by omega) hs
    rw [← front_next l l.length j hj] at h
    exact h
  go_enter Tryd.func9, Tryd.ntmps9
  go_wp2_with (go_at_call 22; go_must (refine (HP0.out _).mono ?_); rintro e w3 ⟨vy, rfl, hown, hb2⟩; obtain ⟨ay, capy, hvy⟩ := hown.shp; rw [hvy] at hown ⊢; clear hvy; have hs3 := hb2.size; obtain ⟨hc0, hc1, hb, hsz⟩ := box2 hb2; have hf0 : w3.frozen? ⟨w.heap.size, 0, none⟩ = false := (hb2.frozen (p := ⟨w.heap.size, 0, none⟩) (by simp)).trans (by simp); have hf1 : w3.frozen? ⟨w.heap.size, 1, none⟩ = false := (hb2.frozen (p := ⟨w.heap.size, 1, none⟩) (by simp)).trans (by simp); clear hb2)
  generalize hW4 : World.alloc w3 _ = W4
  have x0 : W4.cell? ⟨w3.heap.size, 0, none⟩ = some (.slice ay (P.pack (P.front l l.length 0)).length capy) := by rw [← hW4]; simp
  have x1 : W4.cell? ⟨w3.heap.size, 1, none⟩ = some (.int .i64 (P.front l l.length 0).length) := by rw [← hW4]; simp
  have xf0 : W4.frozen? ⟨w3.heap.size, 0, none⟩ = false := by rw [← hW4]; simp
  have xf1 : W4.frozen? ⟨w3.heap.size, 1, none⟩ = false := by rw [← hW4]; simp
  have hbA : Below w3.heap.size w3 W4 := by rw [← hW4]; exact (Below.refl _ _).alloc (Nat.le_refl _) _
  have z0 := keep_cell hc0 hbA
  have z1 := keep_cell hc1 hbA
  have g0 := (hbA.frozen (p := ⟨w.heap.size, 0, none⟩) hsz).trans hf0
  have g1 := (hbA.frozen (p := ⟨w.heap.size, 1, none⟩) hsz).trans hf1
  have hbW : Below w.heap.size w W4 := Below.next hb hbA
  have ho4 : OwnB W4 (w.heap.size + 1) (.slice ay (P.pack (P.front l l.length 0)).length capy) (P.pack (P.front l l.length 0)) := OwnB.base (OwnB.below hown hbA (Nat.le_refl _)) (by simp)
  have hlt3 : w3.heap.size < W4.heap.size := by rw [← hW4]; simp
  have hne : w3.heap.size ≠ w.heap.size := by omega
  clear hW4 hc0 hc1 hf0 hf1 hbA hs3 hb hown HP0
  go_loopw [5, 6, 20] (fun la st i wr => ∃ (j : Nat) (ax : Option Addr) (cx : Nat), j ≤ l.length ∧ i = .int .i64 j ∧ la = .int .i64 (P.lst l j) ∧ st = .int .i64 (P.stp l j) ∧
      wr.cell? ⟨w3.heap.size, 0, none⟩ = some (.slice ax (P.pack (P.front l l.length j)).length cx) ∧ wr.cell? ⟨w3.heap.size, 1, none⟩ = some (.int .i64 (P.front l l.length j).length) ∧
      OwnB wr (w.heap.size + 1) (.slice ax (P.pack (P.front l l.length j)).length cx) (P.pack (P.front l l.length j)) ∧
      wr.frozen? ⟨w3.heap.size, 0, none⟩ = false ∧ wr.frozen? ⟨w3.heap.size, 1, none⟩ = false ∧ wr.cell? ⟨w.heap.size, 0, none⟩ = some (.slice none 0 0) ∧ wr.cell? ⟨w.heap.size, 1, none⟩ = some (.int .i64 0) ∧
      wr.frozen? ⟨w.heap.size, 0, none⟩ = false ∧ wr.frozen? ⟨w.heap.size, 1, none⟩ = false ∧ Below w.heap.size w wr) (fun _ _ i _ => l.length - (intOf i).toNat)
  case atStart => exact ⟨0, ay, capy, by omega, rfl, rfl, rfl, x0, x1, ho4, xf0, xf1, z0, z1, g0, g1, hbW⟩
  case round =>
    clear x0 x1 ho4 xf0 xf1 z0 z1 g0 g1 hbW hlt3
    obtain ⟨j, ax, cx, hj, rfl, rfl, rfl, x0, x1, ho, xf0, xf1, z0, z1, g0, g1, hb⟩ := hrel
    have hsx := World.block_lt_of_cell? _ _ x0
    simp only at hsx
    by_cases hlt : j < l.length
    · rcases hcase with h0 | ⟨b, off, rfl, hbs, hcell⟩
      · rw [h0] at hlt; simp at hlt
      have hc := (hb.cell (p := ⟨b, off + j, none⟩) hbs).trans (hcell j hlt)
      have j0 : (0 : Int) ≤ (j : Int) := by omega
      have j1 : (j : Int) < (l.length : Int) := by omega
      by_cases hz : j = 0
      · subst hz
        rw [Nat.add_zero] at hc
        have HS := hide (stp_one l)
        have HL := hide (lst_next l 0)
        generalize l.getD 0 0 = t at hc HP1 HL
        generalize P.stp l 0 = st at HS
        generalize P.lst l 0 = la
        generalize hxs : P.front l l.length 0 = xs at x0 x1 ho HP1
        generalize hys : P.front l l.length (0 + 1) = ys at HP1
        have HY := hide hys
        clear hys hxs
        go_wp2_with (go_at_call 22; go_must (refine (HP1.out _ _ ho.row).mono ?_); rintro e w5 ⟨vy, rfl, hown, hb2⟩; obtain ⟨aw, cw, hvy⟩ := hown.shp; rw [hvy] at hown ⊢; clear hvy; have hb5 := Below.next hb hb2; have x0' := keep_cell x0 hb2; have x1' := keep_cell x1 hb2; have z0' := keep_cell z0 hb2; have z1' := keep_cell z1 hb2; have xf0' := (hb2.frozen (p := ⟨w3.heap.size, 0, none⟩) hsx).trans xf0; have xf1' := (hb2.frozen (p := ⟨w3.heap.size, 1, none⟩) hsx).trans xf1; have g0' := (hb2.frozen (p := ⟨w.heap.size, 0, none⟩) (by simp; omega)).trans g0; have g1' := (hb2.frozen (p := ⟨w.heap.size, 1, none⟩) (by simp; omega)).trans g1; clear hb2)
        go_roundw
        case rel =>
          refine ⟨0 + 1, aw, cw, by omega, by go_num, by rw [HL.out], by rw [HS.out], ?_, ?_, ?_, (World.frozen?_setCell _ _ _ _).trans ((World.frozen?_setCell _ _ _ _).trans xf0'), (World.frozen?_setCell _ _ _ _).trans ((World.frozen?_setCell _ _ _ _).trans xf1'),
            (World.cell?_setCell_other _ _ _ _ (by first | simp | simp [hne])).trans ((World.cell?_setCell_other _ _ _ _ (by first | simp | simp [hne])).trans z0'), (World.cell?_setCell_other _ _ _ _ (by first | simp | simp [hne])).trans ((World.cell?_setCell_other _ _ _ _ (by first | simp | simp [hne])).trans z1'),
            (World.frozen?_setCell _ _ _ _).trans ((World.frozen?_setCell _ _ _ _).trans g0'), (World.frozen?_setCell _ _ _ _).trans ((World.frozen?_setCell _ _ _ _).trans g1'), (hb5.setCell (by simp; omega) _).setCell (by simp; omega) _⟩
          · rw [HY.out]; exact (World.cell?_setCell_other _ _ _ _ (by simp)).trans (World.cell?_setCell_same _ _ _ x0')
          · rw [HY.out]; exact World.cell?_setCell_same _ _ _ ((World.cell?_setCell_other _ _ _ _ (by simp)).trans x1')
          · rw [HY.out]; exact OwnB.base (ownsRow_setCell_below (ownsRow_setCell_below hown (by simp; omega) _) (by simp; omega) _) (by omega)
        case measure => simp [intOf]; omega
      · have hjp : 0 < j := by omega
        have hjz : ((j : Int) == 0) = false := by simp; omega
        have HS := hide (stp_next l j hjp)
        have HL := hide (lst_next l j)
        have HC := hide (HP2.out j hjp hlt)
        have hsh : Shp wr := hs.next hb
        generalize l.getD j 0 = t at hc HC HL HS
        generalize P.stp l j = st at HC
        generalize P.lst l j = la at HC HS
        generalize P.front l l.length j = xs at x0 x1 ho HC
        generalize hys : P.front l l.length (j + 1) = ys at HC
        have HY := hide hys
        clear hys hz HP2 HP1
        go_wp2_with (go_at_call 23; go_must (refine (HC.out _ _ ho.row hsh).mono ?_); rintro e w5 ⟨vy, rfl, hown, hb2⟩; obtain ⟨aw, cw, hvy⟩ := hown.shp; rw [hvy] at hown ⊢; clear hvy; have hb5 := Below.next hb hb2; have x0' := keep_cell x0 hb2; have x1' := keep_cell x1 hb2; have z0' := keep_cell z0 hb2; have z1' := keep_cell z1 hb2; have xf0' := (hb2.frozen (p := ⟨w3.heap.size, 0, none⟩) hsx).trans xf0; have xf1' := (hb2.frozen (p := ⟨w3.heap.size, 1, none⟩) hsx).trans xf1; have g0' := (hb2.frozen (p := ⟨w.heap.size, 0, none⟩) (by simp; omega)).trans g0; have g1' := (hb2.frozen (p := ⟨w.heap.size, 1, none⟩) (by simp; omega)).trans g1; clear hb2)
        go_roundw
        case rel =>
          refine ⟨j + 1, aw, cw, by omega, by go_num, by rw [HL.out], by rw [HS.out], ?_, ?_, ?_, (World.frozen?_setCell _ _ _ _).trans ((World.frozen?_setCell _ _ _ _).trans xf0'), (World.frozen?_setCell _ _ _ _).trans ((World.frozen?_setCell _ _ _ _).trans xf1'),
            (World.cell?_setCell_other _ _ _ _ (by first | simp | simp [hne])).trans ((World.cell?_setCell_other _ _ _ _ (by first | simp | simp [hne])).trans z0'), (World.cell?_setCell_other _ _ _ _ (by first | simp | simp [hne])).trans ((World.cell?_setCell_other _ _ _ _ (by first | simp | simp [hne])).trans z1'),
            (World.frozen?_setCell _ _ _ _).trans ((World.frozen?_setCell _ _ _ _).trans g0'), (World.frozen?_setCell _ _ _ _).trans ((World.frozen?_setCell _ _ _ _).trans g1'), (hb5.setCell (by simp; omega) _).setCell (by simp; omega) _⟩
          · rw [HY.out]; exact (World.cell?_setCell_other _ _ _ _ (by simp)).trans (World.cell?_setCell_same _ _ _ x0')
          · rw [HY.out]; exact World.cell?_setCell_same _ _ _ ((World.cell?_setCell_other _ _ _ _ (by simp)).trans x1')
          · rw [HY.out]; exact OwnB.base (ownsRow_setCell_below (ownsRow_setCell_below hown (by simp; omega) _) (by simp; omega) _) (by omega)
        case measure => simp [intOf]; omega
    · obtain rfl : j = l.length := by omega
      have hd : decide ((l.length : Int) < (l.length : Int)) = false := by simp
      rw [← HF.out] at x0 x1 ho
      go_wp2
      refine bodyPost_ret (v := .tuple #[.agg #[.slice ax (P.pack res).length cx, .int .i64 (res.length : Nat)], .int .i64 0]) (by simp [results, Tryd.results9, go_sem, z0, z1]) rfl ⟨_, rfl, ?_, (hb.setCell (by simp) _).setCell (by simp) _⟩
      exact OwnB.base (ownsRow_setCell_below (ownsRow_setCell_below ho (by simp) _) (by simp) _) (by omega)
end Go.Proofs.YtlejpbghakaooaaDoor
