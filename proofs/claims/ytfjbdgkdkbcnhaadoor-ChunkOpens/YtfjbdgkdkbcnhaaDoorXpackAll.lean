/- Several texts in one. -/
import Derived.Test.YtfjbdgkdkbcnhaaDoorPlainAll
import Derived.Test.YtfjbdgkdkbcnhaaDoorXptAll
/- What xor.Pack answers. -/
namespace Go.Proofs.YtfjbdgkdkbcnhaaDoor
open P
namespace X
open Go.RowKit
set_option linter.unusedVariables false
set_option linter.unusedSimpArgs false

theorem front_one (l : List Int) (n : Nat) : P.front l n 1 = P.front l n 0 ++ P.ofVal (l.getD 0 0).toNat 64 := by
  rw [P.front_succ]; rfl
theorem front_next (l : List Int) (n j : Nat) (h : 0 < j) : P.front l n (j + 1) = P.front l n j ++ P.tbits (P.win l j) (P.tn l j) := by
  rw [P.front_succ]
  unfold P.tb
  rw [if_neg (by omega)]
theorem win_next (l : List Int) (j : Nat) (h : 0 < j) : P.win l (j + 1) = P.nw (P.win l j) (P.tn l j) := by
  have e : P.win l (j + 1) = if j = 0 then (64, 64) else P.nw (P.win l j) (P.tn l j) := by rw [P.win]
  rw [e, if_neg (by omega)]
theorem win_one (l : List Int) : P.win l 1 = P.win l 0 := rfl
theorem _root_.Go.Proofs.YtfjbdgkdkbcnhaaDoor.RowK.drew {k : IntKind} {w : World} {v : Value} {l : List Int} (h : RowK k w v l) : RowK k w.drew v l := h
theorem Tab.drew {w : World} (h : Tab w) : Tab w.drew := h
theorem tn_bits (l : List Int) (h : P.U64 l) (j : Nat) : bits BinOp.xor IntKind.u64 (l.getD j 0) (l.getD (j - 1) 0) = ((P.tn l j : Nat) : Int) := by
  have h1 := h.at j
  have h2 := h.at (j - 1)
  exact u64_xor _ _ h1.1 (by omega) h2.1 (by omega)

theorem pack_large (v : Value) (l : List Int) (w : World) (hr : RowK .u64 w v l) (hn : 1000 < l.length) :
    Calls Tryd.prog 19 #[v] w fun e w' => e = .returned (.tuple #[noBits, .int .i64 2]) ∧ Below w.heap.size w w' := by
  obtain ⟨a, cap, rfl, ⟨hlc, hmax, hnn⟩, hcase⟩ := hr
  unfold maxLen at hmax
  clear hcase
  go_enter Tryd.func19, Tryd.ntmps19
  go_wp2
  exact bodyPost_ret (v := .tuple #[noBits, .int .i64 2]) (by simp [results, Tryd.results19, go_sem]) rfl ⟨rfl, (Below.refl _ _).alloc (Nat.le_refl _) _⟩

set_option maxHeartbeats 8000000 in
theorem pack_any (v : Value) (l : List Int) (w : World) (hr : RowK .u64 w v l) (hi : P.U64 l) (hn : l.length ≤ 1000) (ht : Tab w) :
    Calls Tryd.prog 19 #[v] w fun e w' =>
      ∃ vy, e = .returned (.tuple #[.agg #[vy, .int .i64 ((P.packT l).length : Nat)], .int .i64 0]) ∧ OwnB w' w.heap.size vy (P.pack (P.packT l)) ∧ Below w.heap.size w w' := by
  obtain ⟨a, cap, rfl, ⟨hlc, hmax, hnn⟩, hcase⟩ := hr
  unfold maxLen at hmax
  have HF : Hid (P.packT l = P.front l l.length l.length) := rfl
  generalize P.packT l = res at HF ⊢
  have HP0 : Hid (∀ w : World, Calls Tryd.prog 39 #[noBits, .int .u64 l.length, .int .i64 16] w fun e w' =>
      ∃ vy, e = .returned (.agg #[vy, .int .i64 ((P.front l l.length 0).length : Nat)]) ∧ OwnB w' w.heap.size vy (P.pack (P.front l l.length 0)) ∧ Below w.heap.size w w') := by
    intro w
    have h := xpush_ok (.slice none 0 0) [] l.length 16 w ⟨none, 0, rfl, ⟨by simp [P.pack, P.packTo, P.bytesN], by simp, fun _ => rfl⟩, .inl rfl⟩ (by decide) (by omega) (by omega) (by simp)
    rw [P.front_zero, P.ofVal_len]
    exact h
  have HP1 : Hid (∀ (v : Value) (w : World), RowB w v (P.pack (P.front l l.length 0)) → Calls Tryd.prog 39 #[.agg #[v, .int .i64 (P.front l l.length 0).length], .int .u64 (l.getD 0 0), .int .i64 64] w fun e w' =>
      ∃ vy, e = .returned (.agg #[vy, .int .i64 ((P.front l l.length 1).length : Nat)]) ∧ OwnB w' w.heap.size vy (P.pack (P.front l l.length 1)) ∧ Below w.heap.size w w') := by
    intro v w hr
    have hu := hi.at 0
    have hle := P.front_le l l.length 0
    have h := xpush_bits v (P.front l l.length 0) (l.getD 0 0).toNat 64 w hr (by decide) (by omega) (by omega) (by omega)
    rw [Int.toNat_of_nonneg hu.1, ← front_one] at h
    exact h
  have HP2 : Hid (∀ (j : Nat), 0 < j → j < l.length → ∀ (v : Value) (w : World), RowB w v (P.pack (P.front l l.length j)) → Tab w → Calls Tryd.prog 41 #[.agg #[v, .int .i64 (P.front l l.length j).length], .int .u64 (bits BinOp.xor IntKind.u64 (l.getD j 0) (l.getD (j - 1) 0)), winV (P.win l j).1 (P.win l j).2] w fun e w' =>
      ∃ vy, e = .returned (.tuple #[.agg #[vy, .int .i64 ((P.front l l.length (j + 1)).length : Nat)], winV (P.win l (j + 1)).1 (P.win l (j + 1)).2]) ∧ OwnB w' w.heap.size vy (P.pack (P.front l l.length (j + 1))) ∧ Below w.heap.size w w') := by
    intro j hj hjl v w hr ht
    have hle := P.front_le l l.length j
    have h := pushTurn_any v (P.front l l.length j) (P.tn l j) (P.win l j) w hr (by omega) (P.tn_lt hi j) ht
    rw [← front_next l l.length j hj, ← win_next l j hj, ← tn_bits l hi j] at h
    exact h
  go_enter Tryd.func19, Tryd.ntmps19
  go_wp2_with fail
  refine (HP0.out _).mono ?_
  rintro e w3 ⟨vy, rfl, hown, hb2⟩
  obtain ⟨ay, capy, hvy⟩ := hown.shp
  rw [hvy] at hown ⊢
  clear hvy HP0
  have hR := (B2.new w (.slice none 0 0) (.int .i64 0) 43).next hb2
  have hb3 := (box2 hb2).2.2.1
  have hl3 := hR.lt
  have hX := B2.new w3 (.slice ay (P.pack (P.front l l.length 0)).length capy) (.int .i64 (P.front l l.length 0).length) 43
  have hR4 := hR.alloc (.cells #[.slice ay (P.pack (P.front l l.length 0)).length capy, .int .i64 (P.front l l.length 0).length] 43)
  have hb4 := below_alloc hb3 (.cells #[.slice ay (P.pack (P.front l l.length 0)).length capy, .int .i64 (P.front l l.length 0).length] 43)
  have ho4 := OwnB.below hown ((Below.refl _ _).alloc (Nat.le_refl _) (.cells #[.slice ay (P.pack (P.front l l.length 0)).length capy, .int .i64 (P.front l l.length 0).length] 43)) (Nat.le_refl _)
  clear hb2 hR hb3 hown
  go_wp2_with fail
  generalize World.alloc w3 _ = W4 at hX hR4 hb4 ho4 ⊢
  refine (noWindow_any _).mono ?_
  rintro e w5 ⟨rfl, hb5⟩
  have hX5 := hX.next hb5
  have hR5 := hR4.next hb5
  have hbw5 := Below.next hb4 hb5
  have ho5 := OwnB.below ho4 hb5 (Nat.le_refl _)
  have hl5 := hX5.lt
  have hP := B2.new w5 (.int .i64 64) (.int .i64 64) 76
  have hX6 := hX5.alloc (.cells #[.int .i64 64, .int .i64 64] 76)
  have hR6 := hR5.alloc (.cells #[.int .i64 64, .int .i64 64] 76)
  have hb6 := below_alloc hbw5 (.cells #[.int .i64 64, .int .i64 64] 76)
  have ho6 := OwnB.below ho5 ((Below.refl _ _).alloc (Nat.le_refl _) (.cells #[.int .i64 64, .int .i64 64] 76)) (Nat.le_refl _)
  clear hb5 hX hR4 hb4 ho4 hX5 hR5 hbw5 ho5
  go_wp2_with fail
  generalize World.alloc w5 _ = W6 at hP hX6 hR6 hb6 ho6 ⊢
  have hbase : w.heap.size + 1 ≤ (w.alloc (.cells #[.slice none 0 0, .int .i64 0] 43)).heap.size := by simp
  go_loopw [20] (fun i wr => ∃ (j : Nat) (ax : Option Addr) (cx : Nat), j ≤ l.length ∧ i = .int .i64 j ∧ B2 wr w3.heap.size (.slice ax (P.pack (P.front l l.length j)).length cx) (.int .i64 (P.front l l.length j).length) ∧
      B2 wr w5.heap.size (.int .i64 (P.win l j).1) (.int .i64 (P.win l j).2) ∧ B2 wr w.heap.size (.slice none 0 0) (.int .i64 0) ∧ OwnB wr (w.heap.size + 1) (.slice ax (P.pack (P.front l l.length j)).length cx) (P.pack (P.front l l.length j)) ∧ Below w.heap.size w wr) (fun i _ => l.length - (intOf i).toNat)
  case atStart => exact ⟨0, ay, capy, by omega, rfl, hX6, hP, hR6, ho6.base hbase, hb6⟩
  case round =>
    clear hP hX6 hR6 hb6 ho6 hbase
    obtain ⟨j, ax, cx, hj, rfl, hX, hP, hR, ho, hb⟩ := hrel
    have hlX := hX.lt
    have hlP := hP.lt
    by_cases hlt : j < l.length
    · rcases hcase with h0 | ⟨b, off, rfl, hbs, hcell⟩
      · rw [h0] at hlt; simp at hlt
      have hc := (hb.cell (p := ⟨b, off + j, none⟩) hbs).trans (hcell j hlt)
      have j0 : (0 : Int) ≤ (j : Int) := by omega
      have j1 : (j : Int) < (l.length : Int) := by omega
      by_cases hz : j = 0
      · subst hz
        rw [Nat.add_zero] at hc
        have HW1 := hide (win_one l)
        generalize l.getD 0 0 = t at hc HP1
        generalize P.win l 0 = p0 at hP HW1
        generalize hxs : P.front l l.length 0 = xs at hX ho HP1
        generalize hys : P.front l l.length (0 + 1) = ys at HP1
        have HY := hide hys
        clear hys hxs
        obtain ⟨x0, x1, xf0, xf1⟩ := id hX
        go_wp2_with fail
        refine (HP1.out _ _ ho.row).mono ?_
        rintro e w7 ⟨vy, rfl, hown, hb2⟩
        obtain ⟨aw, cw, hvy⟩ := hown.shp
        rw [hvy] at hown ⊢
        clear hvy x0 x1 xf0 xf1
        have hX7 := hX.next hb2
        have hP7 := hP.next hb2
        have hR7 := hR.next hb2
        have hb7 := Below.next hb hb2
        clear hb2
        obtain ⟨x0, x1, xf0, xf1⟩ := id hX7
        go_wp2
        go_roundw
        case rel =>
          refine ⟨0 + 1, aw, cw, by omega, by go_num, ?_, ?_, hR7.other (by omega) _ _, ?_, below_set2 hb7 (by omega) _ _⟩
          · rw [HY.out]; exact hX7.set _ _
          · rw [HW1.out]; exact hP7.other (by omega) _ _
          · rw [HY.out]; exact OwnB.base (own_set2 hown hlX _ _) (by omega)
        case measure => simp [intOf]; omega
      · have hjp : 0 < j := by omega
        have hjz : ((j : Int) == 0) = false := by simp; omega
        have HC := hide (HP2.out j hjp hlt)
        have htr : Tab wr := ht.next hb
        have hc1 := (hb.cell (p := ⟨b, off + (j - 1), none⟩) hbs).trans (hcell (j - 1) (by omega))
        have hwr : IntKind.i64.wrap ((j : Int) - 1) = ((j - 1 : Nat) : Int) := by rw [IntKind.wrap_i64]; omega
        have k0 : (0 : Int) ≤ ((j - 1 : Nat) : Int) := by omega
        have k1 : ((j - 1 : Nat) : Int) < (l.length : Int) := by omega
        generalize l.getD j 0 = t at hc HC
        generalize l.getD (j - 1) 0 = t1 at hc1 HC
        generalize j - 1 = i1 at hwr k0 k1 hc1
        generalize P.win l j = p0 at hP HC
        generalize hp1 : P.win l (j + 1) = p1 at HC
        generalize P.front l l.length j = xs at hX ho HC
        generalize hys : P.front l l.length (j + 1) = ys at HC
        have HY := hide hys
        have HW1 := hide hp1
        clear hys hp1 hz HP2 HP1 hcell
        go_wp2_with fail
        have hoR := ho.row
        have hoR1 := RowK.drew hoR
        have htr1 := htr.drew
        have hX1 := hX.drew
        have hP1 := hP.drew
        have hR1 := hR.drew
        have hb1 := hb.drew
        obtain ⟨x0, x1, xf0, xf1⟩ := id hX
        obtain ⟨y0, y1, yf0, yf1⟩ := id hP
        go_region_with (first
          | (go_at_call 41; go_must (refine (HC.out _ _ hoR1 htr1).mono ?_); rintro e w7 ⟨vy, rfl, hown, hb2⟩; obtain ⟨aw, cw, hvy⟩ := hown.shp; rw [hvy] at hown ⊢; clear hvy; have hX7 := hX1.next hb2; have hP7 := hP1.next hb2; have hR7 := hR1.next hb2; have hb7 := Below.next hb1 hb2; have hs7 := hb2.size; obtain ⟨x0', x1', xf0', xf1'⟩ := id hX7; obtain ⟨y0', y1', yf0', yf1'⟩ := id hP7))
        all_goals
          go_wp2
          go_roundw
          case rel =>
            have hs8 : wr.heap.size ≤ w7.heap.size := hs7
            refine ⟨j + 1, aw, cw, by omega, by go_num, ?_, ?_, ?_, ?_, ?_⟩
            · rw [HY.out]; exact (hX7.set _ _).other (by omega) _ _
            · rw [HW1.out]; exact (hP7.other (by omega) _ _).set _ _
            · exact (hR7.other (by omega) _ _).other (by omega) _ _
            · rw [HY.out]; exact OwnB.base (own_set2 (own_set2 hown hlX _ _) hlP _ _) (by show w.heap.size + 1 ≤ wr.heap.size; omega)
            · exact below_set2 (below_set2 hb7 (by omega) _ _) (by omega) _ _
          case measure => simp [intOf]; omega
    · obtain rfl : j = l.length := by omega
      have hd : decide ((l.length : Int) < (l.length : Int)) = false := by simp
      rw [← HF.out] at hX ho
      obtain ⟨x0, x1, xf0, xf1⟩ := id hX
      obtain ⟨z0, z1, zf0, zf1⟩ := id hR
      go_wp2
      refine bodyPost_ret (v := .tuple #[.agg #[.slice ax (P.pack res).length cx, .int .i64 (res.length : Nat)], .int .i64 0]) (by simp [results, Tryd.results19, go_sem, z0, z1]) rfl ⟨_, rfl, ?_, below_set2 hb (Nat.le_refl _) _ _⟩
      exact OwnB.base (own_set2 ho (by omega) _ _) (by omega)
end X
end Go.Proofs.YtfjbdgkdkbcnhaaDoor
