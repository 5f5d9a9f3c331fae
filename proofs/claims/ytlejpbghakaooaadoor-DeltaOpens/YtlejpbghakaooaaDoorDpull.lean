/- What delta.pullShape and delta.pullChange answer. -/
import Derived.Test.YtlejpbghakaooaaDoorDeltaQ
import Derived.Test.YtlejpbghakaooaaDoorDpush
namespace Go.Proofs.YtlejpbghakaooaaDoor
open Go.RowKit
set_option linter.unusedVariables false

theorem bit_drop (bs : List Bool) (p j : Nat) : P.bit (bs.drop p) j = P.bit bs (p + j) := by
  unfold P.bit; rw [List.getD_eq_getElem?_getD, List.getD_eq_getElem?_getD, List.getElem?_drop]
/-- One bit is pulled. -/
theorem pull_bit (v : Value) (bs : List Bool) (p j : Nat) (w : World) (hr : RowB w v (P.pack bs)) (n1 : (bs.length : Int) ≤ 9223372036854775807) (h : j < (bs.drop p).length) :
    Calls Tryd.prog 35 #[.agg #[v, .int .i64 bs.length], .int .i64 ((p : Int) + (j : Int)), .int .i64 1] w fun e w' => e = .returned (.tuple #[.int .u64 (P.bit (bs.drop p) j : Nat), .int .i64 0]) ∧ Below w.heap.size w w' := by
  rw [List.length_drop] at h
  have h1 := pull_ok v bs (p + j) 1 w hr n1 (by decide) (by omega)
  have e : P.val ((bs.drop (p + j)).take 1) = P.bit (bs.drop p) j := by
    have h2 := P.val_take bs (p + j) 0 (by omega)
    rw [bit_drop]
    simpa [P.val] using h2
  rw [e, Int.natCast_add] at h1
  exact h1
/-- No bit is there. -/
theorem pull_none (v : Value) (bs : List Bool) (p j k : Nat) (w : World) (hr : RowB w v (P.pack bs)) (n1 : (bs.length : Int) ≤ 9223372036854775807) (hp : p ≤ bs.length) (hj : j ≤ 100) (hk : k ≤ 64) (n2 : (bs.length : Int) ≤ 9223372036854775000) (h : (bs.drop p).length < j + k) :
    Calls Tryd.prog 35 #[.agg #[v, .int .i64 bs.length], .int .i64 ((p : Int) + (j : Int)), .int .i64 k] w fun e w' => e = .returned (.tuple #[.int .u64 0, .int .i64 3]) ∧ Below w.heap.size w w' := by
  rw [List.length_drop] at h
  exact pull_short v _ _ _ _ w hr (P.pack_byt _ bs) n1 (P.pack_ok bs) (by omega) (by omega) (by omega) (by omega) (by omega)

def shape0 : Value := .agg #[.int .u64 0, .int .i64 0, .int .i64 0]
set_option maxHeartbeats 1000000 in
theorem pullShape_any (v : Value) (bs : List Bool) (p : Nat) (w : World) (hr : RowB w v (P.pack bs)) (n1 : (bs.length : Int) ≤ 9223372036854775000) (hp : p ≤ bs.length) (hs : Shp w) :
    Calls Tryd.prog 41 #[.agg #[v, .int .i64 bs.length], .int .i64 p] w fun e w' => Below w.heap.size w w' ∧
      ((∃ k, P.Head (bs.drop p) k ∧ e = .returned (.tuple #[shapeV k, .int .i64 0])) ∨ ((∀ k, ¬ P.Head (bs.drop p) k) ∧ e = .returned (.tuple #[shape0, .int .i64 3]))) := by
  have HB := hide (fun (j : Nat) (h : j < (bs.drop p).length) (w : World) (hr : RowB w v (P.pack bs)) => pull_bit v bs p j w hr (by omega) h)
  have HN := hide (fun (j : Nat) (hj : j ≤ 4) (h : (bs.drop p).length ≤ j) (w : World) (hr : RowB w v (P.pack bs)) => pull_none v bs p j 1 w hr (by omega) hp (by omega) (by decide) n1 (by omega))
  generalize bs.drop p = X at HB HN ⊢
  generalize hW : (w.alloc (.cells #[v, .int .i64 bs.length] 25)).alloc (.cells #[.int .u64 0, .int .i64 0, .int .i64 0] 62) = W
  have hbW : Below w.heap.size w W := by rw [← hW]; exact ((Below.refl _ _).alloc (Nat.le_refl _) _).alloc (by simp) _
  have x0 : W.cell? ⟨w.heap.size, 0, none⟩ = some v := by rw [← hW]; simp
  have x1 : W.cell? ⟨w.heap.size, 1, none⟩ = some (.int .i64 bs.length) := by rw [← hW]; simp
  have r0 : W.cell? ⟨w.heap.size + 1, 0, none⟩ = some (.int .u64 0) := by rw [← hW]; simp
  have r1 : W.cell? ⟨w.heap.size + 1, 1, none⟩ = some (.int .i64 0) := by rw [← hW]; simp
  have r2 : W.cell? ⟨w.heap.size + 1, 2, none⟩ = some (.int .i64 0) := by rw [← hW]; simp
  have f0 : W.frozen? ⟨w.heap.size + 1, 0, none⟩ = false := by rw [← hW]; simp
  have f1 : W.frozen? ⟨w.heap.size + 1, 1, none⟩ = false := by rw [← hW]; simp
  have f2 : W.frozen? ⟨w.heap.size + 1, 2, none⟩ = false := by rw [← hW]; simp
  have hsW : Shp W := hs.next hbW
  have hsz : W.heap.size = w.heap.size + 2 := by rw [← hW]; simp
  have hsz1 := Nat.le_of_eq hsz
  have hsz2 := Nat.le_of_eq hsz.symm
  have hrW : RowB W v (P.pack bs) := hr.below hbW (Nat.le_refl _)
  have HW := hide hW
  clear hW hs hsz hr
  go_enter Tryd.func41, Tryd.ntmps41
  go_wp2
  rw [HW.out]
  go_loopw [6] (fun i wr => ∃ j : Nat, j ≤ 4 ∧ X.take j = List.replicate j true ∧ i = .int .i64 j ∧ Below W.heap.size W wr) (fun i _ => 5 - (intOf i).toNat)
  case atStart => exact ⟨0, by omega, rfl, rfl, Below.refl _ _⟩
  case round =>
    obtain ⟨j, hj, hX, rfl, hbr⟩ := hrel
    have HX := hide hX
    have y0 := keep_cell x0 hbr
    have y1 := keep_cell x1 hbr
    have s0 := keep_cell r0 hbr
    have s1 := keep_cell r1 hbr
    have s2 := keep_cell r2 hbr
    have g0 := (hbr.frozen (p := ⟨w.heap.size + 1, 0, none⟩) (by simp; omega)).trans f0
    have g1 := (hbr.frozen (p := ⟨w.heap.size + 1, 1, none⟩) (by simp; omega)).trans f1
    have g2 := (hbr.frozen (p := ⟨w.heap.size + 1, 2, none⟩) (by simp; omega)).trans f2
    have hrr : RowB wr v (P.pack bs) := hrW.below hbr (Nat.le_refl _)
    obtain ⟨c0, c1, c2, c3, c4, c5, c6, c7, c8, c9, c10, c11, c12, c13, c14⟩ := (hsW.next hbr).all
    have hbf : Below w.heap.size w wr := hbW.trans (hbr.mono (by omega))
    clear x0 x1 r0 r1 r2 f0 f1 f2 hrW hX
    by_cases hlt : j < 4
    · by_cases hl : j < X.length
      · have HC := hide (HB.out j hl)
        by_cases hz : P.bit X j = 0
        · have HH := hide (P.head_zero X j hlt HX.out hl hz)
          rw [hz] at HC
          clear hz hl HB HN
          go_wp2_with fail
          refine (HC.out _ hrr).mono ?_
          rintro e w2 ⟨rfl, hb2⟩
          have t0 := keep_cell s0 hb2; have t1 := keep_cell s1 hb2; have t2 := keep_cell s2 hb2; have q0 := (hb2.frozen (p := ⟨w.heap.size + 1, 0, none⟩) (World.block_lt_of_cell? _ _ s0)).trans g0; have q1 := (hb2.frozen (p := ⟨w.heap.size + 1, 1, none⟩) (World.block_lt_of_cell? _ _ s1)).trans g1; have q2 := (hb2.frozen (p := ⟨w.heap.size + 1, 2, none⟩) (World.block_lt_of_cell? _ _ s2)).trans g2; have hb3 := Below.next hbf hb2
          have d0 := keep_cell c0 hb2; have d1 := keep_cell c1 hb2; have d2 := keep_cell c2 hb2; have d3 := keep_cell c3 hb2; have d4 := keep_cell c4 hb2; have d5 := keep_cell c5 hb2; have d6 := keep_cell c6 hb2; have d7 := keep_cell c7 hb2; have d8 := keep_cell c8 hb2; have d9 := keep_cell c9 hb2; have d10 := keep_cell c10 hb2; have d11 := keep_cell c11 hb2
          have h4 : j = 0 ∨ j = 1 ∨ j = 2 ∨ j = 3 := by omega
          clear hlt hj
          rcases h4 with rfl | rfl | rfl | rfl
          · go_wp2
            refine bodyPost_ret (v := .tuple #[shapeV 0, .int .i64 0]) (by simp [results, Tryd.results41, go_sem, t0, t1, t2]; rfl) rfl ⟨((hb3.setCell (by simp) _).setCell (by simp) _).setCell (by simp) _, .inl ⟨0, HH.out, rfl⟩⟩
          · go_wp2
            refine bodyPost_ret (v := .tuple #[shapeV 1, .int .i64 0]) (by simp [results, Tryd.results41, go_sem, t0, t1, t2]; rfl) rfl ⟨((hb3.setCell (by simp) _).setCell (by simp) _).setCell (by simp) _, .inl ⟨1, HH.out, rfl⟩⟩
          · go_wp2
            refine bodyPost_ret (v := .tuple #[shapeV 2, .int .i64 0]) (by simp [results, Tryd.results41, go_sem, t0, t1, t2]; rfl) rfl ⟨((hb3.setCell (by simp) _).setCell (by simp) _).setCell (by simp) _, .inl ⟨2, HH.out, rfl⟩⟩
          · go_wp2
            refine bodyPost_ret (v := .tuple #[shapeV 3, .int .i64 0]) (by simp [results, Tryd.results41, go_sem, t0, t1, t2]; rfl) rfl ⟨((hb3.setCell (by simp) _).setCell (by simp) _).setCell (by simp) _, .inl ⟨3, HH.out, rfl⟩⟩
        · have HO := hide (P.ones_next X j HX.out hl hz)
          have hbz : ((P.bit X j : Int) == 0) = false := by simp; exact hz
          generalize P.bit X j = bb at HC hbz
          clear hz hl HB HN
          go_wp2_with (go_at_call 35; go_must (refine (HC.out _ hrr).mono ?_); rintro e w2 ⟨rfl, hb2⟩)
          go_roundw
          case rel => exact ⟨j + 1, by omega, HO.out, by go_num, Below.next hbr hb2⟩
          case measure => simp [intOf]; omega
      · have HC := hide (HN.out j hj (by omega))
        have HH := hide (P.no_head X j hlt HX.out (by omega))
        clear hl HB HN
        go_wp2_with (go_at_call 35; go_must (refine (HC.out _ hrr).mono ?_); rintro e w2 ⟨rfl, hb2⟩; have t0 := keep_cell s0 hb2; have t1 := keep_cell s1 hb2; have t2 := keep_cell s2 hb2; have q0 := (hb2.frozen (p := ⟨w.heap.size + 1, 0, none⟩) (World.block_lt_of_cell? _ _ s0)).trans g0; have q1 := (hb2.frozen (p := ⟨w.heap.size + 1, 1, none⟩) (World.block_lt_of_cell? _ _ s1)).trans g1; have q2 := (hb2.frozen (p := ⟨w.heap.size + 1, 2, none⟩) (World.block_lt_of_cell? _ _ s2)).trans g2; have hb3 := Below.next hbf hb2)
        refine bodyPost_ret (v := .tuple #[shape0, .int .i64 3]) (by simp [results, Tryd.results41, go_sem, t0, t1, t2]; rfl) rfl ⟨((hb3.setCell (by simp) _).setCell (by simp) _).setCell (by simp) _, .inr ⟨HH.out, rfl⟩⟩
    · obtain rfl : j = 4 := by omega
      have HH := hide (P.head_four X HX.out)
      clear HB HN
      go_wp2
      refine bodyPost_ret (v := .tuple #[shapeV 4, .int .i64 0]) (by simp [results, Tryd.results41, go_sem, s0, s1, s2]; rfl) rfl ⟨((hbf.setCell (by simp) _).setCell (by simp) _).setCell (by simp) _, .inl ⟨4, HH.out, rfl⟩⟩
end Go.Proofs.YtlejpbghakaooaaDoor
