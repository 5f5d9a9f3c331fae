/- What xor.reader's pull and window answer. -/
import Derived.Test.YteohlkpejdjenaaDoorXorQ
namespace Go.Proofs.YteohlkpejdjenaaDoor
open Go.RowKit
set_option linter.unusedVariables false
set_option linter.unusedSimpArgs false

/-- Of old memory nothing but block g may have turned. -/
structure But (g : Nat) (w w' : World) : Prop where
  os : w'.os = w.os
  tape : w'.tape = w.tape
  output : w'.output = w.output
  size : w.heap.size ≤ w'.heap.size
  block : ∀ k, k < w.heap.size → k ≠ g → w'.heap[k]? = w.heap[k]?
theorem But.refl (g : Nat) (w : World) : But g w w := ⟨rfl, rfl, rfl, Nat.le_refl _, fun _ _ _ => rfl⟩
theorem But.of {g : Nat} {w w' : World} (h : Below w.heap.size w w') : But g w w' := ⟨h.os, h.tape, h.output, h.size, fun k hk _ => h.block k hk⟩
theorem But.trans {g : Nat} {w w1 w2 : World} (h1 : But g w w1) (h2 : But g w1 w2) : But g w w2 :=
  ⟨h2.os.trans h1.os, h2.tape.trans h1.tape, h2.output.trans h1.output, Nat.le_trans h1.size h2.size, fun k hk hg => (h2.block k (Nat.lt_of_lt_of_le hk h1.size) hg).trans (h1.block k hk hg)⟩
theorem But.setCell {g : Nat} {w w' : World} (h : But g w w') (j : Nat) (u : Value) : But g w (w'.setCell ⟨g, j, none⟩ u) :=
  ⟨h.os, h.tape, h.output, by simpa using h.size, fun k hk hg => (heap_setCell_other w' ⟨g, j, none⟩ k u hg).trans (h.block k hk hg)⟩
theorem But.drew {g : Nat} {w w' : World} (h : But g w w') : But g w w'.drew := ⟨h.os, h.tape, h.output, h.size, h.block⟩
theorem But.cell {g : Nat} {w w' : World} (h : But g w w') {p : Addr} (hp : p.block < w.heap.size) (hg : p.block ≠ g) : w'.cell? p = w.cell? p := World.cell?_of_block (h.block p.block hp hg)
theorem But.frozen {g : Nat} {w w' : World} (h : But g w w') {p : Addr} (hp : p.block < w.heap.size) (hg : p.block ≠ g) : w'.frozen? p = w.frozen? p := World.frozen?_of_block (h.block p.block hp hg)
theorem But.below {g B : Nat} {w0 w w' : World} (h : But g w w') (h0 : Below B w0 w) (hB : B ≤ g) (hw : B ≤ w.heap.size) : Below B w0 w' :=
  ⟨h.os.trans h0.os, h.tape.trans h0.tape, h.output.trans h0.output, Nat.le_trans h0.size h.size, fun k hk => (h.block k (by omega) (by omega)).trans (h0.block k hk)⟩
theorem B2.but {w w' : World} {g b : Nat} {c0 c1 : Value} (h : B2 w b c0 c1) (hb : But g w w') (hg : b ≠ g) : B2 w' b c0 c1 :=
  ⟨(hb.cell (p := ⟨b, 0, none⟩) h.lt hg).trans h.x0, (hb.cell (p := ⟨b, 1, none⟩) h.lt hg).trans h.x1, (hb.frozen (p := ⟨b, 0, none⟩) h.lt hg).trans h.f0, (hb.frozen (p := ⟨b, 1, none⟩) h.lt hg).trans h.f1⟩
theorem OwnK.but {t : TypeId} {k : IntKind} {w w' : World} {base g : Nat} {v : Value} {l : List Int} (h : OwnK t k w base v l) (hb : But g w w') (hg : g < base) : OwnK t k w' base v l := by
  obtain ⟨h1, h2⟩ := h
  refine ⟨h1, ?_⟩
  rcases h2 with h2 | ⟨b, cap, cur, rfl, hbb, hh, r⟩
  · exact .inl h2
  · exact .inr ⟨b, cap, cur, rfl, hbb, by rw [hb.block b (Array.getElem?_eq_some_iff.1 hh).1 (by omega)]; exact hh, r⟩

/-- The reader in block g: bits that lie in old memory, where it stands, whether it is broken. -/
structure Rd (w0 w : World) (g : Nat) (v : Value) (bs : List Bool) (q : Nat) (br : Bool) : Prop where
  old : Below w0.heap.size w0 w
  hg : w0.heap.size ≤ g
  x0 : w.cell? ⟨g, 0, none⟩ = some v
  x1 : w.cell? ⟨g, 1, none⟩ = some (.int .i64 bs.length)
  x2 : w.cell? ⟨g, 2, none⟩ = some (.int .i64 q)
  x3 : w.cell? ⟨g, 3, none⟩ = some (.bool br)
  f2 : w.frozen? ⟨g, 2, none⟩ = false
  f3 : w.frozen? ⟨g, 3, none⟩ = false
theorem Rd.lt {w0 w : World} {g : Nat} {v : Value} {bs : List Bool} {q : Nat} {br : Bool} (h : Rd w0 w g v bs q br) : g < w.heap.size := World.block_lt_of_cell? _ _ h.x0
theorem Rd.next {w0 w w' : World} {g : Nat} {v : Value} {bs : List Bool} {q : Nat} {br : Bool} (h : Rd w0 w g v bs q br) (hb : Below w.heap.size w w') : Rd w0 w' g v bs q br :=
  ⟨Below.next h.old hb, h.hg, keep_cell h.x0 hb, keep_cell h.x1 hb, keep_cell h.x2 hb, keep_cell h.x3 hb, (hb.frozen (p := ⟨g, 2, none⟩) h.lt).trans h.f2, (hb.frozen (p := ⟨g, 3, none⟩) h.lt).trans h.f3⟩
theorem Rd.drew {w0 w : World} {g : Nat} {v : Value} {bs : List Bool} {q : Nat} {br : Bool} (h : Rd w0 w g v bs q br) : Rd w0 w.drew g v bs q br := ⟨h.old.drew, h.hg, h.x0, h.x1, h.x2, h.x3, h.f2, h.f3⟩
theorem Rd.setAt {w0 w : World} {g : Nat} {v : Value} {bs : List Bool} {q : Nat} {br : Bool} (h : Rd w0 w g v bs q br) (q' : Nat) : Rd w0 (w.setCell ⟨g, 2, none⟩ (.int .i64 q')) g v bs q' br :=
  ⟨h.old.setCell h.hg _, h.hg, (World.cell?_setCell_other _ _ _ _ (by simp)).trans h.x0, (World.cell?_setCell_other _ _ _ _ (by simp)).trans h.x1, World.cell?_setCell_same _ _ _ h.x2, (World.cell?_setCell_other _ _ _ _ (by simp)).trans h.x3,
   (World.frozen?_setCell _ _ _ _).trans h.f2, (World.frozen?_setCell _ _ _ _).trans h.f3⟩
theorem Rd.setBr {w0 w : World} {g : Nat} {v : Value} {bs : List Bool} {q : Nat} {br : Bool} (h : Rd w0 w g v bs q br) : Rd w0 (w.setCell ⟨g, 3, none⟩ (.bool true)) g v bs q true :=
  ⟨h.old.setCell h.hg _, h.hg, (World.cell?_setCell_other _ _ _ _ (by simp)).trans h.x0, (World.cell?_setCell_other _ _ _ _ (by simp)).trans h.x1, (World.cell?_setCell_other _ _ _ _ (by simp)).trans h.x2, World.cell?_setCell_same _ _ _ h.x3,
   (World.frozen?_setCell _ _ _ _).trans h.f2, (World.frozen?_setCell _ _ _ _).trans h.f3⟩
theorem Rd.other {w0 w : World} {g b j : Nat} {v : Value} {bs : List Bool} {q : Nat} {br : Bool} (h : Rd w0 w g v bs q br) (hb : b ≠ g) (hw : w0.heap.size ≤ b) (u : Value) : Rd w0 (w.setCell ⟨b, j, none⟩ u) g v bs q br :=
  ⟨h.old.setCell hw _, h.hg, (World.cell?_setCell_other _ _ _ _ (by simp [hb, hb.symm])).trans h.x0, (World.cell?_setCell_other _ _ _ _ (by simp [hb, hb.symm])).trans h.x1, (World.cell?_setCell_other _ _ _ _ (by simp [hb, hb.symm])).trans h.x2, (World.cell?_setCell_other _ _ _ _ (by simp [hb, hb.symm])).trans h.x3,
   (World.frozen?_setCell _ _ _ _).trans h.f2, (World.frozen?_setCell _ _ _ _).trans h.f3⟩
abbrev ptr (g : Nat) : Value := .pointer (some ⟨g, 0, none⟩)

set_option maxHeartbeats 1000000 in
theorem rpull_ok (v : Value) (bs : List Bool) (q n g : Nat) (br : Bool) (w0 w : World) (hr : RowB w0 v (P.pack bs)) (n1 : (bs.length : Int) ≤ 9223372036854775000) (h : Rd w0 w g v bs q br) (hn : n ≤ 64) (hl : q + n ≤ bs.length) :
    Calls Tryd.prog 43 #[ptr g, .int .i64 n] w fun e w' => e = .returned (.int .u64 (P.val ((bs.drop q).take n) : Nat)) ∧ Rd w0 w' g v bs (q + n) br ∧ But g w w' := by
  have HC := hide (fun (w : World) (hr : RowB w v (P.pack bs)) => pull_ok v bs q n w hr (by omega) hn hl)
  have hwr : IntKind.i64.wrap ((q : Int) + (n : Int)) = ((q + n : Nat) : Int) := by rw [IntKind.wrap_i64]; omega
  have h1 := h.drew
  have hr1 := hr.below h1.old (Nat.le_refl _)
  generalize P.val ((bs.drop q).take n) = x at HC ⊢
  obtain ⟨ho, hg, x0, x1, x2, x3, f2, f3⟩ := id h
  go_enter Tryd.func43, Tryd.ntmps43
  go_wp2_with fail
  go_region_held3 (fun wx => wx.cell? ⟨g, 0, none⟩ = some v ∧ wx.cell? ⟨g, 1, none⟩ = some (.int .i64 bs.length) ∧ wx.cell? ⟨g, 2, none⟩ = some (.int .i64 q)) (first | (refine ⟨?_, ?_, ?_⟩ <;> with_reducible assumption) | go_keep) (first
    | (go_at_call 22; refine (HC.out _ hr1).mono ?_; rintro e w5 ⟨rfl, hb5⟩; have h5 := h1.next hb5; have b5 : But g w w5 := (But.refl g w).drew.trans (But.of hb5); obtain ⟨ho5, _, y0, y1, y2, y3, g2, g3⟩ := id h5))
  go_wp2
  go_ret
  have h6 := h5.setAt (q + n)
  rw [Int.natCast_add] at h6
  exact ⟨rfl, h6, b5.setCell 2 _⟩
set_option maxHeartbeats 1000000 in
theorem rpull_bad (v : Value) (bs : List Bool) (q n g : Nat) (br : Bool) (w0 w : World) (hr : RowB w0 v (P.pack bs)) (n1 : (bs.length : Int) ≤ 9223372036854775000) (h : Rd w0 w g v bs q br) (hn : n ≤ 64) (hq : q ≤ bs.length) (hl : bs.length < q + n) :
    Calls Tryd.prog 43 #[ptr g, .int .i64 n] w fun e w' => e = .returned (.int .u64 0) ∧ Rd w0 w' g v bs q true ∧ But g w w' := by
  have HC := hide (fun (w : World) (hr : RowB w v (P.pack bs)) => pull_short v _ (bs.length : Int) q n w hr (P.pack_byt _ bs) (by omega) (P.pack_ok bs) (by omega) (by omega) (by omega) (by omega) (by omega))
  have h1 := h.drew
  have hr1 := hr.below h1.old (Nat.le_refl _)
  obtain ⟨ho, hg, x0, x1, x2, x3, f2, f3⟩ := id h
  go_enter Tryd.func43, Tryd.ntmps43
  go_wp2_with fail
  go_region_held3 (fun wx => wx.cell? ⟨g, 0, none⟩ = some v ∧ wx.cell? ⟨g, 1, none⟩ = some (.int .i64 bs.length) ∧ wx.cell? ⟨g, 2, none⟩ = some (.int .i64 q)) (first | (refine ⟨?_, ?_, ?_⟩ <;> with_reducible assumption) | go_keep) (first
    | (go_at_call 22; refine (HC.out _ hr1).mono ?_; rintro e w5 ⟨rfl, hb5⟩; have h5 := h1.next hb5; have b5 : But g w w5 := (But.refl g w).drew.trans (But.of hb5); obtain ⟨ho5, _, y0, y1, y2, y3, g2, g3⟩ := id h5))
  go_wp2
  go_ret
  exact ⟨rfl, h5.setBr, b5.setCell 3 _⟩
/-- Pull, whatever is there. -/
theorem rpull_any (v : Value) (bs : List Bool) (q n g : Nat) (br : Bool) (w0 w : World) (hr : RowB w0 v (P.pack bs)) (n1 : (bs.length : Int) ≤ 9223372036854775000) (h : Rd w0 w g v bs q br) (hn : n ≤ 64) (hq : q ≤ bs.length) :
    Calls Tryd.prog 43 #[ptr g, .int .i64 n] w fun e w' => ∃ (x q' : Nat) (br' : Bool), e = .returned (.int .u64 x) ∧ x < 2 ^ n ∧ Rd w0 w' g v bs q' br' ∧ But g w w' ∧ q' ≤ bs.length ∧ (br = true → br' = true) := by
  by_cases hl : q + n ≤ bs.length
  · refine (rpull_ok v bs q n g br w0 w hr n1 h hn hl).mono ?_
    rintro e w' ⟨rfl, h1, h2⟩
    exact ⟨_, q + n, br, rfl, P.val_take_len _ _, h1, h2, hl, id⟩
  · refine (rpull_bad v bs q n g br w0 w hr n1 h hn hq (by omega)).mono ?_
    rintro e w' ⟨rfl, h1, h2⟩
    exact ⟨0, q, true, rfl, Nat.pow_pos (by decide), h1, h2, hq, fun _ => rfl⟩

theorem But.setNew {g b : Nat} {w w' : World} (h : But g w w') (hb : w.heap.size ≤ b) (j : Nat) (u : Value) : But g w (w'.setCell ⟨b, j, none⟩ u) :=
  ⟨h.os, h.tape, h.output, by simpa using h.size, fun k hk hg => (heap_setCell_other w' ⟨b, j, none⟩ k u (by simp; omega)).trans (h.block k hk hg)⟩
/-- The window that is told, whatever the two pulls answer. -/
theorem window_gen (v : Value) (bs : List Bool) (q g : Nat) (br : Bool) (w0 w : World) (PA : Nat → Nat → Bool → Prop) (PB : Nat → Nat → Nat → Bool → Prop) (h : Rd w0 w g v bs q br)
    (HA : ∀ w : World, Rd w0 w g v bs q br → Calls Tryd.prog 43 #[ptr g, .int .i64 6] w fun e w' => ∃ (x q' : Nat) (br' : Bool), e = .returned (.int .u64 x) ∧ x < 64 ∧ Rd w0 w' g v bs q' br' ∧ But g w w' ∧ PA x q' br')
    (HB : ∀ (x q1 : Nat) (br1 : Bool), PA x q1 br1 → ∀ w : World, Rd w0 w g v bs q1 br1 → Calls Tryd.prog 43 #[ptr g, .int .i64 6] w fun e w' => ∃ (y q' : Nat) (br' : Bool), e = .returned (.int .u64 y) ∧ y < 64 ∧ Rd w0 w' g v bs q' br' ∧ But g w w' ∧ PB x y q' br') :
    Calls Tryd.prog 52 #[ptr g] w fun e w' => ∃ (x y q' : Nat) (br' : Bool), e = .returned (winV x (64 - (x : Int) - ((y : Int) + 1))) ∧ x < 64 ∧ y < 64 ∧ Rd w0 w' g v bs q' br' ∧ But g w w' ∧ PB x y q' br' := by
  replace HA := hide HA
  replace HB := hide HB
  have hR := B2.new w (.int .i64 0) (.int .i64 0) 51
  have h1 := h.next ((Below.refl _ _).alloc (Nat.le_refl _) (.cells #[.int .i64 0, .int .i64 0] 51))
  have b1 : But g w _ := But.of ((Below.refl _ _).alloc (Nat.le_refl _) (.cells #[.int .i64 0, .int .i64 0] 51))
  have hne : w.heap.size ≠ g := by have := h.lt; omega
  have hw0 : w0.heap.size ≤ w.heap.size := h.old.size
  clear h
  go_enter Tryd.func52, Tryd.ntmps52
  go_wp2_with fail
  refine (HA.out _ h1).mono ?_
  rintro e w3 ⟨x, q1, br1, rfl, hx, h3, b3, pa⟩
  have hR3 := hR.but b3 hne
  have b4 := b1.trans b3
  replace HB := hide (HB.out x q1 br1 pa)
  clear hR h1 b1 b3 HA
  go_wp2_with fail
  refine (HB.out _ h3).mono ?_
  rintro e w5 ⟨y, q2, br2, rfl, hy, h5, b5, pb⟩
  have hR5 := hR3.but b5 hne
  have b6 := b4.trans b5
  clear hR3 h3 b4 b5 HB
  have Hpb := hide pb
  clear pa pb
  obtain ⟨r0, r1, rf0, rf1⟩ := id hR5
  go_wp2
  have q1 := hR5.set (.int .i64 x) (.int .i64 (64 - (x : Int) - ((y : Int) + 1)))
  exact bodyPost_ret (v := winV x (64 - (x : Int) - ((y : Int) + 1))) (by simp [results, Tryd.results52, go_sem, q1.x0, q1.x1]) rfl ⟨x, y, q2, br2, rfl, hx, hy, (h5.other hne hw0 _).other hne hw0 _, (b6.setNew (Nat.le_refl _) 0 _).setNew (Nat.le_refl _) 1 _, Hpb.out⟩

/-- A window that is none. -/
theorem tw_no (v : Value) (bs : List Bool) (q g a : Nat) (b : Int) (br : Bool) (w0 w : World) (h : Rd w0 w g v bs q br) (ha : a ≤ 64) (hb0 : -64 ≤ b) (hb1 : b ≤ 64) (hno : 63 < (a : Int) + b ∨ b < 0) :
    Calls Tryd.prog 51 #[ptr g, winV a b] w fun e w' => e = .returned (.int .u64 0) ∧ Rd w0 w' g v bs q true ∧ But g w w' := by
  have HWd : Hid (∀ w : World, Calls Tryd.prog 42 #[winV a b] w fun e w' => e = .returned (.int .i64 (64 - (a : Int) - b)) ∧ Below w.heap.size w w') := fun w => width_any _ _ w (by omega) (by omega) (by omega) (by omega)
  have hR := B2.new w (.int .i64 a) (.int .i64 b) 51
  have h1 := h.next ((Below.refl _ _).alloc (Nat.le_refl _) (.cells #[.int .i64 a, .int .i64 b] 51))
  have b1 : But g w _ := But.of ((Below.refl _ _).alloc (Nat.le_refl _) (.cells #[.int .i64 a, .int .i64 b] 51))
  have hs1 := below_alloc (Below.refl w.heap.size w) (.cells #[.int .i64 a, .int .i64 b] 51)
  clear h
  by_cases hw : 64 - (a : Int) - b < 1
  · have hd : decide (64 - (a : Int) - b < 1) = true := by simp; omega
    clear hno hw
    go_enter Tryd.func51, Tryd.ntmps51
    go_wp2_with (go_at_call 42; go_must (refine (HWd.out _).mono ?_); rintro e w3 ⟨rfl, hb3⟩; have h3 := h1.next hb3; have b3 := b1.trans (But.of (g := g) hb3); have hR3 := hR.next hb3; obtain ⟨r0, r1, rf0, rf1⟩ := id hR3; obtain ⟨ho, hg, x0, x1, x2, x3, f2, f3⟩ := id h3)
    go_ret
    exact ⟨rfl, h3.setBr, b3.setCell 3 _⟩
  · have hd : decide (64 - (a : Int) - b < 1) = false := by simp; omega
    have hd2 : decide (b < 0) = true := by simp; omega
    clear hno hw
    go_enter Tryd.func51, Tryd.ntmps51
    go_wp2_with (go_at_call 42; go_must (refine (HWd.out _).mono ?_); rintro e w3 ⟨rfl, hb3⟩; have h3 := h1.next hb3; have b3 := b1.trans (But.of (g := g) hb3); have hR3 := hR.next hb3; obtain ⟨r0, r1, rf0, rf1⟩ := id hR3; obtain ⟨ho, hg, x0, x1, x2, x3, f2, f3⟩ := id h3)
    go_ret
    exact ⟨rfl, h3.setBr, b3.setCell 3 _⟩
set_option maxHeartbeats 1000000 in
/-- A window that is one, whatever the pull answers. -/
theorem tw_gen (v : Value) (bs : List Bool) (q g a b : Nat) (br : Bool) (w0 w : World) (PA : Nat → Nat → Bool → Prop) (h : Rd w0 w g v bs q br) (hab : a + b ≤ 63)
    (HA : ∀ w : World, Rd w0 w g v bs q br → Calls Tryd.prog 43 #[ptr g, .int .i64 (64 - (a : Int) - (b : Int))] w fun e w' => ∃ (x q' : Nat) (br' : Bool), e = .returned (.int .u64 x) ∧ x < 2 ^ (64 - a - b) ∧ Rd w0 w' g v bs q' br' ∧ But g w w' ∧ PA x q' br') :
    Calls Tryd.prog 51 #[ptr g, winV a b] w fun e w' => ∃ (x q' : Nat) (br' : Bool), e = .returned (.int .u64 (x * 2 ^ b : Nat)) ∧ x * 2 ^ b < 18446744073709551616 ∧ Rd w0 w' g v bs q' (br' || decide (x = 0)) ∧ But g w w' ∧ PA x q' br' := by
  replace HA := hide HA
  have HWd : Hid (∀ w : World, Calls Tryd.prog 42 #[winV a b] w fun e w' => e = .returned (.int .i64 (64 - (a : Int) - (b : Int))) ∧ Below w.heap.size w w') := fun w => width_any _ _ w (by omega) (by omega) (by omega) (by omega)
  have hR := B2.new w (.int .i64 a) (.int .i64 b) 51
  have h1 := h.next ((Below.refl _ _).alloc (Nat.le_refl _) (.cells #[.int .i64 a, .int .i64 b] 51))
  have b1 : But g w _ := But.of ((Below.refl _ _).alloc (Nat.le_refl _) (.cells #[.int .i64 a, .int .i64 b] 51))
  have hne : w.heap.size ≠ g := by have := h.lt; omega
  clear h
  have hd : decide (64 - (a : Int) - (b : Int) < 1) = false := by simp; omega
  have hd2 : decide ((b : Int) < 0) = false := by simp
  go_enter Tryd.func51, Tryd.ntmps51
  go_wp2_with (go_at_call 42; go_must (refine (HWd.out _).mono ?_); rintro e w3 ⟨rfl, hb3⟩; have h3 := h1.next hb3; have b3 := b1.trans (But.of (g := g) hb3); have hR3 := hR.next hb3; obtain ⟨r0, r1, rf0, rf1⟩ := id hR3)
  clear h1 b1 hb3 hR
  have h4 := h3.drew
  have hR4 := hR3.drew
  have b4 := b3.drew
  obtain ⟨s0, s1, _, _⟩ := id hR4
  go_region_held3 (fun wx => wx.cell? ⟨w.heap.size, 0, none⟩ = some (.int .i64 a) ∧ wx.cell? ⟨w.heap.size, 1, none⟩ = some (.int .i64 b)) (refine ⟨?_, ?_⟩ <;> with_reducible assumption) (first
    | (go_at_call 42; refine (HWd.out _).mono ?_; rintro e w5 ⟨rfl, hb5⟩; have h5 := h4.next hb5; have b5 := b4.trans (But.of (g := g) hb5); have hR5 := hR4.next hb5; obtain ⟨t0, t1, tf0, tf1⟩ := id hR5)
    | (go_at_call 43; refine (HA.out _ h5).mono ?_; rintro e w7 ⟨x, q7, br7, rfl, hx, h7, b7, pa⟩; have b8 := b5.trans b7; have hR7 := hR5.but b7 hne; obtain ⟨u0, u1, uf0, uf1⟩ := id hR7))
  have hlt : x * 2 ^ b < 18446744073709551616 := by
    have hp : 0 < 2 ^ b := Nat.pow_pos (by decide)
    have e : (2 : Nat) ^ (64 - a - b) * 2 ^ b = 2 ^ (64 - a) := by rw [← Nat.pow_add]; congr 1; omega
    have h1 : x * 2 ^ b < 2 ^ (64 - a) := by rw [← e]; exact Nat.mul_lt_mul_of_pos_right hx hp
    have h2 : (2 : Nat) ^ (64 - a) ≤ 2 ^ 64 := Nat.pow_le_pow_right (by decide) (by omega)
    omega
  have hwx : IntKind.u64.wrap ((x : Int) * 2 ^ b) = ((x * 2 ^ b : Nat) : Int) := by
    have e : ((x : Int) * 2 ^ b) = ((x * 2 ^ b : Nat) : Int) := by simp
    rw [e, IntKind.wrap_u64]; omega
  have hz : x = 0 ↔ x * 2 ^ b = 0 := by
    have hp : 0 < 2 ^ b := Nat.pow_pos (by decide)
    constructor
    · rintro rfl; simp
    · intro h; rcases Nat.mul_eq_zero.1 h with h | h <;> omega
  obtain ⟨y, hy⟩ : ∃ y, y = x * 2 ^ b := ⟨_, rfl⟩
  rw [← hy] at hwx hz hlt
  have HY := hide hy
  have Hpa := hide pa
  clear hy pa hx hd hd2 HWd HA
  obtain ⟨ho, hg, x0, x1, x2, x3, f2, f3⟩ := id h7
  by_cases hx0 : y = 0
  · have hd : ((y : Int) == 0) = true := by simp; exact hx0
    have HX : Hid (decide (x = 0) = true) := by show _ = _; simp; exact hz.2 hx0
    clear hx0 hz
    go_wp2
    go_ret
    refine ⟨x, q7, br7, ret_int (hwx.trans (by rw [HY.out])), by rw [← HY.out]; exact hlt, ?_, b8.setCell 3 _, Hpa.out⟩
    rw [HX.out, Bool.or_true]
    exact h7.setBr
  · have hd : ((y : Int) == 0) = false := by simp; exact hx0
    have HX : Hid (decide (x = 0) = false) := by show _ = _; simp; exact fun h => hx0 (hz.1 h)
    clear hx0 hz
    go_wp2
    go_ret
    refine ⟨x, q7, br7, ret_int (hwx.trans (by rw [HY.out])), by rw [← HY.out]; exact hlt, ?_, b8, Hpa.out⟩
    rw [HX.out, Bool.or_false]
    exact h7
end Go.Proofs.YteohlkpejdjenaaDoor
