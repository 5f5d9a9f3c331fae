/- What xor.push and xor.pushTurn answer. -/
import Derived.Test.YteohlkpejdjenaaDoorXorP
import Derived.Test.YteohlkpejdjenaaDoorPush
import Derived.Test.YteohlkpejdjenaaDoorKitK
namespace Go.Proofs.YteohlkpejdjenaaDoor
open Go.RowKit
set_option linter.unusedVariables false
set_option linter.unusedSimpArgs false

theorem box_ret {w3 : World} {b : Nat} {x y d0 d1 : Value} (o : Obj) (hd0 : w3.cell? ⟨b, 0, none⟩ = some d0) (hd1 : w3.cell? ⟨b, 1, none⟩ = some d1) :
    (((w3.setCell ⟨b, 0, none⟩ x).setCell ⟨b, 1, none⟩ y).alloc o).cell? ⟨b, 0, none⟩ = some x ∧ (((w3.setCell ⟨b, 0, none⟩ x).setCell ⟨b, 1, none⟩ y).alloc o).cell? ⟨b, 1, none⟩ = some y :=
  ⟨keep_alloc ((World.cell?_setCell_other _ _ _ _ (by simp)).trans (World.cell?_setCell_same _ _ _ hd0)) o, keep_alloc (World.cell?_setCell_same _ _ _ ((World.cell?_setCell_other _ _ _ _ (by simp)).trans hd1)) o⟩
theorem xpush_ok (v : Value) (bs : List Bool) (u m : Nat) (w : World) (hr : RowB w v (P.pack bs)) (h1 : m ≤ 64) (u1 : (u : Int) ≤ 18446744073709551615) (hf : u < 2 ^ m) (hl : bs.length + m ≤ 80000) :
    Calls Tryd.prog 24 #[.agg #[v, .int .i64 bs.length], .int .u64 u, .int .i64 m] w fun e w' =>
      ∃ vy, e = .returned (.agg #[vy, .int .i64 ((bs.length + m : Nat) : Int)]) ∧ OwnB w' w.heap.size vy (P.pack (bs ++ P.ofVal u m)) ∧ Below w.heap.size w w' := by
  have HP := hide (fun (w : World) (hr : RowB w v (P.pack bs)) => push_ok v bs u m w hr h1 u1 hf hl)
  go_enter Tryd.func24, Tryd.ntmps24
  go_wp2_with (go_at_call 39; go_must (refine (HP.out _ (row_two hr _ _)).mono ?_); rintro e w3 ⟨vy, rfl, hown, hb2⟩; have hs3 := hb2.size; obtain ⟨ay, capy, hvy⟩ := hown.shp; rw [hvy] at hown ⊢; clear hvy; obtain ⟨hc0, hc1, hd0, hd1, hf0, hf1, hb, hsz⟩ := box4 hb2; clear hb2)
  generalize P.pack (bs ++ P.ofVal u m) = L at hown ⊢
  have q := fun x y o => box_ret (x := x) (y := y) o hd0 hd1
  refine bodyPost_ret (v := .agg #[.slice ay L.length capy, .int .i64 ((bs.length + m : Nat) : Int)]) (by simp [results, Tryd.results24, go_sem, q]) rfl ⟨_, rfl, ?_, ?_⟩
  · exact World.ownsRow.alloc (OwnB.base (ownsRow_setCell_below (ownsRow_setCell_below hown (by simp) _) (by simp) _) (by simp; omega)) _
  · exact below_alloc ((hb.setCell (by simp) _).setCell (by simp) _) _
/-- The same, with the bits' own number. -/
theorem xpush_bits (v : Value) (bs : List Bool) (u m : Nat) (w : World) (hr : RowB w v (P.pack bs)) (h1 : m ≤ 64) (u1 : u < 18446744073709551616) (hf : u < 2 ^ m) (hl : bs.length + m ≤ 80000) :
    Calls Tryd.prog 24 #[.agg #[v, .int .i64 bs.length], .int .u64 u, .int .i64 m] w fun e w' =>
      ∃ vy, e = .returned (.agg #[vy, .int .i64 ((bs ++ P.ofVal u m).length : Nat)]) ∧ OwnB w' w.heap.size vy (P.pack (bs ++ P.ofVal u m)) ∧ Below w.heap.size w w' := by
  have h := xpush_ok v bs u m w hr h1 (by omega) hf hl
  rw [List.length_append, P.ofVal_len]
  exact h

/-- A box of two words that may be written. -/
structure B2 (w : World) (g : Nat) (c0 c1 : Value) : Prop where
  x0 : w.cell? ⟨g, 0, none⟩ = some c0
  x1 : w.cell? ⟨g, 1, none⟩ = some c1
  f0 : w.frozen? ⟨g, 0, none⟩ = false
  f1 : w.frozen? ⟨g, 1, none⟩ = false
theorem B2.lt {w : World} {g : Nat} {c0 c1 : Value} (h : B2 w g c0 c1) : g < w.heap.size := World.block_lt_of_cell? _ _ h.x0
theorem B2.next {w w' : World} {g : Nat} {c0 c1 : Value} (h : B2 w g c0 c1) (hb : Below w.heap.size w w') : B2 w' g c0 c1 :=
  ⟨keep_cell h.x0 hb, keep_cell h.x1 hb, (hb.frozen (p := ⟨g, 0, none⟩) h.lt).trans h.f0, (hb.frozen (p := ⟨g, 1, none⟩) h.lt).trans h.f1⟩
theorem B2.alloc {w : World} {g : Nat} {c0 c1 : Value} (h : B2 w g c0 c1) (o : Obj) : B2 (w.alloc o) g c0 c1 := h.next ((Below.refl _ _).alloc (Nat.le_refl _) o)
theorem B2.new (w : World) (c0 c1 : Value) (t : TypeId) : B2 (w.alloc (.cells #[c0, c1] t)) w.heap.size c0 c1 := ⟨by simp, by simp, by simp, by simp⟩
theorem B2.set {w : World} {g : Nat} {c0 c1 : Value} (h : B2 w g c0 c1) (d0 d1 : Value) : B2 ((w.setCell ⟨g, 0, none⟩ d0).setCell ⟨g, 1, none⟩ d1) g d0 d1 :=
  ⟨(World.cell?_setCell_other _ _ _ _ (by simp)).trans (World.cell?_setCell_same _ _ _ h.x0), World.cell?_setCell_same _ _ _ ((World.cell?_setCell_other _ _ _ _ (by simp)).trans h.x1),
   (World.frozen?_setCell _ _ _ _).trans ((World.frozen?_setCell _ _ _ _).trans h.f0), (World.frozen?_setCell _ _ _ _).trans ((World.frozen?_setCell _ _ _ _).trans h.f1)⟩
theorem B2.other {w : World} {g g' : Nat} {c0 c1 : Value} (h : B2 w g c0 c1) (hne : g ≠ g') (d0 d1 : Value) : B2 ((w.setCell ⟨g', 0, none⟩ d0).setCell ⟨g', 1, none⟩ d1) g c0 c1 :=
  ⟨(World.cell?_setCell_other _ _ _ _ (by simp [hne, hne.symm])).trans ((World.cell?_setCell_other _ _ _ _ (by simp [hne, hne.symm])).trans h.x0), (World.cell?_setCell_other _ _ _ _ (by simp [hne, hne.symm])).trans ((World.cell?_setCell_other _ _ _ _ (by simp [hne, hne.symm])).trans h.x1),
   (World.frozen?_setCell _ _ _ _).trans ((World.frozen?_setCell _ _ _ _).trans h.f0), (World.frozen?_setCell _ _ _ _).trans ((World.frozen?_setCell _ _ _ _).trans h.f1)⟩
theorem B2.drew {w : World} {g : Nat} {c0 c1 : Value} (h : B2 w g c0 c1) : B2 w.drew g c0 c1 := ⟨h.x0, h.x1, h.f0, h.f1⟩
/-- The four boxes of pushTurn: x, w, and what it answers. -/
structure B4 (w : World) (g : Nat) (v n a b : Value) : Prop where
  x : B2 w g v n
  p : B2 w (g + 1) a b
  r : B2 w (g + 1 + 1) (.slice none 0 0) (.int .i64 0)
  s : B2 w (g + 1 + 1 + 1) (.int .i64 0) (.int .i64 0)
theorem B4.next {w w' : World} {g : Nat} {v n a b : Value} (h : B4 w g v n a b) (hb : Below w.heap.size w w') : B4 w' g v n a b := ⟨h.x.next hb, h.p.next hb, h.r.next hb, h.s.next hb⟩
theorem B4.drew {w : World} {g : Nat} {v n a b : Value} (h : B4 w g v n a b) : B4 w.drew g v n a b := ⟨h.x.drew, h.p.drew, h.r.drew, h.s.drew⟩
theorem B4.setX {w : World} {g : Nat} {v n a b : Value} (h : B4 w g v n a b) (v' n' : Value) : B4 ((w.setCell ⟨g, 0, none⟩ v').setCell ⟨g, 1, none⟩ n') g v' n' a b :=
  ⟨h.x.set _ _, h.p.other (by omega) _ _, h.r.other (by omega) _ _, h.s.other (by omega) _ _⟩
theorem B4.setW {w : World} {g : Nat} {v n a b : Value} (h : B4 w g v n a b) (a' b' : Value) : B4 ((w.setCell ⟨g + 1, 0, none⟩ a').setCell ⟨g + 1, 1, none⟩ b') g v n a' b' :=
  ⟨h.x.other (by omega) _ _, h.p.set _ _, h.r.other (by omega) _ _, h.s.other (by omega) _ _⟩
theorem B4.new (w : World) (v n a b : Value) : B4 ((((w.alloc (.cells #[v, n] 25)).alloc (.cells #[a, b] 51)).alloc (.cells #[.slice none 0 0, .int .i64 0] 25)).alloc (.cells #[.int .i64 0, .int .i64 0] 51)) w.heap.size v n a b := by
  refine ⟨(((B2.new w v n _).alloc _).alloc _).alloc _, ?_, ?_, ?_⟩
  · have h := ((B2.new (w.alloc (.cells #[v, n] 25)) a b 51).alloc (.cells #[.slice none 0 0, .int .i64 0] 25)).alloc (.cells #[.int .i64 0, .int .i64 0] 51)
    simpa using h
  · have h := (B2.new ((w.alloc (.cells #[v, n] 25)).alloc (.cells #[a, b] 51)) (.slice none 0 0) (.int .i64 0) 25).alloc (.cells #[.int .i64 0, .int .i64 0] 51)
    simpa using h
  · have h := B2.new (((w.alloc (.cells #[v, n] 25)).alloc (.cells #[a, b] 51)).alloc (.cells #[.slice none 0 0, .int .i64 0] 25)) (.int .i64 0) (.int .i64 0) 51
    simpa using h
theorem below_set2 {w W : World} {g : Nat} (h : Below w.heap.size w W) (hg : w.heap.size ≤ g) (d0 d1 : Value) : Below w.heap.size w ((W.setCell ⟨g, 0, none⟩ d0).setCell ⟨g, 1, none⟩ d1) := (h.setCell hg _).setCell hg _
theorem own_set2 {W : World} {g base : Nat} {v : Value} {l : List Int} (h : OwnB W base v l) (hg : g < base) (d0 d1 : Value) : OwnB ((W.setCell ⟨g, 0, none⟩ d0).setCell ⟨g, 1, none⟩ d1) base v l := ownsRow_setCell_below (ownsRow_setCell_below h hg _) hg _
theorem below4 (w : World) (o1 o2 o3 o4 : Obj) : Below w.heap.size w ((((w.alloc o1).alloc o2).alloc o3).alloc o4) :=
  ((((Below.refl _ _).alloc (Nat.le_refl _) _).alloc (by simp) _).alloc (by simp; omega) _).alloc (by simp; omega) _

set_option maxHeartbeats 1000000 in
theorem pt_zero (v : Value) (bs : List Bool) (a b : Int) (w : World) (hr : RowB w v (P.pack bs)) (hl : bs.length + 78 ≤ 80000) :
    Calls Tryd.prog 26 #[.agg #[v, .int .i64 bs.length], .int .u64 0, winV a b] w fun e w' =>
      ∃ vy, e = .returned (.tuple #[.agg #[vy, .int .i64 ((bs ++ P.ofVal 0 1).length : Nat)], winV a b]) ∧ OwnB w' w.heap.size vy (P.pack (bs ++ P.ofVal 0 1)) ∧ Below w.heap.size w w' := by
  have HP1 : Hid (∀ w : World, RowB w v (P.pack bs) → Calls Tryd.prog 24 #[.agg #[v, .int .i64 bs.length], .int .u64 0, .int .i64 1] w fun e w' =>
      ∃ vy, e = .returned (.agg #[vy, .int .i64 ((bs ++ P.ofVal 0 1).length : Nat)]) ∧ OwnB w' w.heap.size vy (P.pack (bs ++ P.ofVal 0 1)) ∧ Below w.heap.size w w') :=
    fun w hr => xpush_bits v bs 0 1 w hr (by decide) (by decide) (by decide) (by omega)
  generalize bs ++ P.ofVal 0 1 = zs at HP1 ⊢
  have hN := B4.new w v (.int .i64 bs.length) (.int .i64 a) (.int .i64 b)
  have hbN := below4 w (.cells #[v, .int .i64 bs.length] 25) (.cells #[.int .i64 a, .int .i64 b] 51) (.cells #[.slice none 0 0, .int .i64 0] 25) (.cells #[.int .i64 0, .int .i64 0] 51)
  generalize hW : World.alloc _ (.cells #[.int .i64 0, .int .i64 0] 51) = W at hN hbN
  have HW := hide hW
  clear hW
  go_enter Tryd.func26, Tryd.ntmps26
  go_wp2_with fail
  rw [HW.out]
  have hN' := hN.drew
  have hlt := hN.s.lt
  obtain ⟨⟨x0, x1, xf0, xf1⟩, ⟨a0, a1, af0, af1⟩, ⟨r0, r1, rf0, rf1⟩, ⟨s0, s1, sf0, sf1⟩⟩ := hN
  have d0 := hN'.x.x0; have d1 := hN'.x.x1; have d2 := hN'.p.x0; have d3 := hN'.p.x1
  go_region_held3 (fun wx => wx.cell? ⟨w.heap.size, 0, none⟩ = some (v) ∧ wx.cell? ⟨w.heap.size, 1, none⟩ = some (.int .i64 (bs).length) ∧ wx.cell? ⟨w.heap.size + 1, 0, none⟩ = some (.int .i64 a) ∧ wx.cell? ⟨w.heap.size + 1, 1, none⟩ = some (.int .i64 b)) (refine ⟨?_, ?_, ?_, ?_⟩ <;> ((repeat (with_reducible refine (World.cell?_setCell_other _ _ _ _ (by simp)).trans ?_)); with_reducible assumption)) (first
    | (go_at_call 24; refine (HP1.out _ (hr.below hbN.drew (Nat.le_refl _))).mono ?_; rintro e w5 ⟨vy, rfl, hown, hb5⟩; obtain ⟨ay, capy, hvy⟩ := hown.shp; rw [hvy] at hown ⊢; clear hvy; have hN5 := hN'.next hb5; obtain ⟨⟨x0', x1', xf0', xf1'⟩, ⟨a0', a1', af0', af1'⟩, ⟨r0', r1', rf0', rf1'⟩, ⟨s0', s1', sf0', sf1'⟩⟩ := hN'.next hb5; have hb6 := Below.next hbN.drew hb5; have hsz := hb5.size; have hWz : W.drew.heap.size = W.heap.size := rfl))
  go_wp2
  clear hlt
  have hlt := hWz ▸ hN'.s.lt
  have q1 := (hN5.r.set (.slice ay (P.pack zs).length capy) (.int .i64 (zs.length : Nat))).other (g' := w.heap.size + 1 + 1 + 1) (by omega) (.int .i64 a) (.int .i64 b)
  have q2 := (hN5.s.other (g' := w.heap.size + 1 + 1) (by omega) (.slice ay (P.pack zs).length capy) (.int .i64 (zs.length : Nat))).set (.int .i64 a) (.int .i64 b)
  refine bodyPost_ret (v := .tuple #[.agg #[.slice ay (P.pack zs).length capy, .int .i64 (zs.length : Nat)], winV a b]) (by simp [results, Tryd.results26, go_sem, q1.x0, q1.x1, q2.x0, q2.x1]) rfl ⟨_, rfl, ?_, ?_⟩
  · exact OwnB.base (ownsRow_setCell_below (ownsRow_setCell_below (ownsRow_setCell_below (ownsRow_setCell_below hown (by simp; omega) _) (by simp; omega) _) (by simp; omega) _) (by simp; omega) _) (by omega)
  · exact (((hb6.setCell (by simp; omega) _).setCell (by simp; omega) _).setCell (by simp; omega) _).setCell (by simp; omega) _
end Go.Proofs.YteohlkpejdjenaaDoor
