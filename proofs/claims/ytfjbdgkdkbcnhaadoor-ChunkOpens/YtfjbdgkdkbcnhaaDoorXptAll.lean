/- Several texts in one. -/
import Derived.Test.YtfjbdgkdkbcnhaaDoorPlainAll
import Derived.Test.YtfjbdgkdkbcnhaaDoorXlenAll
/- What xor.pushTurn answers where the turn is not 0. -/
namespace Go.Proofs.YtfjbdgkdkbcnhaaDoor
open P
namespace X
open Go.RowKit
set_option linter.unusedVariables false
set_option linter.unusedSimpArgs false

theorem push_body (vy : Value) (ys bs : List Bool) (t a b : Nat) (w : World) {zs : List Bool} (hr : RowB w vy (P.pack ys)) (hl : ys.length + 64 ≤ 80000) (h0 : t ≠ 0) (h1 : t < 18446744073709551616) (ha : a ≤ P.lz t) (hb : b ≤ P.tz t) (hz : ys ++ P.body a b t = zs) :
    Calls Tryd.prog 39 #[.agg #[vy, .int .i64 ys.length], .int .u64 ((t : Int) / 2 ^ b), .int .i64 (64 - (a : Int) - (b : Int))] w fun e w' =>
      ∃ vz, e = .returned (.agg #[vz, .int .i64 (zs.length : Nat)]) ∧ OwnB w' w.heap.size vz (P.pack zs) ∧ Below w.heap.size w w' := by
  have hab : a + b ≤ 63 := by have := P.lz_tz t h0 h1; omega
  have hlt := P.body_lt a b t h0 h1 ha hb
  have hle : t / 2 ^ b ≤ t := Nat.div_le_self _ _
  have h := xpush_bits vy ys (t / 2 ^ b) (64 - a - b) w hr (by omega) (by omega) hlt (by omega)
  have e1 : ((64 - a - b : Nat) : Int) = 64 - (a : Int) - (b : Int) := by omega
  have e2 : ((t / 2 ^ b : Nat) : Int) = (t : Int) / 2 ^ b := by simp
  rw [e1, e2] at h
  subst hz
  exact h
set_option maxHeartbeats 2000000 in
/-- A turn within the window. -/
theorem pt_hold (v : Value) (bs : List Bool) (t a b : Nat) (w : World) (hr : RowB w v (P.pack bs)) (hl : bs.length + 78 ≤ 80000) (h0 : t ≠ 0) (h1 : t < 18446744073709551616) (ha : a ≤ P.lz t) (hb : b ≤ P.tz t) (ht : Tab w) :
    Calls Tryd.prog 41 #[.agg #[v, .int .i64 bs.length], .int .u64 t, winV a b] w fun e w' =>
      ∃ vy, e = .returned (.tuple #[.agg #[vy, .int .i64 ((bs ++ (P.ofVal 2 2 ++ P.body a b t)).length : Nat)], winV a b]) ∧ OwnB w' w.heap.size vy (P.pack (bs ++ (P.ofVal 2 2 ++ P.body a b t))) ∧ Below w.heap.size w w' := by
  have hab : a + b ≤ 63 := by have := P.lz_tz t h0 h1; omega
  have HP2 : Hid (∀ w : World, RowB w v (P.pack bs) → Calls Tryd.prog 39 #[.agg #[v, .int .i64 (bs).length], .int .u64 2, .int .i64 2] w fun e w' =>
      ∃ vz, e = .returned (.agg #[vz, .int .i64 ((bs ++ P.ofVal 2 2).length : Nat)]) ∧ OwnB w' w.heap.size vz (P.pack (bs ++ P.ofVal 2 2)) ∧ Below w.heap.size w w') :=
    fun w hr => xpush_bits v bs 2 2 w hr (by decide) (by decide) (by decide) (by omega)
  have HPb : Hid (∀ (vy : Value) (w : World), RowB w vy (P.pack (bs ++ P.ofVal 2 2)) → Calls Tryd.prog 39 #[.agg #[vy, .int .i64 (bs ++ P.ofVal 2 2).length], .int .u64 ((t : Int) / 2 ^ b), .int .i64 (64 - (a : Int) - (b : Int))] w fun e w' =>
      ∃ vz, e = .returned (.agg #[vz, .int .i64 ((bs ++ (P.ofVal 2 2 ++ P.body a b t)).length : Nat)]) ∧ OwnB w' w.heap.size vz (P.pack (bs ++ (P.ofVal 2 2 ++ P.body a b t))) ∧ Below w.heap.size w w') := fun vy w hr => push_body vy _ bs t a b w hr (by simp [P.ofVal_len]; omega) h0 h1 ha hb (by rw [List.append_assoc])
  have HWn := hide (fun (w : World) (ht : Tab w) => windowOf_any t w h1 ht)
  have HHd : Hid (∀ w : World, Calls Tryd.prog 58 #[winV a b, winV (P.lz t) (P.tz t)] w fun e w' => e = .returned (.bool true) ∧ Below w.heap.size w w') := fun w => holds_yes _ _ _ _ w (by omega) (by omega)
  have HWd : Hid (∀ w : World, Calls Tryd.prog 59 #[winV a b] w fun e w' => e = .returned (.int .i64 (64 - (a : Int) - (b : Int))) ∧ Below w.heap.size w w') := fun w => width_any _ _ w (by omega) (by omega) (by omega) (by omega)
  have hz : ((t : Int) == 0) = false := by simp; exact h0
  generalize bs ++ (P.ofVal 2 2 ++ P.body a b t) = zs at HPb ⊢
  generalize P.lz t = c at HWn HHd ha
  generalize P.tz t = d at HWn HHd hb
  generalize bs ++ P.ofVal 2 2 = ys at HP2 HPb
  clear h0 ha hb
  have hN := B4.new w v (.int .i64 bs.length) (.int .i64 a) (.int .i64 b)
  have hbN := below4 w (.cells #[v, .int .i64 bs.length] 43) (.cells #[.int .i64 a, .int .i64 b] 76) (.cells #[.slice none 0 0, .int .i64 0] 43) (.cells #[.int .i64 0, .int .i64 0] 76)
  generalize hW : World.alloc _ (.cells #[.int .i64 0, .int .i64 0] 76) = W at hN hbN
  have HW := hide hW
  clear hW
  have hlt := hN.s.lt
  have htW := ht.next hbN
  go_enter Tryd.func41, Tryd.ntmps41
  go_wp2_with fail
  rw [HW.out]
  clear HW
  refine (HWn.out _ htW).mono ?_
  rintro e w3 ⟨rfl, hb3⟩
  have hN3 := hN.next hb3
  have hbw3 := Below.next hbN hb3
  have hsz3 := hb3.size
  clear hb3 hN hbN htW
  have hne3 := B2.new w3 (.int .i64 c) (.int .i64 d) 76
  have hN4 := hN3.next ((Below.refl _ _).alloc (Nat.le_refl _) (.cells #[.int .i64 c, .int .i64 d] 76))
  have hbw4 := below_alloc hbw3 (.cells #[.int .i64 c, .int .i64 d] 76)
  obtain ⟨⟨x04, x14, xf04, xf14⟩, ⟨a04, a14, af04, af14⟩, ⟨r04, r14, rf04, rf14⟩, ⟨s04, s14, sf04, sf14⟩⟩ := id (hN4)
  obtain ⟨n0, n1, nf0, nf1⟩ := B2.new w3 (.int .i64 c) (.int .i64 d) 76
  go_wp2_with fail
  clear x04 x14 xf04 xf14 a04 a14 af04 af14 r04 r14 rf04 rf14 s04 s14 sf04 sf14 n0 n1 nf0 nf1
  have hsz4 : w3.heap.size < (w3.alloc (.cells #[.int .i64 c, .int .i64 d] 76)).heap.size := by simp
  generalize World.alloc w3 (.cells #[.int .i64 c, .int .i64 d] 76) = W4 at hne3 hN4 hbw4 hsz4 ⊢
  have hgs : w.heap.size + 1 + 1 + 1 < w3.heap.size := by omega
  have hg4 : w.heap.size + 1 + 1 + 1 < W4.heap.size := by omega
  clear hN3 hbw3 hlt hsz3
  refine (HHd.out _).mono ?_
  rintro e w5 ⟨rfl, hb5⟩
  have hN5 := hN4.next hb5
  have hbw5 := Below.next hbw4 hb5
  have hg5 : w.heap.size + 1 + 1 + 1 < w5.heap.size := by have := hb5.size; omega
  clear hb5 hN4 hbw4 hne3
  obtain ⟨⟨x0, x1, xf0, xf1⟩, ⟨a0, a1, af0, af1⟩, ⟨r0, r1, rf0, rf1⟩, ⟨s0, s1, sf0, sf1⟩⟩ := id (hN5)
  go_wp2_with fail
  clear x0 x1 xf0 xf1 a0 a1 af0 af1 r0 r1 rf0 rf1 s0 s1 sf0 sf1
  refine (HP2.out _ (hr.below hbw5 (Nat.le_refl _))).mono ?_
  rintro e w6 ⟨vx, rfl, ho6, hb6⟩
  obtain ⟨ax, cx, hvx⟩ := ho6.shp
  rw [hvx] at ho6 ⊢
  clear hvx
  have hN6 := hN5.next hb6
  have hbw6 := Below.next hbw5 hb6
  clear hb6 hN5 hbw5
  obtain ⟨⟨x0, x1, xf0, xf1⟩, ⟨a0, a1, af0, af1⟩, ⟨r0, r1, rf0, rf1⟩, ⟨s0, s1, sf0, sf1⟩⟩ := id (hN6)
  go_wp2_with fail
  clear x0 x1 xf0 xf1 a0 a1 af0 af1 r0 r1 rf0 rf1 s0 s1 sf0 sf1
  have hN8 := hN6.setX (.slice ax (P.pack ys).length cx) (.int .i64 ys.length)
  have ho8 := own_set2 ho6 (g := w.heap.size) (by omega) (.slice ax (P.pack ys).length cx) (.int .i64 ys.length)
  have hbw8 := below_set2 hbw6 (Nat.le_refl _) (.slice ax (P.pack ys).length cx) (.int .i64 ys.length)
  generalize World.setCell (World.setCell w6 ⟨w.heap.size, 0, none⟩ (.slice ax (P.pack ys).length cx)) ⟨w.heap.size, 1, none⟩ (.int .i64 ys.length) = W8 at hN8 ho8 hbw8 ⊢
  clear hN6 ho6 hbw6
  have hNd := hN8.drew
  have hod : OwnB W8.drew _ _ _ := ho8
  have hbd := hbw8.drew
  have hWz : W8.drew.heap.size = W8.heap.size := rfl
  have hltW := hN8.s.lt
  obtain ⟨⟨x0, x1, xf0, xf1⟩, ⟨a0, a1, af0, af1⟩, ⟨r0, r1, rf0, rf1⟩, ⟨s0, s1, sf0, sf1⟩⟩ := id (hN8)
  have d0 := hNd.x.x0; have d1 := hNd.x.x1; have d2 := hNd.p.x0; have d3 := hNd.p.x1
  go_region_held3 (fun wx => wx.cell? ⟨w.heap.size, 0, none⟩ = some (.slice ax (P.pack ys).length cx) ∧ wx.cell? ⟨w.heap.size, 1, none⟩ = some (.int .i64 (ys).length) ∧ wx.cell? ⟨w.heap.size + 1, 0, none⟩ = some (.int .i64 a) ∧ wx.cell? ⟨w.heap.size + 1, 1, none⟩ = some (.int .i64 b)) (refine ⟨?_, ?_, ?_, ?_⟩ <;> ((repeat (with_reducible refine (World.cell?_setCell_other _ _ _ _ (by simp)).trans ?_)); with_reducible assumption)) (first
    | (go_at_call 59; refine (HWd.out _).mono ?_; rintro e w7 ⟨rfl, hb7⟩; have hN7 := hNd.next hb7; obtain ⟨⟨x07, x17, xf07, xf17⟩, ⟨a07, a17, af07, af17⟩, ⟨r07, r17, rf07, rf17⟩, ⟨s07, s17, sf07, sf17⟩⟩ := id (hNd.next hb7); have hb8 := Below.next hbd hb7; have ho7 := OwnB.below hod hb7 (Nat.le_refl _); have hsz7 := hb7.size)
    | (go_at_call 39; refine (HPb.out _ _ ho7.row).mono ?_; rintro e w9 ⟨vy, rfl, hown, hb9⟩; obtain ⟨ay, capy, hvy⟩ := hown.shp; rw [hvy] at hown ⊢; clear hvy; have hN5 := hN7.next hb9; obtain ⟨⟨x09, x19, xf09, xf19⟩, ⟨a09, a19, af09, af19⟩, ⟨r09, r19, rf09, rf19⟩, ⟨s09, s19, sf09, sf19⟩⟩ := id (hN7.next hb9); have hb6 := Below.next hb8 hb9))
  go_wp2
  have hl7 := hN7.s.lt
  have q1 := (hN5.r.set (.slice ay (P.pack zs).length capy) (.int .i64 (zs.length : Nat))).other (g' := w.heap.size + 1 + 1 + 1) (by omega) (.int .i64 a) (.int .i64 b)
  have q2 := (hN5.s.other (g' := w.heap.size + 1 + 1) (by omega) (.slice ay (P.pack zs).length capy) (.int .i64 (zs.length : Nat))).set (.int .i64 a) (.int .i64 b)
  refine bodyPost_ret (v := .tuple #[.agg #[.slice ay (P.pack zs).length capy, .int .i64 (zs.length : Nat)], winV a b]) (by simp [results, Tryd.results41, go_sem, q1.x0, q1.x1, q2.x0, q2.x1]) rfl ⟨_, rfl, ?_, ?_⟩
  · exact OwnB.base (own_set2 (own_set2 hown (g := w.heap.size + 1 + 1) (by omega) _ _) (g := w.heap.size + 1 + 1 + 1) (by omega) _ _) (by omega)
  · exact below_set2 (below_set2 hb6 (by omega) _ _) (by omega) _ _
set_option maxHeartbeats 4000000 in
/-- A turn that wants a window of its own. -/
theorem pt_new (v : Value) (bs : List Bool) (t a b : Nat) (w : World) (hr : RowB w v (P.pack bs)) (hl : bs.length + 78 ≤ 80000) (h0 : t ≠ 0) (h1 : t < 18446744073709551616) (hnh : ¬ (a ≤ P.lz t ∧ b ≤ P.tz t)) (ht : Tab w) :
    Calls Tryd.prog 41 #[.agg #[v, .int .i64 bs.length], .int .u64 t, winV a b] w fun e w' =>
      ∃ vy, e = .returned (.tuple #[.agg #[vy, .int .i64 ((bs ++ (P.ofVal 3 2 ++ (P.ofVal (P.lz t) 6 ++ (P.ofVal (63 - P.lz t - P.tz t) 6 ++ P.body (P.lz t) (P.tz t) t)))).length : Nat)], winV (P.lz t : Nat) (P.tz t : Nat)]) ∧ OwnB w' w.heap.size vy (P.pack (bs ++ (P.ofVal 3 2 ++ (P.ofVal (P.lz t) 6 ++ (P.ofVal (63 - P.lz t - P.tz t) 6 ++ P.body (P.lz t) (P.tz t) t))))) ∧ Below w.heap.size w w' := by
  have hcd := P.lz_tz t h0 h1
  have HPb : Hid (∀ (vy : Value) (w : World), RowB w vy (P.pack (bs ++ P.ofVal 3 2 ++ P.ofVal (P.lz t) 6 ++ P.ofVal (63 - P.lz t - P.tz t) 6)) → Calls Tryd.prog 39 #[.agg #[vy, .int .i64 (bs ++ P.ofVal 3 2 ++ P.ofVal (P.lz t) 6 ++ P.ofVal (63 - P.lz t - P.tz t) 6).length], .int .u64 ((t : Int) / 2 ^ P.tz t), .int .i64 (64 - (P.lz t : Int) - (P.tz t : Int))] w fun e w' =>
      ∃ vz, e = .returned (.agg #[vz, .int .i64 ((bs ++ (P.ofVal 3 2 ++ (P.ofVal (P.lz t) 6 ++ (P.ofVal (63 - P.lz t - P.tz t) 6 ++ P.body (P.lz t) (P.tz t) t)))).length : Nat)]) ∧ OwnB w' w.heap.size vz (P.pack (bs ++ (P.ofVal 3 2 ++ (P.ofVal (P.lz t) 6 ++ (P.ofVal (63 - P.lz t - P.tz t) 6 ++ P.body (P.lz t) (P.tz t) t))))) ∧ Below w.heap.size w w') := fun vy w hr => push_body vy _ bs t (P.lz t) (P.tz t) w hr (by simp [P.ofVal_len]; omega) h0 h1 (Nat.le_refl _) (Nat.le_refl _) (by simp only [List.append_assoc])
  have HWn := hide (fun (w : World) (ht : Tab w) => windowOf_any t w h1 ht)
  have HHd : Hid (∀ w : World, Calls Tryd.prog 58 #[winV a b, winV (P.lz t) (P.tz t)] w fun e w' => e = .returned (.bool false) ∧ Below w.heap.size w w') := fun w => holds_no _ _ _ _ w (by omega)
  have hz : ((t : Int) == 0) = false := by simp; exact h0
  generalize bs ++ (P.ofVal 3 2 ++ (P.ofVal (P.lz t) 6 ++ (P.ofVal (63 - P.lz t - P.tz t) 6 ++ P.body (P.lz t) (P.tz t) t))) = zs at HPb ⊢
  generalize P.lz t = c at *
  generalize P.tz t = d at *
  clear h0 hnh
  have HWd : Hid (∀ w : World, Calls Tryd.prog 59 #[winV c d] w fun e w' => e = .returned (.int .i64 (64 - (c : Int) - (d : Int))) ∧ Below w.heap.size w w') := fun w => width_any _ _ w (by omega) (by omega) (by omega) (by omega)
  have HP3 : Hid (∀ w : World, RowB w v (P.pack bs) → Calls Tryd.prog 39 #[.agg #[v, .int .i64 (bs).length], .int .u64 3, .int .i64 2] w fun e w' =>
      ∃ vz, e = .returned (.agg #[vz, .int .i64 ((bs ++ P.ofVal 3 2).length : Nat)]) ∧ OwnB w' w.heap.size vz (P.pack (bs ++ P.ofVal 3 2)) ∧ Below w.heap.size w w') :=
    fun w hr => xpush_bits v bs 3 2 w hr (by decide) (by decide) (by decide) (by omega)
  have HPc : Hid (∀ (vy : Value) (w : World), RowB w vy (P.pack (bs ++ P.ofVal 3 2)) → Calls Tryd.prog 39 #[.agg #[vy, .int .i64 (bs ++ P.ofVal 3 2).length], .int .u64 c, .int .i64 6] w fun e w' =>
      ∃ vz, e = .returned (.agg #[vz, .int .i64 ((bs ++ P.ofVal 3 2 ++ P.ofVal c 6).length : Nat)]) ∧ OwnB w' w.heap.size vz (P.pack (bs ++ P.ofVal 3 2 ++ P.ofVal c 6)) ∧ Below w.heap.size w w') :=
    fun vy w hr => xpush_bits vy _ c 6 w hr (by decide) (by omega) (by omega) (by simp [P.ofVal_len]; omega)
  have HPd : Hid (∀ (vy : Value) (w : World), RowB w vy (P.pack (bs ++ P.ofVal 3 2 ++ P.ofVal c 6)) → Calls Tryd.prog 39 #[.agg #[vy, .int .i64 (bs ++ P.ofVal 3 2 ++ P.ofVal c 6).length], .int .u64 (IntKind.u64.wrap (IntKind.i64.wrap (64 - (c : Int) - (d : Int) - 1))), .int .i64 6] w fun e w' =>
      ∃ vz, e = .returned (.agg #[vz, .int .i64 ((bs ++ P.ofVal 3 2 ++ P.ofVal c 6 ++ P.ofVal (63 - c - d) 6).length : Nat)]) ∧ OwnB w' w.heap.size vz (P.pack (bs ++ P.ofVal 3 2 ++ P.ofVal c 6 ++ P.ofVal (63 - c - d) 6)) ∧ Below w.heap.size w w') := by
    intro vy w hr
    have h := xpush_bits vy _ (63 - c - d) 6 w hr (by decide) (by omega) (by omega) (by simp [P.ofVal_len]; omega)
    have e : ((63 - c - d : Nat) : Int) = IntKind.u64.wrap (IntKind.i64.wrap (64 - (c : Int) - (d : Int) - 1)) := by rw [IntKind.wrap_u64, IntKind.wrap_i64]; omega
    rw [e] at h
    exact h
  generalize bs ++ P.ofVal 3 2 ++ P.ofVal c 6 ++ P.ofVal (63 - c - d) 6 = y3 at HPb HPd
  generalize bs ++ P.ofVal 3 2 ++ P.ofVal c 6 = y2 at HPc HPd
  generalize bs ++ P.ofVal 3 2 = y1 at HP3 HPc
  have hN := B4.new w v (.int .i64 bs.length) (.int .i64 a) (.int .i64 b)
  have hbN := below4 w (.cells #[v, .int .i64 bs.length] 43) (.cells #[.int .i64 a, .int .i64 b] 76) (.cells #[.slice none 0 0, .int .i64 0] 43) (.cells #[.int .i64 0, .int .i64 0] 76)
  generalize hW : World.alloc _ (.cells #[.int .i64 0, .int .i64 0] 76) = W at hN hbN
  have HW := hide hW
  clear hW
  have hlt := hN.s.lt
  have htW := ht.next hbN
  go_enter Tryd.func41, Tryd.ntmps41
  go_wp2_with fail
  rw [HW.out]
  clear HW
  refine (HWn.out _ htW).mono ?_
  rintro e w3 ⟨rfl, hb3⟩
  have hN3 := hN.next hb3
  have hbw3 := Below.next hbN hb3
  have hsz3 := hb3.size
  clear hb3 hN hbN htW
  have hne3 := B2.new w3 (.int .i64 c) (.int .i64 d) 76
  have hN4 := hN3.next ((Below.refl _ _).alloc (Nat.le_refl _) (.cells #[.int .i64 c, .int .i64 d] 76))
  have hbw4 := below_alloc hbw3 (.cells #[.int .i64 c, .int .i64 d] 76)
  obtain ⟨⟨x04, x14, xf04, xf14⟩, ⟨a04, a14, af04, af14⟩, ⟨r04, r14, rf04, rf14⟩, ⟨s04, s14, sf04, sf14⟩⟩ := id (hN4)
  obtain ⟨n0, n1, nf0, nf1⟩ := B2.new w3 (.int .i64 c) (.int .i64 d) 76
  go_wp2_with fail
  clear x04 x14 xf04 xf14 a04 a14 af04 af14 r04 r14 rf04 rf14 s04 s14 sf04 sf14 n0 n1 nf0 nf1
  have hsz4 : w3.heap.size < (w3.alloc (.cells #[.int .i64 c, .int .i64 d] 76)).heap.size := by simp
  generalize World.alloc w3 (.cells #[.int .i64 c, .int .i64 d] 76) = W4 at hne3 hN4 hbw4 hsz4 ⊢
  have hgs : w.heap.size + 1 + 1 + 1 < w3.heap.size := by omega
  have hg4 : w.heap.size + 1 + 1 + 1 < W4.heap.size := by omega
  clear hN3 hbw3 hlt hsz3
  refine (HHd.out _).mono ?_
  rintro e w5 ⟨rfl, hb5⟩
  have hN5 := hN4.next hb5
  have hne5 := hne3.next hb5
  have hbw5 := Below.next hbw4 hb5
  have hg5 : w.heap.size + 1 + 1 + 1 < w5.heap.size := by have := hb5.size; omega
  clear hb5 hN4 hbw4 hne3 HHd HWn
  obtain ⟨⟨x0, x1, xf0, xf1⟩, ⟨a0, a1, af0, af1⟩, ⟨r0, r1, rf0, rf1⟩, ⟨s0, s1, sf0, sf1⟩⟩ := id (hN5)
  obtain ⟨n0, n1, nf0, nf1⟩ := id hne5
  go_wp2_with fail
  clear x0 x1 xf0 xf1 a0 a1 af0 af1 r0 r1 rf0 rf1 s0 s1 sf0 sf1 n0 n1 nf0 nf1
  have hN6 := hN5.setW (.int .i64 c) (.int .i64 d)
  have hbw6 := below_set2 (g := w.heap.size + 1) hbw5 (by omega) (.int .i64 c) (.int .i64 d)
  generalize World.setCell (World.setCell w5 ⟨w.heap.size + 1, 0, none⟩ (.int .i64 c)) ⟨w.heap.size + 1, 1, none⟩ (.int .i64 d) = W6 at hN6 hbw6 ⊢
  clear hN5 hbw5 hne5 hg5 hgs hg4 hsz4
  refine (HP3.out _ (hr.below hbw6 (Nat.le_refl _))).mono ?_
  rintro e w7 ⟨vx, rfl, ho7, hb7⟩
  obtain ⟨ax, cx, hvx⟩ := ho7.shp
  rw [hvx] at ho7 ⊢
  clear hvx
  have hN7 := hN6.next hb7
  have hbw7 := Below.next hbw6 hb7
  have hg7 := hN6.s.lt
  clear hb7 hN6 hbw6
  obtain ⟨⟨x0, x1, xf0, xf1⟩, ⟨a0, a1, af0, af1⟩, ⟨r0, r1, rf0, rf1⟩, ⟨s0, s1, sf0, sf1⟩⟩ := id (hN7)
  go_wp2_with fail
  clear x0 x1 xf0 xf1 a0 a1 af0 af1 r0 r1 rf0 rf1 s0 s1 sf0 sf1
  have hN8 := hN7.setX (.slice ax (P.pack y1).length cx) (.int .i64 y1.length)
  have ho8 := own_set2 ho7 (g := w.heap.size) (by omega) (.slice ax (P.pack y1).length cx) (.int .i64 y1.length)
  have hbw8 := below_set2 hbw7 (Nat.le_refl _) (.slice ax (P.pack y1).length cx) (.int .i64 y1.length)
  generalize World.setCell (World.setCell w7 ⟨w.heap.size, 0, none⟩ (.slice ax (P.pack y1).length cx)) ⟨w.heap.size, 1, none⟩ (.int .i64 y1.length) = W8 at hN8 ho8 hbw8 ⊢
  clear hN7 ho7 hbw7 hg7
  refine (HPc.out _ _ ho8.row).mono ?_
  rintro e w9 ⟨vx, rfl, ho9, hb9⟩
  obtain ⟨ax, cx, hvx⟩ := ho9.shp
  rw [hvx] at ho9 ⊢
  clear hvx
  have hN9 := hN8.next hb9
  have hbw9 := Below.next hbw8 hb9
  have hg9 := hN8.s.lt
  clear hb9 hN8 hbw8
  clear ho8
  obtain ⟨⟨x0, x1, xf0, xf1⟩, ⟨a0, a1, af0, af1⟩, ⟨r0, r1, rf0, rf1⟩, ⟨s0, s1, sf0, sf1⟩⟩ := id (hN9)
  go_wp2_with fail
  clear x0 x1 xf0 xf1 a0 a1 af0 af1 r0 r1 rf0 rf1 s0 s1 sf0 sf1
  have hN10 := hN9.setX (.slice ax (P.pack y2).length cx) (.int .i64 y2.length)
  have ho10 := own_set2 ho9 (g := w.heap.size) (by omega) (.slice ax (P.pack y2).length cx) (.int .i64 y2.length)
  have hbw10 := below_set2 hbw9 (Nat.le_refl _) (.slice ax (P.pack y2).length cx) (.int .i64 y2.length)
  generalize World.setCell (World.setCell w9 ⟨w.heap.size, 0, none⟩ (.slice ax (P.pack y2).length cx)) ⟨w.heap.size, 1, none⟩ (.int .i64 y2.length) = W10 at hN10 ho10 hbw10 ⊢
  clear hN9 ho9 hbw9 hg9
  have hltA := hN10.s.lt
  go_cut [] (fun wc => ∃ ax cx base, w.heap.size + 1 + 1 + 1 < base ∧ B4 wc w.heap.size (.slice ax (P.pack y3).length cx) (.int .i64 y3.length) (.int .i64 c) (.int .i64 d) ∧ OwnB wc base (.slice ax (P.pack y3).length cx) (P.pack y3) ∧ Below w.heap.size w wc)
  case first =>
    have hN1 := hN10.drew
    have hN2 := hN1.drew
    have hb1 := hbw10.drew
    have hb2 := hb1.drew
    have ho1 : OwnB W10.drew _ _ _ := ho10
    have ho2 : OwnB W10.drew.drew _ _ _ := ho10
    obtain ⟨⟨x0, x1, xf0, xf1⟩, ⟨a0, a1, af0, af1⟩, ⟨r0, r1, rf0, rf1⟩, ⟨s0, s1, sf0, sf1⟩⟩ := id (hN10)
    obtain ⟨⟨d0, d1, _, _⟩, ⟨d2, d3, _, _⟩, _, _⟩ := id hN1
    obtain ⟨⟨e0, e1, _, _⟩, ⟨e2, e3, _, _⟩, _, _⟩ := id hN2
    go_region_with (first
      | (go_at_call 59; refine (HWd.out _).mono ?_; rintro e w7 ⟨rfl, hb7⟩; have hN7 := B4.next (by with_reducible first | exact hN1 | exact hN2) hb7; obtain ⟨⟨x07, x17, xf07, xf17⟩, ⟨a07, a17, af07, af17⟩, ⟨r07, r17, rf07, rf17⟩, ⟨s07, s17, sf07, sf17⟩⟩ := id (hN7); have hb8 := Below.next (by with_reducible first | exact hb1 | exact hb2) hb7; have ho7 := OwnB.below (by with_reducible first | exact ho1 | exact ho2) hb7 (Nat.le_refl _); have hN7d := hN7.drew; obtain ⟨⟨x07d, x17d, xf07d, xf17d⟩, ⟨a07d, a17d, af07d, af17d⟩, ⟨r07d, r17d, rf07d, rf17d⟩, ⟨s07d, s17d, sf07d, sf17d⟩⟩ := id (hN7d); have hb8d := hb8.drew; have ho7d : OwnB w7.drew _ _ _ := ho7)
      | (go_at_call 39; with_reducible refine (HPd.out _ _ ?_).mono ?_; (with_reducible first | exact ho7.row | exact ho7d.row); rintro e w9 ⟨vy, rfl, hown, hb9⟩; obtain ⟨ay, capy, hvy⟩ := hown.shp; rw [hvy] at hown ⊢; clear hvy; have hN5 := B4.next (by with_reducible first | exact hN7 | exact hN7d) hb9; obtain ⟨⟨x09, x19, xf09, xf19⟩, ⟨a09, a19, af09, af19⟩, ⟨r09, r19, rf09, rf19⟩, ⟨s09, s19, sf09, sf19⟩⟩ := id (hN5); have hb6 := Below.next (by with_reducible first | exact hb8 | exact hb8d) hb9))
    all_goals go_wp2
    all_goals go_meet
    all_goals (have hl7 := hN7.s.lt; exact ⟨ay, capy, w7.heap.size, hl7, hN5.setX _ _, own_set2 hown (by omega) _ _, below_set2 hb6 (Nat.le_refl _) _ _⟩)
  case rest =>
    clear hN10 ho10 hbw10 HPd HPc HP3 hltA
    obtain ⟨ax, cx, base, hbase, hN11, ho11, hbw11⟩ := hcut
    go_wp2_with fail
    have hNd := hN11.drew
    have hod : OwnB wc.drew _ _ _ := ho11
    have hbd := hbw11.drew
    have hWz : wc.drew.heap.size = wc.heap.size := rfl
    have hltW := hN11.s.lt
    obtain ⟨⟨x0, x1, xf0, xf1⟩, ⟨a0, a1, af0, af1⟩, ⟨r0, r1, rf0, rf1⟩, ⟨s0, s1, sf0, sf1⟩⟩ := id (hN11)
    have d0 := hNd.x.x0; have d1 := hNd.x.x1; have d2 := hNd.p.x0; have d3 := hNd.p.x1
    go_region_held3 (fun wx => wx.cell? ⟨w.heap.size, 0, none⟩ = some (.slice ax (P.pack y3).length cx) ∧ wx.cell? ⟨w.heap.size, 1, none⟩ = some (.int .i64 (y3).length) ∧ wx.cell? ⟨w.heap.size + 1, 0, none⟩ = some (.int .i64 c) ∧ wx.cell? ⟨w.heap.size + 1, 1, none⟩ = some (.int .i64 d)) (refine ⟨?_, ?_, ?_, ?_⟩ <;> ((repeat (with_reducible refine (World.cell?_setCell_other _ _ _ _ (by simp)).trans ?_)); with_reducible assumption)) (first
      | (go_at_call 59; refine (HWd.out _).mono ?_; rintro e w7 ⟨rfl, hb7⟩; have hN7 := hNd.next hb7; obtain ⟨⟨x07, x17, xf07, xf17⟩, ⟨a07, a17, af07, af17⟩, ⟨r07, r17, rf07, rf17⟩, ⟨s07, s17, sf07, sf17⟩⟩ := id (hNd.next hb7); have hb8 := Below.next hbd hb7; have ho7 := OwnB.below hod hb7 (Nat.le_refl _); have hsz7 := hb7.size)
      | (go_at_call 39; refine (HPb.out _ _ ho7.row).mono ?_; rintro e w9 ⟨vy, rfl, hown, hb9⟩; obtain ⟨ay, capy, hvy⟩ := hown.shp; rw [hvy] at hown ⊢; clear hvy; have hN5 := hN7.next hb9; obtain ⟨⟨x09, x19, xf09, xf19⟩, ⟨a09, a19, af09, af19⟩, ⟨r09, r19, rf09, rf19⟩, ⟨s09, s19, sf09, sf19⟩⟩ := id (hN7.next hb9); have hb6 := Below.next hb8 hb9))
    go_wp2
    have hl7 := hN7.s.lt
    have q1 := (hN5.r.set (.slice ay (P.pack zs).length capy) (.int .i64 (zs.length : Nat))).other (g' := w.heap.size + 1 + 1 + 1) (by omega) (.int .i64 c) (.int .i64 d)
    have q2 := (hN5.s.other (g' := w.heap.size + 1 + 1) (by omega) (.slice ay (P.pack zs).length capy) (.int .i64 (zs.length : Nat))).set (.int .i64 c) (.int .i64 d)
    refine bodyPost_ret (v := .tuple #[.agg #[.slice ay (P.pack zs).length capy, .int .i64 (zs.length : Nat)], winV c d]) (by simp [results, Tryd.results41, go_sem, q1.x0, q1.x1, q2.x0, q2.x1]) rfl ⟨_, rfl, ?_, ?_⟩
    · exact OwnB.base (own_set2 (own_set2 hown (g := w.heap.size + 1 + 1) (by omega) _ _) (g := w.heap.size + 1 + 1 + 1) (by omega) _ _) (by omega)
    · exact below_set2 (below_set2 hb6 (by omega) _ _) (by omega) _ _

theorem pushTurn_any (v : Value) (bs : List Bool) (t : Nat) (p : Nat × Nat) (w : World) (hr : RowB w v (P.pack bs)) (hl : bs.length + 78 ≤ 80000) (h1 : t < 18446744073709551616) (ht : Tab w) :
    Calls Tryd.prog 41 #[.agg #[v, .int .i64 bs.length], .int .u64 t, winV p.1 p.2] w fun e w' =>
      ∃ vy, e = .returned (.tuple #[.agg #[vy, .int .i64 ((bs ++ P.tbits p t).length : Nat)], winV (P.nw p t).1 (P.nw p t).2]) ∧ OwnB w' w.heap.size vy (P.pack (bs ++ P.tbits p t)) ∧ Below w.heap.size w w' := by
  unfold P.tbits P.nw
  by_cases h0 : t = 0
  · subst h0
    rw [if_pos rfl, if_pos rfl]
    exact pt_zero v bs _ _ w hr hl
  · rw [if_neg h0, if_neg h0]
    by_cases h2 : p.1 ≤ P.lz t ∧ p.2 ≤ P.tz t
    · rw [if_pos h2, if_pos h2]
      exact pt_hold v bs t _ _ w hr hl h0 h1 h2.1 h2.2 ht
    · rw [if_neg h2, if_neg h2]
      exact pt_new v bs t _ _ w hr hl h0 h1 h2 ht
end X
end Go.Proofs.YtfjbdgkdkbcnhaaDoor
