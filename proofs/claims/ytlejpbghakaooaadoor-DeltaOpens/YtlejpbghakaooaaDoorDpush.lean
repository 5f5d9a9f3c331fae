/- What delta.push and delta.pushChange answer. -/
import Derived.Test.YtlejpbghakaooaaDoorDsgn
import Derived.Test.YtlejpbghakaooaaDoorPush
import Derived.Test.YtlejpbghakaooaaDoorKitK
namespace Go.Proofs.YtlejpbghakaooaaDoor
open Go.RowKit
set_option linter.unusedVariables false

theorem box_ret {w3 : World} {b : Nat} {x y d0 d1 : Value} (o : Obj) (hd0 : w3.cell? ⟨b, 0, none⟩ = some d0) (hd1 : w3.cell? ⟨b, 1, none⟩ = some d1) :
    (((w3.setCell ⟨b, 0, none⟩ x).setCell ⟨b, 1, none⟩ y).alloc o).cell? ⟨b, 0, none⟩ = some x ∧ (((w3.setCell ⟨b, 0, none⟩ x).setCell ⟨b, 1, none⟩ y).alloc o).cell? ⟨b, 1, none⟩ = some y :=
  ⟨keep_alloc ((World.cell?_setCell_other _ _ _ _ (by simp)).trans (World.cell?_setCell_same _ _ _ hd0)) o, keep_alloc (World.cell?_setCell_same _ _ _ ((World.cell?_setCell_other _ _ _ _ (by simp)).trans hd1)) o⟩
theorem dpush_ok (v : Value) (bs : List Bool) (u m : Nat) (w : World) (hr : RowB w v (P.pack bs)) (h1 : m ≤ 64) (u1 : (u : Int) ≤ 18446744073709551615) (hf : u < 2 ^ m) (hl : bs.length + m ≤ 80000) :
    Calls Tryd.prog 22 #[.agg #[v, .int .i64 bs.length], .int .u64 u, .int .i64 m] w fun e w' =>
      ∃ vy, e = .returned (.agg #[vy, .int .i64 ((bs.length + m : Nat) : Int)]) ∧ OwnB w' w.heap.size vy (P.pack (bs ++ P.ofVal u m)) ∧ Below w.heap.size w w' := by
  have HP := hide (fun (w : World) (hr : RowB w v (P.pack bs)) => push_ok v bs u m w hr h1 u1 hf hl)
  go_enter Tryd.func22, Tryd.ntmps22
  go_wp2_with (go_at_call 33; go_must (refine (HP.out _ (row_two hr _ _)).mono ?_); rintro e w3 ⟨vy, rfl, hown, hb2⟩; have hs3 := hb2.size; obtain ⟨ay, capy, hvy⟩ := hown.shp; rw [hvy] at hown ⊢; clear hvy; obtain ⟨hc0, hc1, hd0, hd1, hf0, hf1, hb, hsz⟩ := box4 hb2; clear hb2)
  generalize P.pack (bs ++ P.ofVal u m) = L at hown ⊢
  have q := fun x y o => box_ret (x := x) (y := y) o hd0 hd1
  refine bodyPost_ret (v := .agg #[.slice ay L.length capy, .int .i64 ((bs.length + m : Nat) : Int)]) (by simp [results, Tryd.results22, go_sem, q]) rfl ⟨_, rfl, ?_, ?_⟩
  · exact World.ownsRow.alloc (OwnB.base (ownsRow_setCell_below (ownsRow_setCell_below hown (by simp) _) (by simp) _) (by simp; omega)) _
  · exact below_alloc ((hb.setCell (by simp) _).setCell (by simp) _) _

theorem hv_lt (k : Nat) : P.hv k < 2 ^ P.hb k := by
  unfold P.hv P.hb; (repeat' split) <;> omega
/-- A change's lowest bits, as the code takes them. -/
def lowB (c : Int) (d : Nat) : Int := bits BinOp.and IntKind.u64 (IntKind.u64.wrap c) (IntKind.u64.wrap (IntKind.u64.wrap (2 ^ d) - 1))
theorem low_bits (c : Int) (d : Nat) (h : d ≤ 64) : lowB c d = ((P.u64 c % 2 ^ d : Nat) : Int) := by
  unfold lowB
  rw [IntKind.wrap_u64, IntKind.wrap_u64, IntKind.wrap_u64]
  have e : ((2 : Int) ^ d % 18446744073709551616 - 1) % 18446744073709551616 = 2 ^ d - 1 := by
    rcases Nat.lt_or_ge d 64 with h' | h'
    · have h1 : (2 : Nat) ^ d ≤ 2 ^ 63 := Nat.pow_le_pow_right (by decide) (by omega)
      have h2 : 0 < (2 : Nat) ^ d := Nat.pow_pos (by decide)
      have h3 : ((2 : Int) ^ d) = ((2 ^ d : Nat) : Int) := by simp
      rw [h3]
      generalize (2 : Nat) ^ d = x at h1 h2
      omega
    · obtain rfl : d = 64 := by omega
      decide
  rw [e, bits_mask .u64 64 (by decide) (fun n a b => by rw [IntKind.wrap_u64]; omega) d h _ (by omega) (by omega)]
  unfold P.u64
  have h4 : 0 ≤ c % 18446744073709551616 := by omega
  generalize c % 18446744073709551616 = q at h4
  obtain ⟨m, rfl⟩ := Int.eq_ofNat_of_zero_le h4
  simp
set_option maxHeartbeats 1000000 in
theorem pushChange_ok (v : Value) (bs : List Bool) (c : Int) (w : World) (hr : RowB w v (P.pack bs)) (h0 : -9223372036854775808 ≤ c) (h1 : c ≤ 9223372036854775807) (hl : bs.length + 68 ≤ 80000) (hs : Shp w) :
    Calls Tryd.prog 23 #[.agg #[v, .int .i64 bs.length], .int .i64 c] w fun e w' =>
      ∃ vy, e = .returned (.agg #[vy, .int .i64 ((bs ++ P.chg c).length : Nat)]) ∧ OwnB w' w.heap.size vy (P.pack (bs ++ P.chg c)) ∧ Below w.heap.size w w' := by
  have hsh := hide (fun (w : World) (hs : Shp w) => shapeOf_any c w h0 h1 hs)
  have hlt := hv_lt (P.cls c)
  have hb4 := P.hb_le (P.cls c)
  have hd4 := P.wd_le (P.cls c)
  unfold P.chg P.chgK
  unfold shapeV at hsh
  generalize P.hv (P.cls c) = a at hsh hlt ⊢
  generalize P.hb (P.cls c) = b at hsh hlt hb4 ⊢
  generalize P.wd (P.cls c) = d at hsh hd4 ⊢
  have hp4 : (2 : Nat) ^ b ≤ 2 ^ 4 := Nat.pow_le_pow_right (by decide) hb4
  have hpd : (2 : Nat) ^ d ≤ 2 ^ 64 := Nat.pow_le_pow_right (by decide) hd4
  have hum : P.u64 c % 2 ^ d < 2 ^ d := Nat.mod_lt _ (Nat.pow_pos (by decide))
  have HP1 : Hid (∀ w : World, RowB w v (P.pack bs) → Calls Tryd.prog 22 #[.agg #[v, .int .i64 bs.length], .int .u64 a, .int .i64 b] w fun e w' =>
      ∃ vy, e = .returned (.agg #[vy, .int .i64 ((bs.length : Int) + (b : Int))]) ∧ OwnB w' w.heap.size vy (P.pack (bs ++ P.ofVal a b)) ∧ Below w.heap.size w w') := by
    intro w hr
    have h := dpush_ok v bs a b w hr (by omega) (by omega) hlt (by omega)
    rw [Int.natCast_add] at h
    exact h
  have HP2 : Hid (∀ (vy : Value) (w : World), RowB w vy (P.pack (bs ++ P.ofVal a b)) → Calls Tryd.prog 22 #[.agg #[vy, .int .i64 ((bs.length : Int) + (b : Int))], .int .u64 (bits BinOp.and IntKind.u64 (IntKind.u64.wrap c) (IntKind.u64.wrap (IntKind.u64.wrap (2 ^ d) - 1))), .int .i64 d] w fun e w' =>
      ∃ vz, e = .returned (.agg #[vz, .int .i64 ((bs ++ (P.ofVal a b ++ P.ofVal (P.u64 c % 2 ^ d) d)).length : Nat)]) ∧ OwnB w' w.heap.size vz (P.pack (bs ++ (P.ofVal a b ++ P.ofVal (P.u64 c % 2 ^ d) d))) ∧ Below w.heap.size w w') := by
    intro vy w hr
    have hl1 : (bs ++ P.ofVal a b).length = bs.length + b := by rw [List.length_append, P.ofVal_len]
    have h := dpush_ok vy (bs ++ P.ofVal a b) (P.u64 c % 2 ^ d) d w hr hd4 (by omega) hum (by omega)
    rw [← low_bits c d hd4, hl1, Int.natCast_add, List.append_assoc] at h
    have e : (bs ++ (P.ofVal a b ++ P.ofVal (P.u64 c % 2 ^ d) d)).length = bs.length + b + d := by simp [P.ofVal_len]; omega
    rw [e]
    exact h
  generalize bs ++ (P.ofVal a b ++ P.ofVal (P.u64 c % 2 ^ d) d) = zs at HP2 ⊢
  clear hum hpd hp4 hlt
  go_enter Tryd.func23, Tryd.ntmps23
  go_wp2_with (go_at_call 34; go_must (refine (hsh.out _ (hs.next (((Below.refl _ _).alloc (Nat.le_refl _) _).alloc (by simp) _))).mono ?_); rintro e w3 ⟨rfl, hb2⟩; have hs3 := hb2.size; obtain ⟨hc0, hc1, hd0, hd1, hf0, hf1, hb, hsz⟩ := box4 hb2; clear hb2)
  generalize hW4 : w3.alloc (.cells #[.int .u64 a, .int .i64 b, .int .i64 d] 62) = W4
  have x0 : W4.cell? ⟨w.heap.size, 0, none⟩ = some v := by rw [← hW4]; exact keep_alloc hc0 _
  have x1 : W4.cell? ⟨w.heap.size, 1, none⟩ = some (.int .i64 bs.length) := by rw [← hW4]; exact keep_alloc hc1 _
  have y0 : W4.cell? ⟨w3.heap.size, 0, none⟩ = some (.int .u64 a) := by rw [← hW4]; simp
  have y1 : W4.cell? ⟨w3.heap.size, 1, none⟩ = some (.int .i64 b) := by rw [← hW4]; simp
  have y2 : W4.cell? ⟨w3.heap.size, 2, none⟩ = some (.int .i64 d) := by rw [← hW4]; simp
  have z0 : W4.cell? ⟨w.heap.size + 1, 0, none⟩ = some (.slice none 0 0) := by rw [← hW4]; exact keep_alloc hd0 _
  have z1 : W4.cell? ⟨w.heap.size + 1, 1, none⟩ = some (.int .i64 0) := by rw [← hW4]; exact keep_alloc hd1 _
  have hbA : Below w3.heap.size w3 W4 := by rw [← hW4]; exact (Below.refl _ _).alloc (Nat.le_refl _) _
  have g0 : W4.frozen? ⟨w.heap.size + 1, 0, none⟩ = false := (hbA.frozen (p := ⟨w.heap.size + 1, 0, none⟩) hsz).trans hf0
  have g1 : W4.frozen? ⟨w.heap.size + 1, 1, none⟩ = false := (hbA.frozen (p := ⟨w.heap.size + 1, 1, none⟩) hsz).trans hf1
  have hbW : Below w.heap.size w W4 := hb.trans (hbA.mono (by omega))
  have hne : w3.heap.size ≠ w.heap.size + 1 := by omega
  have hsW : w.heap.size + 1 < W4.heap.size := by have := hbA.size; omega
  clear hW4 hc0 hc1 hd0 hd1 hf0 hf1 hbA hs3 hsz hb
  go_region_held3 (fun wx => wx.cell? ⟨w.heap.size, 0, none⟩ = some v ∧ wx.cell? ⟨w.heap.size, 1, none⟩ = some (.int .i64 bs.length) ∧ wx.cell? ⟨w3.heap.size, 0, none⟩ = some (.int .u64 a) ∧ wx.cell? ⟨w3.heap.size, 1, none⟩ = some (.int .i64 b) ∧ wx.cell? ⟨w3.heap.size, 2, none⟩ = some (.int .i64 d)) (first | (refine ⟨?_, ?_, ?_, ?_, ?_⟩ <;> with_reducible assumption) | (rw [show World.cell? W4.drew = World.cell? W4 from rfl]; exact ⟨x0, x1, y0, y1, y2⟩) | (refine ⟨?_, ?_, ?_, ?_, ?_⟩ <;> (refine (World.cell?_setCell_other _ _ _ _ (by first | simp | simp [hne] | simp [hne.symm])).trans ((World.cell?_setCell_other _ _ _ _ (by first | simp | simp [hne] | simp [hne.symm])).trans ?_) <;> with_reducible assumption))) (first
    | (go_at_call 22; refine (HP2.out _ _ hown.row).mono ?_; rintro e w6 ⟨vz, rfl, hown6, hb7⟩; obtain ⟨az, capz, hvz⟩ := hown6.shp; rw [hvz] at hown6 ⊢; clear hvz; have hb8 := Below.next hb6 hb7; have x0'' := keep_cell x0' hb7; have x1'' := keep_cell x1' hb7; have y0'' := keep_cell y0' hb7; have y1'' := keep_cell y1' hb7; have y2'' := keep_cell y2' hb7; have z0'' := keep_cell z0' hb7; have z1'' := keep_cell z1' hb7; have g0'' := (hb7.frozen (p := ⟨w.heap.size + 1, 0, none⟩) (World.block_lt_of_cell? _ _ z0')).trans g0'; have g1'' := (hb7.frozen (p := ⟨w.heap.size + 1, 1, none⟩) (World.block_lt_of_cell? _ _ z1')).trans g1')
    | (go_at_call 22; refine (HP1.out _ (hr.below hbW.drew (Nat.le_refl _))).mono ?_; rintro e w5 ⟨vy, rfl, hown, hb5⟩; obtain ⟨ay, capy, hvy⟩ := hown.shp; rw [hvy] at hown ⊢; clear hvy; have hb6 := Below.next (w1 := W4.drew) hbW.drew hb5; have x0' := keep_cell (w := W4.drew) x0 hb5; have x1' := keep_cell (w := W4.drew) x1 hb5; have y0' := keep_cell (w := W4.drew) y0 hb5; have y1' := keep_cell (w := W4.drew) y1 hb5; have y2' := keep_cell (w := W4.drew) y2 hb5; have z0' := keep_cell (w := W4.drew) z0 hb5; have z1' := keep_cell (w := W4.drew) z1 hb5; have g0' := (hb5.frozen (p := ⟨w.heap.size + 1, 0, none⟩) hsW).trans g0; have g1' := (hb5.frozen (p := ⟨w.heap.size + 1, 1, none⟩) hsW).trans g1; have hs5 := hb5.size; clear hb5))
  go_wp2
  refine bodyPost_ret (v := .agg #[.slice az (P.pack zs).length capz, .int .i64 (zs.length : Nat)]) (by simp [results, Tryd.results23, go_sem, z0'', z1'']) rfl ⟨_, rfl, ?_, (hb8.setCell (by simp) _).setCell (by simp) _⟩
  have hz := World.block_lt_of_cell? _ _ z1'
  simp at hz
  exact OwnB.base (ownsRow_setCell_below (ownsRow_setCell_below hown6 (by simp; omega) _) (by simp; omega) _) (by omega)
end Go.Proofs.YtlejpbghakaooaaDoor
