/- BitsPush holds where what is handed in is of bulk at most 1048576: Check, Push and Pull answer what the document says, and nothing that was there is changed. -/
import Derived.Test.YtimenpceegcboaaPacked
import Derived.Test.YtimenpceegcboaaBitsParts
import Derived.Deep.RegionHeld3
namespace Go.Proofs.Ytimenpceegcboaa
open Go.ChangeShapes Go.WideShapes Go.ChangeAt Go.RowKit
set_option linter.unusedVariables false


set_option maxRecDepth 100000 in
set_option maxHeartbeats 2000000 in
theorem bp_oa_1 (v : Value) (bs : List Bool) (u m : Nat) (at' : Int) (w : World) (hr : RowB w v (P.pack bs)) (hn : bs.length ≤ 8388608) (hm : m ≤ 64) (u1 : (u : Int) ≤ 18446744073709551615) (p0 : -9223372036854775808 ≤ at') (p1 : at' ≤ 9223372036854775807) (hlook : (decide (2000 < (bs.length : Int)) = false) ∨ decide (2000 < (bs.length : Int)) = true ∧ decide ((bs.length : Int) ≤ 80000) = false) (hfit : u < 2 ^ m) (hm6 : m < 64) (ht2 : (u : Int) / 2 ^ m ≤ 0) (hbig : bs.length ≤ 2000) (hq : at' < 0) :
    Calls Try.prog 4 #[.agg #[v, .int .i64 bs.length], .int .u64 u, .int .i64 m, .int .i64 at'] w fun e w' => e = .returned (.bool true) ∧ Below w.heap.size w w' := by
  have hbt : Byt (P.pack bs) := P.pack_byt _ bs
  have hok := P.pack_ok bs
  have hlen : (P.pack bs).length ≤ 140737488351232 := by rw [P.pack_len]; unfold P.bytesN; omega
  have n1 : (bs.length : Int) ≤ 9223372036854775807 := by omega
  have HF : Hid (∀ o : Obj, Calls Try.prog 18 #[.agg #[v, .int .i64 bs.length]] (w.alloc o) fun e w' => e = .returned (.int .i64 0) ∧ Below (w.alloc o).heap.size (w.alloc o) w') := fun o => fault_ok v _ _ _ (hr.below ((Below.refl _ _).alloc (Nat.le_refl _) o) (Nat.le_refl _)) hbt hlen hok
  have HPU : Hid (∀ w' : World, Below w.heap.size w w' → Calls Try.prog 19 #[.agg #[v, .int .i64 bs.length], .int .u64 u, .int .i64 m] w' fun e w2 => ∃ vy, e = .returned (.tuple #[.agg #[vy, .int .i64 ((bs.length + m : Nat) : Int)], .int .i64 0]) ∧ OwnB w2 w'.heap.size vy (P.pack (bs ++ P.ofVal u m)) ∧ Below w'.heap.size w' w2) := fun w' hb => push_ok v bs u m w' (hr.below hb (Nat.le_refl _)) hm u1 hfit (by omega)
  have HPL : Hid (∀ w' : World, Below w.heap.size w w' → Calls Try.prog 20 #[.agg #[v, .int .i64 bs.length], .int .i64 at', .int .i64 m] w' fun e w2 => e = .returned (.tuple #[.int .u64 (0 : Int), .int .i64 1]) ∧ Below w'.heap.size w' w2) := fun w' hb => pull_arg v _ _ at' m w' (hr.below hb (Nat.le_refl _)) hbt n1 hok (by omega)
  have HCK : Hid (∀ w' : World, Below w.heap.size w w' → Calls Try.prog 21 #[.agg #[v, .int .i64 bs.length]] w' fun e w2 => e = .returned (.int .i64 0) ∧ Below w'.heap.size w' w2) := fun w' hb => check_ok v _ _ w' (hr.below hb (Nat.le_refl _)) hbt n1 hok
  have t1 : decide ((m : Int) < 64) = true := by simp; omega
  have t2 : decide (0 < (u : Int) / 2 ^ m) = false := by simp; exact ht2
  have t3 : decide (80000 < (bs.length : Int) + (m : Int)) = false := by simp; omega
  have q1 : decide (at' < 0) = true := by simp; omega
  have hcl : (bs ++ P.ofVal u m).length = bs.length + m := by rw [List.length_append, P.ofVal_len]
  have HUN : Hid (∀ w' : World, Below w.heap.size w w' → Calls Try.prog 24 #[.agg #[v, .int .i64 bs.length]] w' fun e w2 => e = .returned (.string (P.strB bs)) ∧ Below w'.heap.size w' w2) := fun w' hb => unpacked_any v bs w' (hr.below hb (Nat.le_refl _)) (by omega)
  have HSG : Hid (∀ w' : World, Calls Try.prog 25 #[.int .u64 u, .int .i64 m] w' fun e w2 => e = .returned (.string (P.strB (P.ofVal u m))) ∧ w2 = w') := fun w' => signs_any u m w' hm u1
  have HPK : Hid (∀ w' : World, Calls Try.prog 23 #[.string (P.strB (bs ++ P.ofVal u m))] w' fun e w2 => ∃ vp, e = .returned (.agg #[vp, .int .i64 ((bs.length : Int) + (m : Int))]) ∧ OwnB w2 w'.heap.size vp (P.pack (bs ++ P.ofVal u m)) ∧ Below w'.heap.size w' w2) := by
    intro w'
    have h := packed_any (bs ++ P.ofVal u m) w' (by omega)
    rw [hcl, Int.natCast_add] at h
    exact h
  have HRS : Hid (∀ (w' : World) (v1 v2 : Value), RowB w' v1 (P.pack (bs ++ P.ofVal u m)) → RowB w' v2 (P.pack (bs ++ P.ofVal u m)) → Calls Try.prog 22 #[.agg #[v1, .int .i64 ((bs.length : Int) + (m : Int))], .agg #[v2, .int .i64 ((bs.length : Int) + (m : Int))]] w' fun e w2 => e = .returned (.bool true) ∧ Below w'.heap.size w' w2) := by
    intro w' v1 v2 h1 h2
    refine (refSame_any v1 v2 _ _ _ _ w' h1 h2).mono fun e w2 h => ⟨?_, h.2⟩
    rw [h.1]; simp [sameL]
  have happ : P.strB bs ++ P.strB (P.ofVal u m) = P.strB (bs ++ P.ofVal u m) := P.strB_app _ _
  have hz2 : (P.strB bs).size ≤ 2000 := by rw [P.strB_size]; omega
  have hz3 : (P.strB (P.ofVal u m)).size ≤ 64 := by rw [P.strB_size, P.ofVal_len]; omega
  have hz4 : ¬ 9223372036854775807 < (P.strB bs).size + (P.strB (P.ofVal u m)).size := by omega
  clear hcl
  have hl1 : decide (2000 < (bs.length : Int)) = false := by simp; omega
  generalize P.strB bs = S at *
  generalize P.strB (P.ofVal u m) = S2 at *
  generalize P.strB (bs ++ P.ofVal u m) = S3 at *
  generalize bs ++ P.ofVal u m = cs at *
  clear hlook hfit
  go_enter Try.func4, Try.ntmps4
  go_wp2_with (first
    | (go_at_call 18; refine (HF.out _).mono ?_; rintro e w1 ⟨rfl, hb1⟩; obtain ⟨hx0, hx1, hb, hsz⟩ := box2 hb1; clear hb1 hsz)
    | (go_at_call 19; refine (HPU.out _ hb).mono ?_; rintro e w2 ⟨vy, rfl, hown, hb2⟩; obtain ⟨ay, capy, hvy⟩ := hown.shape; rw [hvy] at hown ⊢; clear hvy; replace hx0 := keep_cell hx0 hb2; replace hx1 := keep_cell hx1 hb2; replace hb := Below.next hb hb2; clear hb2; have hs2 : w.heap.size < w2.heap.size := World.block_lt_of_cell? _ _ hx1)
    | (go_at_call 20; refine (HPL.out _ (below_alloc hb _)).mono ?_; rintro e w3 ⟨rfl, hb3⟩; obtain ⟨hy0, hy1, hb23, hsy⟩ := box2 hb3; have hry := hown.row.below hb23 (Nat.le_refl _); replace hx0 := keep_cell hx0 hb23; replace hx1 := keep_cell hx1 hb23; replace hb := Below.next hb hb23; clear hb3 hb23 hsy hown)
    | (go_at_call 21; refine (HCK.out _ hb).mono ?_; rintro e w4 ⟨rfl, hb4⟩; replace hry := hry.below hb4 (Nat.le_refl _); replace hy0 := keep_cell hy0 hb4; replace hy1 := keep_cell hy1 hb4; replace hx0 := keep_cell hx0 hb4; replace hx1 := keep_cell hx1 hb4; replace hb := Below.next hb hb4; clear hb4))
  generalize hyb : w2.heap.size = yb at *
  clear hyb
  have hc := Below.refl w4.heap.size w4
  go_region_held3 (fun wx => wx.cell? ⟨w.heap.size, 0, none⟩ = some v ∧ wx.cell? ⟨w.heap.size, 1, none⟩ = some (.int .i64 bs.length) ∧ wx.cell? ⟨yb, 0, none⟩ = some (.slice ay (P.pack cs).length capy) ∧ wx.cell? ⟨yb, 1, none⟩ = some (.int .i64 ((bs.length : Int) + (m : Int)))) (go_keep) (first
    | (go_at_call 24; refine (HUN.out _ (by first | exact Below.next hb hc | exact Below.next hb hc.drew)).mono ?_; rintro e w6 ⟨rfl, hb6⟩; (first | replace hc := Below.next hc hb6 | replace hc := Below.next hc.drew hb6); have gx0 := keep_cell hx0 hc; have gx1 := keep_cell hx1 hc; have gy0 := keep_cell hy0 hc; have gy1 := keep_cell hy1 hc)
    | (go_at_call 25; refine (HSG.out _).mono ?_; rintro e w7 ⟨rfl, rfl⟩)
    | (go_at_call 23; refine (HPK.out _).mono ?_; rintro e w8 ⟨vp, rfl, ho8, hb8⟩; (first | replace hc := Below.next hc hb8 | replace hc := Below.next hc.drew hb8); have gx0 := keep_cell hx0 hc; have gx1 := keep_cell hx1 hc; have gy0 := keep_cell hy0 hc; have gy1 := keep_cell hy1 hc)
    | (go_at_call 22; refine (HRS.out _ _ _ (hry.below hc (Nat.le_refl _)) ho8.row).mono ?_; rintro e w9 ⟨rfl, hb9⟩; (first | replace hc := Below.next hc hb9 | replace hc := Below.next hc.drew hb9); have gx0 := keep_cell hx0 hc; have gx1 := keep_cell hx1 hc; have gy0 := keep_cell hy0 hc; have gy1 := keep_cell hy1 hc))
  all_goals replace hb := Below.next hb hc
  all_goals clear hx0 hx1 hy0 hy1
  all_goals go_wp2_with (first
    | (go_at_call 24; refine (HUN.out _ hb).mono ?_; rintro e w6 ⟨rfl, hb6⟩; replace hb := Below.next hb hb6; clear hb6)
    | (go_at_call 26; refine (HVO.out _).mono ?_; rintro e w7 ⟨rfl, rfl⟩))
  all_goals go_ret
  all_goals exact ⟨rfl, hb⟩

set_option maxRecDepth 100000 in
set_option maxHeartbeats 2000000 in
theorem bp_oa_2 (v : Value) (bs : List Bool) (u m : Nat) (at' : Int) (w : World) (hr : RowB w v (P.pack bs)) (hn : bs.length ≤ 8388608) (hm : m ≤ 64) (u1 : (u : Int) ≤ 18446744073709551615) (p0 : -9223372036854775808 ≤ at') (p1 : at' ≤ 9223372036854775807) (hlook : (decide (2000 < (bs.length : Int)) = false) ∨ decide (2000 < (bs.length : Int)) = true ∧ decide ((bs.length : Int) ≤ 80000) = false) (hfit : u < 2 ^ m) (hm6 : m < 64) (ht2 : (u : Int) / 2 ^ m ≤ 0) (hbig : bs.length ≤ 2000) (hq : 0 ≤ at') (hq2 : (bs.length : Int) - m < at') :
    Calls Try.prog 4 #[.agg #[v, .int .i64 bs.length], .int .u64 u, .int .i64 m, .int .i64 at'] w fun e w' => e = .returned (.bool true) ∧ Below w.heap.size w w' := by
  have hbt : Byt (P.pack bs) := P.pack_byt _ bs
  have hok := P.pack_ok bs
  have hlen : (P.pack bs).length ≤ 140737488351232 := by rw [P.pack_len]; unfold P.bytesN; omega
  have n1 : (bs.length : Int) ≤ 9223372036854775807 := by omega
  have HF : Hid (∀ o : Obj, Calls Try.prog 18 #[.agg #[v, .int .i64 bs.length]] (w.alloc o) fun e w' => e = .returned (.int .i64 0) ∧ Below (w.alloc o).heap.size (w.alloc o) w') := fun o => fault_ok v _ _ _ (hr.below ((Below.refl _ _).alloc (Nat.le_refl _) o) (Nat.le_refl _)) hbt hlen hok
  have HPU : Hid (∀ w' : World, Below w.heap.size w w' → Calls Try.prog 19 #[.agg #[v, .int .i64 bs.length], .int .u64 u, .int .i64 m] w' fun e w2 => ∃ vy, e = .returned (.tuple #[.agg #[vy, .int .i64 ((bs.length + m : Nat) : Int)], .int .i64 0]) ∧ OwnB w2 w'.heap.size vy (P.pack (bs ++ P.ofVal u m)) ∧ Below w'.heap.size w' w2) := fun w' hb => push_ok v bs u m w' (hr.below hb (Nat.le_refl _)) hm u1 hfit (by omega)
  have HPL : Hid (∀ w' : World, Below w.heap.size w w' → Calls Try.prog 20 #[.agg #[v, .int .i64 bs.length], .int .i64 at', .int .i64 m] w' fun e w2 => e = .returned (.tuple #[.int .u64 (0 : Int), .int .i64 3]) ∧ Below w'.heap.size w' w2) := fun w' hb => pull_short v _ _ at' m w' (hr.below hb (Nat.le_refl _)) hbt n1 hok (by omega) (by omega) (by omega) p1 (by omega)
  have HCK : Hid (∀ w' : World, Below w.heap.size w w' → Calls Try.prog 21 #[.agg #[v, .int .i64 bs.length]] w' fun e w2 => e = .returned (.int .i64 0) ∧ Below w'.heap.size w' w2) := fun w' hb => check_ok v _ _ w' (hr.below hb (Nat.le_refl _)) hbt n1 hok
  have t1 : decide ((m : Int) < 64) = true := by simp; omega
  have t2 : decide (0 < (u : Int) / 2 ^ m) = false := by simp; exact ht2
  have t3 : decide (80000 < (bs.length : Int) + (m : Int)) = false := by simp; omega
  have q1 : decide (at' < 0) = false := by simp; omega
  have q2 : decide ((bs.length : Int) - (m : Int) < at') = true := by simp; omega
  have hcl : (bs ++ P.ofVal u m).length = bs.length + m := by rw [List.length_append, P.ofVal_len]
  have HUN : Hid (∀ w' : World, Below w.heap.size w w' → Calls Try.prog 24 #[.agg #[v, .int .i64 bs.length]] w' fun e w2 => e = .returned (.string (P.strB bs)) ∧ Below w'.heap.size w' w2) := fun w' hb => unpacked_any v bs w' (hr.below hb (Nat.le_refl _)) (by omega)
  have HSG : Hid (∀ w' : World, Calls Try.prog 25 #[.int .u64 u, .int .i64 m] w' fun e w2 => e = .returned (.string (P.strB (P.ofVal u m))) ∧ w2 = w') := fun w' => signs_any u m w' hm u1
  have HPK : Hid (∀ w' : World, Calls Try.prog 23 #[.string (P.strB (bs ++ P.ofVal u m))] w' fun e w2 => ∃ vp, e = .returned (.agg #[vp, .int .i64 ((bs.length : Int) + (m : Int))]) ∧ OwnB w2 w'.heap.size vp (P.pack (bs ++ P.ofVal u m)) ∧ Below w'.heap.size w' w2) := by
    intro w'
    have h := packed_any (bs ++ P.ofVal u m) w' (by omega)
    rw [hcl, Int.natCast_add] at h
    exact h
  have HRS : Hid (∀ (w' : World) (v1 v2 : Value), RowB w' v1 (P.pack (bs ++ P.ofVal u m)) → RowB w' v2 (P.pack (bs ++ P.ofVal u m)) → Calls Try.prog 22 #[.agg #[v1, .int .i64 ((bs.length : Int) + (m : Int))], .agg #[v2, .int .i64 ((bs.length : Int) + (m : Int))]] w' fun e w2 => e = .returned (.bool true) ∧ Below w'.heap.size w' w2) := by
    intro w' v1 v2 h1 h2
    refine (refSame_any v1 v2 _ _ _ _ w' h1 h2).mono fun e w2 h => ⟨?_, h.2⟩
    rw [h.1]; simp [sameL]
  have happ : P.strB bs ++ P.strB (P.ofVal u m) = P.strB (bs ++ P.ofVal u m) := P.strB_app _ _
  have hz2 : (P.strB bs).size ≤ 2000 := by rw [P.strB_size]; omega
  have hz3 : (P.strB (P.ofVal u m)).size ≤ 64 := by rw [P.strB_size, P.ofVal_len]; omega
  have hz4 : ¬ 9223372036854775807 < (P.strB bs).size + (P.strB (P.ofVal u m)).size := by omega
  clear hcl
  have hl1 : decide (2000 < (bs.length : Int)) = false := by simp; omega
  generalize P.strB bs = S at *
  generalize P.strB (P.ofVal u m) = S2 at *
  generalize P.strB (bs ++ P.ofVal u m) = S3 at *
  generalize bs ++ P.ofVal u m = cs at *
  clear hlook hfit
  go_enter Try.func4, Try.ntmps4
  go_wp2_with (first
    | (go_at_call 18; refine (HF.out _).mono ?_; rintro e w1 ⟨rfl, hb1⟩; obtain ⟨hx0, hx1, hb, hsz⟩ := box2 hb1; clear hb1 hsz)
    | (go_at_call 19; refine (HPU.out _ hb).mono ?_; rintro e w2 ⟨vy, rfl, hown, hb2⟩; obtain ⟨ay, capy, hvy⟩ := hown.shape; rw [hvy] at hown ⊢; clear hvy; replace hx0 := keep_cell hx0 hb2; replace hx1 := keep_cell hx1 hb2; replace hb := Below.next hb hb2; clear hb2; have hs2 : w.heap.size < w2.heap.size := World.block_lt_of_cell? _ _ hx1)
    | (go_at_call 20; refine (HPL.out _ (below_alloc hb _)).mono ?_; rintro e w3 ⟨rfl, hb3⟩; obtain ⟨hy0, hy1, hb23, hsy⟩ := box2 hb3; have hry := hown.row.below hb23 (Nat.le_refl _); replace hx0 := keep_cell hx0 hb23; replace hx1 := keep_cell hx1 hb23; replace hb := Below.next hb hb23; clear hb3 hb23 hsy hown)
    | (go_at_call 21; refine (HCK.out _ hb).mono ?_; rintro e w4 ⟨rfl, hb4⟩; replace hry := hry.below hb4 (Nat.le_refl _); replace hy0 := keep_cell hy0 hb4; replace hy1 := keep_cell hy1 hb4; replace hx0 := keep_cell hx0 hb4; replace hx1 := keep_cell hx1 hb4; replace hb := Below.next hb hb4; clear hb4))
  generalize hyb : w2.heap.size = yb at *
  clear hyb
  have hc := Below.refl w4.heap.size w4
  go_region_held3 (fun wx => wx.cell? ⟨w.heap.size, 0, none⟩ = some v ∧ wx.cell? ⟨w.heap.size, 1, none⟩ = some (.int .i64 bs.length) ∧ wx.cell? ⟨yb, 0, none⟩ = some (.slice ay (P.pack cs).length capy) ∧ wx.cell? ⟨yb, 1, none⟩ = some (.int .i64 ((bs.length : Int) + (m : Int)))) (go_keep) (first
    | (go_at_call 24; refine (HUN.out _ (by first | exact Below.next hb hc | exact Below.next hb hc.drew)).mono ?_; rintro e w6 ⟨rfl, hb6⟩; (first | replace hc := Below.next hc hb6 | replace hc := Below.next hc.drew hb6); have gx0 := keep_cell hx0 hc; have gx1 := keep_cell hx1 hc; have gy0 := keep_cell hy0 hc; have gy1 := keep_cell hy1 hc)
    | (go_at_call 25; refine (HSG.out _).mono ?_; rintro e w7 ⟨rfl, rfl⟩)
    | (go_at_call 23; refine (HPK.out _).mono ?_; rintro e w8 ⟨vp, rfl, ho8, hb8⟩; (first | replace hc := Below.next hc hb8 | replace hc := Below.next hc.drew hb8); have gx0 := keep_cell hx0 hc; have gx1 := keep_cell hx1 hc; have gy0 := keep_cell hy0 hc; have gy1 := keep_cell hy1 hc)
    | (go_at_call 22; refine (HRS.out _ _ _ (hry.below hc (Nat.le_refl _)) ho8.row).mono ?_; rintro e w9 ⟨rfl, hb9⟩; (first | replace hc := Below.next hc hb9 | replace hc := Below.next hc.drew hb9); have gx0 := keep_cell hx0 hc; have gx1 := keep_cell hx1 hc; have gy0 := keep_cell hy0 hc; have gy1 := keep_cell hy1 hc))
  all_goals replace hb := Below.next hb hc
  all_goals clear hx0 hx1 hy0 hy1
  all_goals go_wp2_with (first
    | (go_at_call 24; refine (HUN.out _ hb).mono ?_; rintro e w6 ⟨rfl, hb6⟩; replace hb := Below.next hb hb6; clear hb6)
    | (go_at_call 26; refine (HVO.out _).mono ?_; rintro e w7 ⟨rfl, rfl⟩))
  all_goals go_ret
  all_goals exact ⟨rfl, hb⟩

set_option maxRecDepth 100000 in
set_option maxHeartbeats 2000000 in
theorem bp_oa_3 (v : Value) (bs : List Bool) (u m : Nat) (at' : Int) (w : World) (hr : RowB w v (P.pack bs)) (hn : bs.length ≤ 8388608) (hm : m ≤ 64) (u1 : (u : Int) ≤ 18446744073709551615) (p0 : -9223372036854775808 ≤ at') (p1 : at' ≤ 9223372036854775807) (hlook : (decide (2000 < (bs.length : Int)) = false) ∨ decide (2000 < (bs.length : Int)) = true ∧ decide ((bs.length : Int) ≤ 80000) = false) (p : Nat) (hfit : u < 2 ^ m) (hm6 : m < 64) (ht2 : (u : Int) / 2 ^ m ≤ 0) (hbig : bs.length ≤ 2000) (hq : p + m ≤ bs.length) :
    Calls Try.prog 4 #[.agg #[v, .int .i64 bs.length], .int .u64 u, .int .i64 m, .int .i64 (p : Nat)] w fun e w' => e = .returned (.bool true) ∧ Below w.heap.size w w' := by
  have hbt : Byt (P.pack bs) := P.pack_byt _ bs
  have hok := P.pack_ok bs
  have hlen : (P.pack bs).length ≤ 140737488351232 := by rw [P.pack_len]; unfold P.bytesN; omega
  have n1 : (bs.length : Int) ≤ 9223372036854775807 := by omega
  have HF : Hid (∀ o : Obj, Calls Try.prog 18 #[.agg #[v, .int .i64 bs.length]] (w.alloc o) fun e w' => e = .returned (.int .i64 0) ∧ Below (w.alloc o).heap.size (w.alloc o) w') := fun o => fault_ok v _ _ _ (hr.below ((Below.refl _ _).alloc (Nat.le_refl _) o) (Nat.le_refl _)) hbt hlen hok
  have HPU : Hid (∀ w' : World, Below w.heap.size w w' → Calls Try.prog 19 #[.agg #[v, .int .i64 bs.length], .int .u64 u, .int .i64 m] w' fun e w2 => ∃ vy, e = .returned (.tuple #[.agg #[vy, .int .i64 ((bs.length + m : Nat) : Int)], .int .i64 0]) ∧ OwnB w2 w'.heap.size vy (P.pack (bs ++ P.ofVal u m)) ∧ Below w'.heap.size w' w2) := fun w' hb => push_ok v bs u m w' (hr.below hb (Nat.le_refl _)) hm u1 hfit (by omega)
  have HPL : Hid (∀ w' : World, Below w.heap.size w w' → Calls Try.prog 20 #[.agg #[v, .int .i64 bs.length], .int .i64 p, .int .i64 m] w' fun e w2 => e = .returned (.tuple #[.int .u64 (P.val ((bs.drop p).take m) : Nat), .int .i64 0]) ∧ Below w'.heap.size w' w2) := fun w' hb => pull_ok v bs p m w' (hr.below hb (Nat.le_refl _)) n1 hm hq
  have HCK : Hid (∀ w' : World, Below w.heap.size w w' → Calls Try.prog 21 #[.agg #[v, .int .i64 bs.length]] w' fun e w2 => e = .returned (.int .i64 0) ∧ Below w'.heap.size w' w2) := fun w' hb => check_ok v _ _ w' (hr.below hb (Nat.le_refl _)) hbt n1 hok
  have t1 : decide ((m : Int) < 64) = true := by simp; omega
  have t2 : decide (0 < (u : Int) / 2 ^ m) = false := by simp; exact ht2
  have t3 : decide (80000 < (bs.length : Int) + (m : Int)) = false := by simp; omega
  have q1 : decide ((p : Int) < 0) = false := by simp
  have q2 : decide ((bs.length : Int) - (m : Int) < (p : Int)) = false := by simp; omega
  have hcl : (bs ++ P.ofVal u m).length = bs.length + m := by rw [List.length_append, P.ofVal_len]
  have HUN : Hid (∀ w' : World, Below w.heap.size w w' → Calls Try.prog 24 #[.agg #[v, .int .i64 bs.length]] w' fun e w2 => e = .returned (.string (P.strB bs)) ∧ Below w'.heap.size w' w2) := fun w' hb => unpacked_any v bs w' (hr.below hb (Nat.le_refl _)) (by omega)
  have HSG : Hid (∀ w' : World, Calls Try.prog 25 #[.int .u64 u, .int .i64 m] w' fun e w2 => e = .returned (.string (P.strB (P.ofVal u m))) ∧ w2 = w') := fun w' => signs_any u m w' hm u1
  have HPK : Hid (∀ w' : World, Calls Try.prog 23 #[.string (P.strB (bs ++ P.ofVal u m))] w' fun e w2 => ∃ vp, e = .returned (.agg #[vp, .int .i64 ((bs.length : Int) + (m : Int))]) ∧ OwnB w2 w'.heap.size vp (P.pack (bs ++ P.ofVal u m)) ∧ Below w'.heap.size w' w2) := by
    intro w'
    have h := packed_any (bs ++ P.ofVal u m) w' (by omega)
    rw [hcl, Int.natCast_add] at h
    exact h
  have HRS : Hid (∀ (w' : World) (v1 v2 : Value), RowB w' v1 (P.pack (bs ++ P.ofVal u m)) → RowB w' v2 (P.pack (bs ++ P.ofVal u m)) → Calls Try.prog 22 #[.agg #[v1, .int .i64 ((bs.length : Int) + (m : Int))], .agg #[v2, .int .i64 ((bs.length : Int) + (m : Int))]] w' fun e w2 => e = .returned (.bool true) ∧ Below w'.heap.size w' w2) := by
    intro w' v1 v2 h1 h2
    refine (refSame_any v1 v2 _ _ _ _ w' h1 h2).mono fun e w2 h => ⟨?_, h.2⟩
    rw [h.1]; simp [sameL]
  have happ : P.strB bs ++ P.strB (P.ofVal u m) = P.strB (bs ++ P.ofVal u m) := P.strB_app _ _
  have hz2 : (P.strB bs).size ≤ 2000 := by rw [P.strB_size]; omega
  have hz3 : (P.strB (P.ofVal u m)).size ≤ 64 := by rw [P.strB_size, P.ofVal_len]; omega
  have hz4 : ¬ 9223372036854775807 < (P.strB bs).size + (P.strB (P.ofVal u m)).size := by omega
  clear hcl
  have HVO : Hid (∀ w' : World, Calls Try.prog 26 #[.string (P.strB ((bs.drop p).take m))] w' fun e w2 => e = .returned (.int .u64 (P.val ((bs.drop p).take m) : Nat)) ∧ w2 = w') := fun w' => valueOf_any _ w' (by simp; omega)
  have hext : (P.strB bs).extract p (p + m) = P.strB ((bs.drop p).take m) := by rw [P.strB_extract]; congr 2; omega
  have hz1 : bs.length ≤ (P.strB bs).size := by rw [P.strB_size]; exact Nat.le_refl _
  have i1 : (0 : Int) ≤ (p : Int) := by omega
  have i2 : (p : Int) ≤ (p : Int) + (m : Int) := by omega
  have i3 : (p : Int) + (m : Int) ≤ ((P.strB bs).size : Int) := by omega
  generalize P.strB ((bs.drop p).take m) = S8 at *
  generalize P.val ((bs.drop p).take m) = V at *

  have hl1 : decide (2000 < (bs.length : Int)) = false := by simp; omega
  generalize P.strB bs = S at *
  generalize P.strB (P.ofVal u m) = S2 at *
  generalize P.strB (bs ++ P.ofVal u m) = S3 at *
  generalize bs ++ P.ofVal u m = cs at *
  clear hlook hfit
  go_enter Try.func4, Try.ntmps4
  go_wp2_with (first
    | (go_at_call 18; refine (HF.out _).mono ?_; rintro e w1 ⟨rfl, hb1⟩; obtain ⟨hx0, hx1, hb, hsz⟩ := box2 hb1; clear hb1 hsz)
    | (go_at_call 19; refine (HPU.out _ hb).mono ?_; rintro e w2 ⟨vy, rfl, hown, hb2⟩; obtain ⟨ay, capy, hvy⟩ := hown.shape; rw [hvy] at hown ⊢; clear hvy; replace hx0 := keep_cell hx0 hb2; replace hx1 := keep_cell hx1 hb2; replace hb := Below.next hb hb2; clear hb2; have hs2 : w.heap.size < w2.heap.size := World.block_lt_of_cell? _ _ hx1)
    | (go_at_call 20; refine (HPL.out _ (below_alloc hb _)).mono ?_; rintro e w3 ⟨rfl, hb3⟩; obtain ⟨hy0, hy1, hb23, hsy⟩ := box2 hb3; have hry := hown.row.below hb23 (Nat.le_refl _); replace hx0 := keep_cell hx0 hb23; replace hx1 := keep_cell hx1 hb23; replace hb := Below.next hb hb23; clear hb3 hb23 hsy hown)
    | (go_at_call 21; refine (HCK.out _ hb).mono ?_; rintro e w4 ⟨rfl, hb4⟩; replace hry := hry.below hb4 (Nat.le_refl _); replace hy0 := keep_cell hy0 hb4; replace hy1 := keep_cell hy1 hb4; replace hx0 := keep_cell hx0 hb4; replace hx1 := keep_cell hx1 hb4; replace hb := Below.next hb hb4; clear hb4))
  generalize hyb : w2.heap.size = yb at *
  clear hyb
  have hc := Below.refl w4.heap.size w4
  go_region_held3 (fun wx => wx.cell? ⟨w.heap.size, 0, none⟩ = some v ∧ wx.cell? ⟨w.heap.size, 1, none⟩ = some (.int .i64 bs.length) ∧ wx.cell? ⟨yb, 0, none⟩ = some (.slice ay (P.pack cs).length capy) ∧ wx.cell? ⟨yb, 1, none⟩ = some (.int .i64 ((bs.length : Int) + (m : Int)))) (go_keep) (first
    | (go_at_call 24; refine (HUN.out _ (by first | exact Below.next hb hc | exact Below.next hb hc.drew)).mono ?_; rintro e w6 ⟨rfl, hb6⟩; (first | replace hc := Below.next hc hb6 | replace hc := Below.next hc.drew hb6); have gx0 := keep_cell hx0 hc; have gx1 := keep_cell hx1 hc; have gy0 := keep_cell hy0 hc; have gy1 := keep_cell hy1 hc)
    | (go_at_call 25; refine (HSG.out _).mono ?_; rintro e w7 ⟨rfl, rfl⟩)
    | (go_at_call 23; refine (HPK.out _).mono ?_; rintro e w8 ⟨vp, rfl, ho8, hb8⟩; (first | replace hc := Below.next hc hb8 | replace hc := Below.next hc.drew hb8); have gx0 := keep_cell hx0 hc; have gx1 := keep_cell hx1 hc; have gy0 := keep_cell hy0 hc; have gy1 := keep_cell hy1 hc)
    | (go_at_call 22; refine (HRS.out _ _ _ (hry.below hc (Nat.le_refl _)) ho8.row).mono ?_; rintro e w9 ⟨rfl, hb9⟩; (first | replace hc := Below.next hc hb9 | replace hc := Below.next hc.drew hb9); have gx0 := keep_cell hx0 hc; have gx1 := keep_cell hx1 hc; have gy0 := keep_cell hy0 hc; have gy1 := keep_cell hy1 hc))
  all_goals replace hb := Below.next hb hc
  all_goals clear hx0 hx1 hy0 hy1
  all_goals go_wp2_with (first
    | (go_at_call 24; refine (HUN.out _ hb).mono ?_; rintro e w6 ⟨rfl, hb6⟩; replace hb := Below.next hb hb6; clear hb6)
    | (go_at_call 26; refine (HVO.out _).mono ?_; rintro e w7 ⟨rfl, rfl⟩))
  all_goals go_ret
  all_goals exact ⟨rfl, hb⟩

set_option maxRecDepth 100000 in
set_option maxHeartbeats 2000000 in
theorem bp_ob_1 (v : Value) (bs : List Bool) (u m : Nat) (at' : Int) (w : World) (hr : RowB w v (P.pack bs)) (hn : bs.length ≤ 8388608) (hm : m ≤ 64) (u1 : (u : Int) ≤ 18446744073709551615) (p0 : -9223372036854775808 ≤ at') (p1 : at' ≤ 9223372036854775807) (hlook : (decide (2000 < (bs.length : Int)) = false) ∨ decide (2000 < (bs.length : Int)) = true ∧ decide ((bs.length : Int) ≤ 80000) = false) (hfit : u < 2 ^ m) (hm6 : 64 ≤ m) (hbig : bs.length ≤ 2000) (hq : at' < 0) :
    Calls Try.prog 4 #[.agg #[v, .int .i64 bs.length], .int .u64 u, .int .i64 m, .int .i64 at'] w fun e w' => e = .returned (.bool true) ∧ Below w.heap.size w w' := by
  have hbt : Byt (P.pack bs) := P.pack_byt _ bs
  have hok := P.pack_ok bs
  have hlen : (P.pack bs).length ≤ 140737488351232 := by rw [P.pack_len]; unfold P.bytesN; omega
  have n1 : (bs.length : Int) ≤ 9223372036854775807 := by omega
  have HF : Hid (∀ o : Obj, Calls Try.prog 18 #[.agg #[v, .int .i64 bs.length]] (w.alloc o) fun e w' => e = .returned (.int .i64 0) ∧ Below (w.alloc o).heap.size (w.alloc o) w') := fun o => fault_ok v _ _ _ (hr.below ((Below.refl _ _).alloc (Nat.le_refl _) o) (Nat.le_refl _)) hbt hlen hok
  have HPU : Hid (∀ w' : World, Below w.heap.size w w' → Calls Try.prog 19 #[.agg #[v, .int .i64 bs.length], .int .u64 u, .int .i64 m] w' fun e w2 => ∃ vy, e = .returned (.tuple #[.agg #[vy, .int .i64 ((bs.length + m : Nat) : Int)], .int .i64 0]) ∧ OwnB w2 w'.heap.size vy (P.pack (bs ++ P.ofVal u m)) ∧ Below w'.heap.size w' w2) := fun w' hb => push_ok v bs u m w' (hr.below hb (Nat.le_refl _)) hm u1 hfit (by omega)
  have HPL : Hid (∀ w' : World, Below w.heap.size w w' → Calls Try.prog 20 #[.agg #[v, .int .i64 bs.length], .int .i64 at', .int .i64 m] w' fun e w2 => e = .returned (.tuple #[.int .u64 (0 : Int), .int .i64 1]) ∧ Below w'.heap.size w' w2) := fun w' hb => pull_arg v _ _ at' m w' (hr.below hb (Nat.le_refl _)) hbt n1 hok (by omega)
  have HCK : Hid (∀ w' : World, Below w.heap.size w w' → Calls Try.prog 21 #[.agg #[v, .int .i64 bs.length]] w' fun e w2 => e = .returned (.int .i64 0) ∧ Below w'.heap.size w' w2) := fun w' hb => check_ok v _ _ w' (hr.below hb (Nat.le_refl _)) hbt n1 hok
  have t1 : decide ((m : Int) < 64) = false := by simp; omega
  have t3 : decide (80000 < (bs.length : Int) + (m : Int)) = false := by simp; omega
  have q1 : decide (at' < 0) = true := by simp; omega
  have hcl : (bs ++ P.ofVal u m).length = bs.length + m := by rw [List.length_append, P.ofVal_len]
  have HUN : Hid (∀ w' : World, Below w.heap.size w w' → Calls Try.prog 24 #[.agg #[v, .int .i64 bs.length]] w' fun e w2 => e = .returned (.string (P.strB bs)) ∧ Below w'.heap.size w' w2) := fun w' hb => unpacked_any v bs w' (hr.below hb (Nat.le_refl _)) (by omega)
  have HSG : Hid (∀ w' : World, Calls Try.prog 25 #[.int .u64 u, .int .i64 m] w' fun e w2 => e = .returned (.string (P.strB (P.ofVal u m))) ∧ w2 = w') := fun w' => signs_any u m w' hm u1
  have HPK : Hid (∀ w' : World, Calls Try.prog 23 #[.string (P.strB (bs ++ P.ofVal u m))] w' fun e w2 => ∃ vp, e = .returned (.agg #[vp, .int .i64 ((bs.length : Int) + (m : Int))]) ∧ OwnB w2 w'.heap.size vp (P.pack (bs ++ P.ofVal u m)) ∧ Below w'.heap.size w' w2) := by
    intro w'
    have h := packed_any (bs ++ P.ofVal u m) w' (by omega)
    rw [hcl, Int.natCast_add] at h
    exact h
  have HRS : Hid (∀ (w' : World) (v1 v2 : Value), RowB w' v1 (P.pack (bs ++ P.ofVal u m)) → RowB w' v2 (P.pack (bs ++ P.ofVal u m)) → Calls Try.prog 22 #[.agg #[v1, .int .i64 ((bs.length : Int) + (m : Int))], .agg #[v2, .int .i64 ((bs.length : Int) + (m : Int))]] w' fun e w2 => e = .returned (.bool true) ∧ Below w'.heap.size w' w2) := by
    intro w' v1 v2 h1 h2
    refine (refSame_any v1 v2 _ _ _ _ w' h1 h2).mono fun e w2 h => ⟨?_, h.2⟩
    rw [h.1]; simp [sameL]
  have happ : P.strB bs ++ P.strB (P.ofVal u m) = P.strB (bs ++ P.ofVal u m) := P.strB_app _ _
  have hz2 : (P.strB bs).size ≤ 2000 := by rw [P.strB_size]; omega
  have hz3 : (P.strB (P.ofVal u m)).size ≤ 64 := by rw [P.strB_size, P.ofVal_len]; omega
  have hz4 : ¬ 9223372036854775807 < (P.strB bs).size + (P.strB (P.ofVal u m)).size := by omega
  clear hcl
  have hl1 : decide (2000 < (bs.length : Int)) = false := by simp; omega
  generalize P.strB bs = S at *
  generalize P.strB (P.ofVal u m) = S2 at *
  generalize P.strB (bs ++ P.ofVal u m) = S3 at *
  generalize bs ++ P.ofVal u m = cs at *
  clear hlook hfit
  go_enter Try.func4, Try.ntmps4
  go_wp2_with (first
    | (go_at_call 18; refine (HF.out _).mono ?_; rintro e w1 ⟨rfl, hb1⟩; obtain ⟨hx0, hx1, hb, hsz⟩ := box2 hb1; clear hb1 hsz)
    | (go_at_call 19; refine (HPU.out _ hb).mono ?_; rintro e w2 ⟨vy, rfl, hown, hb2⟩; obtain ⟨ay, capy, hvy⟩ := hown.shape; rw [hvy] at hown ⊢; clear hvy; replace hx0 := keep_cell hx0 hb2; replace hx1 := keep_cell hx1 hb2; replace hb := Below.next hb hb2; clear hb2; have hs2 : w.heap.size < w2.heap.size := World.block_lt_of_cell? _ _ hx1)
    | (go_at_call 20; refine (HPL.out _ (below_alloc hb _)).mono ?_; rintro e w3 ⟨rfl, hb3⟩; obtain ⟨hy0, hy1, hb23, hsy⟩ := box2 hb3; have hry := hown.row.below hb23 (Nat.le_refl _); replace hx0 := keep_cell hx0 hb23; replace hx1 := keep_cell hx1 hb23; replace hb := Below.next hb hb23; clear hb3 hb23 hsy hown)
    | (go_at_call 21; refine (HCK.out _ hb).mono ?_; rintro e w4 ⟨rfl, hb4⟩; replace hry := hry.below hb4 (Nat.le_refl _); replace hy0 := keep_cell hy0 hb4; replace hy1 := keep_cell hy1 hb4; replace hx0 := keep_cell hx0 hb4; replace hx1 := keep_cell hx1 hb4; replace hb := Below.next hb hb4; clear hb4))
  generalize hyb : w2.heap.size = yb at *
  clear hyb
  have hc := Below.refl w4.heap.size w4
  go_region_held3 (fun wx => wx.cell? ⟨w.heap.size, 0, none⟩ = some v ∧ wx.cell? ⟨w.heap.size, 1, none⟩ = some (.int .i64 bs.length) ∧ wx.cell? ⟨yb, 0, none⟩ = some (.slice ay (P.pack cs).length capy) ∧ wx.cell? ⟨yb, 1, none⟩ = some (.int .i64 ((bs.length : Int) + (m : Int)))) (go_keep) (first
    | (go_at_call 24; refine (HUN.out _ (by first | exact Below.next hb hc | exact Below.next hb hc.drew)).mono ?_; rintro e w6 ⟨rfl, hb6⟩; (first | replace hc := Below.next hc hb6 | replace hc := Below.next hc.drew hb6); have gx0 := keep_cell hx0 hc; have gx1 := keep_cell hx1 hc; have gy0 := keep_cell hy0 hc; have gy1 := keep_cell hy1 hc)
    | (go_at_call 25; refine (HSG.out _).mono ?_; rintro e w7 ⟨rfl, rfl⟩)
    | (go_at_call 23; refine (HPK.out _).mono ?_; rintro e w8 ⟨vp, rfl, ho8, hb8⟩; (first | replace hc := Below.next hc hb8 | replace hc := Below.next hc.drew hb8); have gx0 := keep_cell hx0 hc; have gx1 := keep_cell hx1 hc; have gy0 := keep_cell hy0 hc; have gy1 := keep_cell hy1 hc)
    | (go_at_call 22; refine (HRS.out _ _ _ (hry.below hc (Nat.le_refl _)) ho8.row).mono ?_; rintro e w9 ⟨rfl, hb9⟩; (first | replace hc := Below.next hc hb9 | replace hc := Below.next hc.drew hb9); have gx0 := keep_cell hx0 hc; have gx1 := keep_cell hx1 hc; have gy0 := keep_cell hy0 hc; have gy1 := keep_cell hy1 hc))
  all_goals replace hb := Below.next hb hc
  all_goals clear hx0 hx1 hy0 hy1
  all_goals go_wp2_with (first
    | (go_at_call 24; refine (HUN.out _ hb).mono ?_; rintro e w6 ⟨rfl, hb6⟩; replace hb := Below.next hb hb6; clear hb6)
    | (go_at_call 26; refine (HVO.out _).mono ?_; rintro e w7 ⟨rfl, rfl⟩))
  all_goals go_ret
  all_goals exact ⟨rfl, hb⟩

set_option maxRecDepth 100000 in
set_option maxHeartbeats 2000000 in
theorem bp_ob_2 (v : Value) (bs : List Bool) (u m : Nat) (at' : Int) (w : World) (hr : RowB w v (P.pack bs)) (hn : bs.length ≤ 8388608) (hm : m ≤ 64) (u1 : (u : Int) ≤ 18446744073709551615) (p0 : -9223372036854775808 ≤ at') (p1 : at' ≤ 9223372036854775807) (hlook : (decide (2000 < (bs.length : Int)) = false) ∨ decide (2000 < (bs.length : Int)) = true ∧ decide ((bs.length : Int) ≤ 80000) = false) (hfit : u < 2 ^ m) (hm6 : 64 ≤ m) (hbig : bs.length ≤ 2000) (hq : 0 ≤ at') (hq2 : (bs.length : Int) - m < at') :
    Calls Try.prog 4 #[.agg #[v, .int .i64 bs.length], .int .u64 u, .int .i64 m, .int .i64 at'] w fun e w' => e = .returned (.bool true) ∧ Below w.heap.size w w' := by
  have hbt : Byt (P.pack bs) := P.pack_byt _ bs
  have hok := P.pack_ok bs
  have hlen : (P.pack bs).length ≤ 140737488351232 := by rw [P.pack_len]; unfold P.bytesN; omega
  have n1 : (bs.length : Int) ≤ 9223372036854775807 := by omega
  have HF : Hid (∀ o : Obj, Calls Try.prog 18 #[.agg #[v, .int .i64 bs.length]] (w.alloc o) fun e w' => e = .returned (.int .i64 0) ∧ Below (w.alloc o).heap.size (w.alloc o) w') := fun o => fault_ok v _ _ _ (hr.below ((Below.refl _ _).alloc (Nat.le_refl _) o) (Nat.le_refl _)) hbt hlen hok
  have HPU : Hid (∀ w' : World, Below w.heap.size w w' → Calls Try.prog 19 #[.agg #[v, .int .i64 bs.length], .int .u64 u, .int .i64 m] w' fun e w2 => ∃ vy, e = .returned (.tuple #[.agg #[vy, .int .i64 ((bs.length + m : Nat) : Int)], .int .i64 0]) ∧ OwnB w2 w'.heap.size vy (P.pack (bs ++ P.ofVal u m)) ∧ Below w'.heap.size w' w2) := fun w' hb => push_ok v bs u m w' (hr.below hb (Nat.le_refl _)) hm u1 hfit (by omega)
  have HPL : Hid (∀ w' : World, Below w.heap.size w w' → Calls Try.prog 20 #[.agg #[v, .int .i64 bs.length], .int .i64 at', .int .i64 m] w' fun e w2 => e = .returned (.tuple #[.int .u64 (0 : Int), .int .i64 3]) ∧ Below w'.heap.size w' w2) := fun w' hb => pull_short v _ _ at' m w' (hr.below hb (Nat.le_refl _)) hbt n1 hok (by omega) (by omega) (by omega) p1 (by omega)
  have HCK : Hid (∀ w' : World, Below w.heap.size w w' → Calls Try.prog 21 #[.agg #[v, .int .i64 bs.length]] w' fun e w2 => e = .returned (.int .i64 0) ∧ Below w'.heap.size w' w2) := fun w' hb => check_ok v _ _ w' (hr.below hb (Nat.le_refl _)) hbt n1 hok
  have t1 : decide ((m : Int) < 64) = false := by simp; omega
  have t3 : decide (80000 < (bs.length : Int) + (m : Int)) = false := by simp; omega
  have q1 : decide (at' < 0) = false := by simp; omega
  have q2 : decide ((bs.length : Int) - (m : Int) < at') = true := by simp; omega
  have hcl : (bs ++ P.ofVal u m).length = bs.length + m := by rw [List.length_append, P.ofVal_len]
  have HUN : Hid (∀ w' : World, Below w.heap.size w w' → Calls Try.prog 24 #[.agg #[v, .int .i64 bs.length]] w' fun e w2 => e = .returned (.string (P.strB bs)) ∧ Below w'.heap.size w' w2) := fun w' hb => unpacked_any v bs w' (hr.below hb (Nat.le_refl _)) (by omega)
  have HSG : Hid (∀ w' : World, Calls Try.prog 25 #[.int .u64 u, .int .i64 m] w' fun e w2 => e = .returned (.string (P.strB (P.ofVal u m))) ∧ w2 = w') := fun w' => signs_any u m w' hm u1
  have HPK : Hid (∀ w' : World, Calls Try.prog 23 #[.string (P.strB (bs ++ P.ofVal u m))] w' fun e w2 => ∃ vp, e = .returned (.agg #[vp, .int .i64 ((bs.length : Int) + (m : Int))]) ∧ OwnB w2 w'.heap.size vp (P.pack (bs ++ P.ofVal u m)) ∧ Below w'.heap.size w' w2) := by
    intro w'
    have h := packed_any (bs ++ P.ofVal u m) w' (by omega)
    rw [hcl, Int.natCast_add] at h
    exact h
  have HRS : Hid (∀ (w' : World) (v1 v2 : Value), RowB w' v1 (P.pack (bs ++ P.ofVal u m)) → RowB w' v2 (P.pack (bs ++ P.ofVal u m)) → Calls Try.prog 22 #[.agg #[v1, .int .i64 ((bs.length : Int) + (m : Int))], .agg #[v2, .int .i64 ((bs.length : Int) + (m : Int))]] w' fun e w2 => e = .returned (.bool true) ∧ Below w'.heap.size w' w2) := by
    intro w' v1 v2 h1 h2
    refine (refSame_any v1 v2 _ _ _ _ w' h1 h2).mono fun e w2 h => ⟨?_, h.2⟩
    rw [h.1]; simp [sameL]
  have happ : P.strB bs ++ P.strB (P.ofVal u m) = P.strB (bs ++ P.ofVal u m) := P.strB_app _ _
  have hz2 : (P.strB bs).size ≤ 2000 := by rw [P.strB_size]; omega
  have hz3 : (P.strB (P.ofVal u m)).size ≤ 64 := by rw [P.strB_size, P.ofVal_len]; omega
  have hz4 : ¬ 9223372036854775807 < (P.strB bs).size + (P.strB (P.ofVal u m)).size := by omega
  clear hcl
  have hl1 : decide (2000 < (bs.length : Int)) = false := by simp; omega
  generalize P.strB bs = S at *
  generalize P.strB (P.ofVal u m) = S2 at *
  generalize P.strB (bs ++ P.ofVal u m) = S3 at *
  generalize bs ++ P.ofVal u m = cs at *
  clear hlook hfit
  go_enter Try.func4, Try.ntmps4
  go_wp2_with (first
    | (go_at_call 18; refine (HF.out _).mono ?_; rintro e w1 ⟨rfl, hb1⟩; obtain ⟨hx0, hx1, hb, hsz⟩ := box2 hb1; clear hb1 hsz)
    | (go_at_call 19; refine (HPU.out _ hb).mono ?_; rintro e w2 ⟨vy, rfl, hown, hb2⟩; obtain ⟨ay, capy, hvy⟩ := hown.shape; rw [hvy] at hown ⊢; clear hvy; replace hx0 := keep_cell hx0 hb2; replace hx1 := keep_cell hx1 hb2; replace hb := Below.next hb hb2; clear hb2; have hs2 : w.heap.size < w2.heap.size := World.block_lt_of_cell? _ _ hx1)
    | (go_at_call 20; refine (HPL.out _ (below_alloc hb _)).mono ?_; rintro e w3 ⟨rfl, hb3⟩; obtain ⟨hy0, hy1, hb23, hsy⟩ := box2 hb3; have hry := hown.row.below hb23 (Nat.le_refl _); replace hx0 := keep_cell hx0 hb23; replace hx1 := keep_cell hx1 hb23; replace hb := Below.next hb hb23; clear hb3 hb23 hsy hown)
    | (go_at_call 21; refine (HCK.out _ hb).mono ?_; rintro e w4 ⟨rfl, hb4⟩; replace hry := hry.below hb4 (Nat.le_refl _); replace hy0 := keep_cell hy0 hb4; replace hy1 := keep_cell hy1 hb4; replace hx0 := keep_cell hx0 hb4; replace hx1 := keep_cell hx1 hb4; replace hb := Below.next hb hb4; clear hb4))
  generalize hyb : w2.heap.size = yb at *
  clear hyb
  have hc := Below.refl w4.heap.size w4
  go_region_held3 (fun wx => wx.cell? ⟨w.heap.size, 0, none⟩ = some v ∧ wx.cell? ⟨w.heap.size, 1, none⟩ = some (.int .i64 bs.length) ∧ wx.cell? ⟨yb, 0, none⟩ = some (.slice ay (P.pack cs).length capy) ∧ wx.cell? ⟨yb, 1, none⟩ = some (.int .i64 ((bs.length : Int) + (m : Int)))) (go_keep) (first
    | (go_at_call 24; refine (HUN.out _ (by first | exact Below.next hb hc | exact Below.next hb hc.drew)).mono ?_; rintro e w6 ⟨rfl, hb6⟩; (first | replace hc := Below.next hc hb6 | replace hc := Below.next hc.drew hb6); have gx0 := keep_cell hx0 hc; have gx1 := keep_cell hx1 hc; have gy0 := keep_cell hy0 hc; have gy1 := keep_cell hy1 hc)
    | (go_at_call 25; refine (HSG.out _).mono ?_; rintro e w7 ⟨rfl, rfl⟩)
    | (go_at_call 23; refine (HPK.out _).mono ?_; rintro e w8 ⟨vp, rfl, ho8, hb8⟩; (first | replace hc := Below.next hc hb8 | replace hc := Below.next hc.drew hb8); have gx0 := keep_cell hx0 hc; have gx1 := keep_cell hx1 hc; have gy0 := keep_cell hy0 hc; have gy1 := keep_cell hy1 hc)
    | (go_at_call 22; refine (HRS.out _ _ _ (hry.below hc (Nat.le_refl _)) ho8.row).mono ?_; rintro e w9 ⟨rfl, hb9⟩; (first | replace hc := Below.next hc hb9 | replace hc := Below.next hc.drew hb9); have gx0 := keep_cell hx0 hc; have gx1 := keep_cell hx1 hc; have gy0 := keep_cell hy0 hc; have gy1 := keep_cell hy1 hc))
  all_goals replace hb := Below.next hb hc
  all_goals clear hx0 hx1 hy0 hy1
  all_goals go_wp2_with (first
    | (go_at_call 24; refine (HUN.out _ hb).mono ?_; rintro e w6 ⟨rfl, hb6⟩; replace hb := Below.next hb hb6; clear hb6)
    | (go_at_call 26; refine (HVO.out _).mono ?_; rintro e w7 ⟨rfl, rfl⟩))
  all_goals go_ret
  all_goals exact ⟨rfl, hb⟩

set_option maxRecDepth 100000 in
set_option maxHeartbeats 2000000 in
theorem bp_ob_3 (v : Value) (bs : List Bool) (u m : Nat) (at' : Int) (w : World) (hr : RowB w v (P.pack bs)) (hn : bs.length ≤ 8388608) (hm : m ≤ 64) (u1 : (u : Int) ≤ 18446744073709551615) (p0 : -9223372036854775808 ≤ at') (p1 : at' ≤ 9223372036854775807) (hlook : (decide (2000 < (bs.length : Int)) = false) ∨ decide (2000 < (bs.length : Int)) = true ∧ decide ((bs.length : Int) ≤ 80000) = false) (p : Nat) (hfit : u < 2 ^ m) (hm6 : 64 ≤ m) (hbig : bs.length ≤ 2000) (hq : p + m ≤ bs.length) :
    Calls Try.prog 4 #[.agg #[v, .int .i64 bs.length], .int .u64 u, .int .i64 m, .int .i64 (p : Nat)] w fun e w' => e = .returned (.bool true) ∧ Below w.heap.size w w' := by
  have hbt : Byt (P.pack bs) := P.pack_byt _ bs
  have hok := P.pack_ok bs
  have hlen : (P.pack bs).length ≤ 140737488351232 := by rw [P.pack_len]; unfold P.bytesN; omega
  have n1 : (bs.length : Int) ≤ 9223372036854775807 := by omega
  have HF : Hid (∀ o : Obj, Calls Try.prog 18 #[.agg #[v, .int .i64 bs.length]] (w.alloc o) fun e w' => e = .returned (.int .i64 0) ∧ Below (w.alloc o).heap.size (w.alloc o) w') := fun o => fault_ok v _ _ _ (hr.below ((Below.refl _ _).alloc (Nat.le_refl _) o) (Nat.le_refl _)) hbt hlen hok
  have HPU : Hid (∀ w' : World, Below w.heap.size w w' → Calls Try.prog 19 #[.agg #[v, .int .i64 bs.length], .int .u64 u, .int .i64 m] w' fun e w2 => ∃ vy, e = .returned (.tuple #[.agg #[vy, .int .i64 ((bs.length + m : Nat) : Int)], .int .i64 0]) ∧ OwnB w2 w'.heap.size vy (P.pack (bs ++ P.ofVal u m)) ∧ Below w'.heap.size w' w2) := fun w' hb => push_ok v bs u m w' (hr.below hb (Nat.le_refl _)) hm u1 hfit (by omega)
  have HPL : Hid (∀ w' : World, Below w.heap.size w w' → Calls Try.prog 20 #[.agg #[v, .int .i64 bs.length], .int .i64 p, .int .i64 m] w' fun e w2 => e = .returned (.tuple #[.int .u64 (P.val ((bs.drop p).take m) : Nat), .int .i64 0]) ∧ Below w'.heap.size w' w2) := fun w' hb => pull_ok v bs p m w' (hr.below hb (Nat.le_refl _)) n1 hm hq
  have HCK : Hid (∀ w' : World, Below w.heap.size w w' → Calls Try.prog 21 #[.agg #[v, .int .i64 bs.length]] w' fun e w2 => e = .returned (.int .i64 0) ∧ Below w'.heap.size w' w2) := fun w' hb => check_ok v _ _ w' (hr.below hb (Nat.le_refl _)) hbt n1 hok
  have t1 : decide ((m : Int) < 64) = false := by simp; omega
  have t3 : decide (80000 < (bs.length : Int) + (m : Int)) = false := by simp; omega
  have q1 : decide ((p : Int) < 0) = false := by simp
  have q2 : decide ((bs.length : Int) - (m : Int) < (p : Int)) = false := by simp; omega
  have hcl : (bs ++ P.ofVal u m).length = bs.length + m := by rw [List.length_append, P.ofVal_len]
  have HUN : Hid (∀ w' : World, Below w.heap.size w w' → Calls Try.prog 24 #[.agg #[v, .int .i64 bs.length]] w' fun e w2 => e = .returned (.string (P.strB bs)) ∧ Below w'.heap.size w' w2) := fun w' hb => unpacked_any v bs w' (hr.below hb (Nat.le_refl _)) (by omega)
  have HSG : Hid (∀ w' : World, Calls Try.prog 25 #[.int .u64 u, .int .i64 m] w' fun e w2 => e = .returned (.string (P.strB (P.ofVal u m))) ∧ w2 = w') := fun w' => signs_any u m w' hm u1
  have HPK : Hid (∀ w' : World, Calls Try.prog 23 #[.string (P.strB (bs ++ P.ofVal u m))] w' fun e w2 => ∃ vp, e = .returned (.agg #[vp, .int .i64 ((bs.length : Int) + (m : Int))]) ∧ OwnB w2 w'.heap.size vp (P.pack (bs ++ P.ofVal u m)) ∧ Below w'.heap.size w' w2) := by
    intro w'
    have h := packed_any (bs ++ P.ofVal u m) w' (by omega)
    rw [hcl, Int.natCast_add] at h
    exact h
  have HRS : Hid (∀ (w' : World) (v1 v2 : Value), RowB w' v1 (P.pack (bs ++ P.ofVal u m)) → RowB w' v2 (P.pack (bs ++ P.ofVal u m)) → Calls Try.prog 22 #[.agg #[v1, .int .i64 ((bs.length : Int) + (m : Int))], .agg #[v2, .int .i64 ((bs.length : Int) + (m : Int))]] w' fun e w2 => e = .returned (.bool true) ∧ Below w'.heap.size w' w2) := by
    intro w' v1 v2 h1 h2
    refine (refSame_any v1 v2 _ _ _ _ w' h1 h2).mono fun e w2 h => ⟨?_, h.2⟩
    rw [h.1]; simp [sameL]
  have happ : P.strB bs ++ P.strB (P.ofVal u m) = P.strB (bs ++ P.ofVal u m) := P.strB_app _ _
  have hz2 : (P.strB bs).size ≤ 2000 := by rw [P.strB_size]; omega
  have hz3 : (P.strB (P.ofVal u m)).size ≤ 64 := by rw [P.strB_size, P.ofVal_len]; omega
  have hz4 : ¬ 9223372036854775807 < (P.strB bs).size + (P.strB (P.ofVal u m)).size := by omega
  clear hcl
  have HVO : Hid (∀ w' : World, Calls Try.prog 26 #[.string (P.strB ((bs.drop p).take m))] w' fun e w2 => e = .returned (.int .u64 (P.val ((bs.drop p).take m) : Nat)) ∧ w2 = w') := fun w' => valueOf_any _ w' (by simp; omega)
  have hext : (P.strB bs).extract p (p + m) = P.strB ((bs.drop p).take m) := by rw [P.strB_extract]; congr 2; omega
  have hz1 : bs.length ≤ (P.strB bs).size := by rw [P.strB_size]; exact Nat.le_refl _
  have i1 : (0 : Int) ≤ (p : Int) := by omega
  have i2 : (p : Int) ≤ (p : Int) + (m : Int) := by omega
  have i3 : (p : Int) + (m : Int) ≤ ((P.strB bs).size : Int) := by omega
  generalize P.strB ((bs.drop p).take m) = S8 at *
  generalize P.val ((bs.drop p).take m) = V at *

  have hl1 : decide (2000 < (bs.length : Int)) = false := by simp; omega
  generalize P.strB bs = S at *
  generalize P.strB (P.ofVal u m) = S2 at *
  generalize P.strB (bs ++ P.ofVal u m) = S3 at *
  generalize bs ++ P.ofVal u m = cs at *
  clear hlook hfit
  go_enter Try.func4, Try.ntmps4
  go_wp2_with (first
    | (go_at_call 18; refine (HF.out _).mono ?_; rintro e w1 ⟨rfl, hb1⟩; obtain ⟨hx0, hx1, hb, hsz⟩ := box2 hb1; clear hb1 hsz)
    | (go_at_call 19; refine (HPU.out _ hb).mono ?_; rintro e w2 ⟨vy, rfl, hown, hb2⟩; obtain ⟨ay, capy, hvy⟩ := hown.shape; rw [hvy] at hown ⊢; clear hvy; replace hx0 := keep_cell hx0 hb2; replace hx1 := keep_cell hx1 hb2; replace hb := Below.next hb hb2; clear hb2; have hs2 : w.heap.size < w2.heap.size := World.block_lt_of_cell? _ _ hx1)
    | (go_at_call 20; refine (HPL.out _ (below_alloc hb _)).mono ?_; rintro e w3 ⟨rfl, hb3⟩; obtain ⟨hy0, hy1, hb23, hsy⟩ := box2 hb3; have hry := hown.row.below hb23 (Nat.le_refl _); replace hx0 := keep_cell hx0 hb23; replace hx1 := keep_cell hx1 hb23; replace hb := Below.next hb hb23; clear hb3 hb23 hsy hown)
    | (go_at_call 21; refine (HCK.out _ hb).mono ?_; rintro e w4 ⟨rfl, hb4⟩; replace hry := hry.below hb4 (Nat.le_refl _); replace hy0 := keep_cell hy0 hb4; replace hy1 := keep_cell hy1 hb4; replace hx0 := keep_cell hx0 hb4; replace hx1 := keep_cell hx1 hb4; replace hb := Below.next hb hb4; clear hb4))
  generalize hyb : w2.heap.size = yb at *
  clear hyb
  have hc := Below.refl w4.heap.size w4
  go_region_held3 (fun wx => wx.cell? ⟨w.heap.size, 0, none⟩ = some v ∧ wx.cell? ⟨w.heap.size, 1, none⟩ = some (.int .i64 bs.length) ∧ wx.cell? ⟨yb, 0, none⟩ = some (.slice ay (P.pack cs).length capy) ∧ wx.cell? ⟨yb, 1, none⟩ = some (.int .i64 ((bs.length : Int) + (m : Int)))) (go_keep) (first
    | (go_at_call 24; refine (HUN.out _ (by first | exact Below.next hb hc | exact Below.next hb hc.drew)).mono ?_; rintro e w6 ⟨rfl, hb6⟩; (first | replace hc := Below.next hc hb6 | replace hc := Below.next hc.drew hb6); have gx0 := keep_cell hx0 hc; have gx1 := keep_cell hx1 hc; have gy0 := keep_cell hy0 hc; have gy1 := keep_cell hy1 hc)
    | (go_at_call 25; refine (HSG.out _).mono ?_; rintro e w7 ⟨rfl, rfl⟩)
    | (go_at_call 23; refine (HPK.out _).mono ?_; rintro e w8 ⟨vp, rfl, ho8, hb8⟩; (first | replace hc := Below.next hc hb8 | replace hc := Below.next hc.drew hb8); have gx0 := keep_cell hx0 hc; have gx1 := keep_cell hx1 hc; have gy0 := keep_cell hy0 hc; have gy1 := keep_cell hy1 hc)
    | (go_at_call 22; refine (HRS.out _ _ _ (hry.below hc (Nat.le_refl _)) ho8.row).mono ?_; rintro e w9 ⟨rfl, hb9⟩; (first | replace hc := Below.next hc hb9 | replace hc := Below.next hc.drew hb9); have gx0 := keep_cell hx0 hc; have gx1 := keep_cell hx1 hc; have gy0 := keep_cell hy0 hc; have gy1 := keep_cell hy1 hc))
  all_goals replace hb := Below.next hb hc
  all_goals clear hx0 hx1 hy0 hy1
  all_goals go_wp2_with (first
    | (go_at_call 24; refine (HUN.out _ hb).mono ?_; rintro e w6 ⟨rfl, hb6⟩; replace hb := Below.next hb hb6; clear hb6)
    | (go_at_call 26; refine (HVO.out _).mono ?_; rintro e w7 ⟨rfl, rfl⟩))
  all_goals go_ret
  all_goals exact ⟨rfl, hb⟩

end Go.Proofs.Ytimenpceegcboaa
