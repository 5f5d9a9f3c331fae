/- BitsPush holds where what is handed in is of bulk at most 1048576: Check, Push and Pull answer what the document says, and nothing that was there is changed. -/
import Derived.Test.YtimenpceegcboaaPacked
import Derived.Test.YtimenpceegcboaaBitsParts
namespace Go.Proofs.Ytimenpceegcboaa
open Go.ChangeShapes Go.WideShapes Go.ChangeAt Go.RowKit
set_option linter.unusedVariables false

theorem none_ref (w : World) : Calls Try.prog 22 #[noBits, noBits] w fun e w' => e = .returned (.bool true) ∧ Below w.heap.size w w' :=
  (refSame_any _ _ [] [] 0 0 w (row_nil w) (row_nil w)).mono fun e w' h => ⟨by rw [h.1]; simp [sameL], h.2⟩

set_option maxRecDepth 100000 in
set_option maxHeartbeats 2000000 in
theorem bp_idle (v : Value) (n u k at' : Int) (w : World) (h1 : 2000 < n) (h2 : n ≤ 80000) :
    Calls Try.prog 4 #[.agg #[v, .int .i64 n], .int .u64 u, .int .i64 k, .int .i64 at'] w fun e w' => e = .returned (.bool true) ∧ Below w.heap.size w w' := by
  go_enter Try.func4, Try.ntmps4
  go_wp2
  go_ret
  exact ⟨rfl, (Below.refl _ _).alloc (Nat.le_refl _) _⟩

set_option maxRecDepth 100000 in
set_option maxHeartbeats 2000000 in
theorem bp_bad (v : Value) (l : List Int) (n u k at' : Int) (w : World) (hr : RowB w v l) (hbt : Byt l) (hlen : l.length ≤ 140737488351232) (n0 : -9223372036854775808 ≤ n) (n1 : n ≤ 9223372036854775807) (hok : ¬ P.OkB l n) (hlook : (decide (2000 < n) = false) ∨ decide (2000 < n) = true ∧ decide (n ≤ 80000) = false) :
    Calls Try.prog 4 #[.agg #[v, .int .i64 n], .int .u64 u, .int .i64 k, .int .i64 at'] w fun e w' => e = .returned (.bool true) ∧ Below w.heap.size w w' := by
  have HF : Hid (∀ o : Obj, Calls Try.prog 18 #[.agg #[v, .int .i64 n]] (w.alloc o) fun e w' => e = .returned (.int .i64 4) ∧ Below (w.alloc o).heap.size (w.alloc o) w') := fun o => fault_bad v l n _ (hr.below ((Below.refl _ _).alloc (Nat.le_refl _) o) (Nat.le_refl _)) hbt hlen n0 n1 hok
  have HPU : Hid (∀ w' : World, Below w.heap.size w w' → Calls Try.prog 19 #[.agg #[v, .int .i64 n], .int .u64 u, .int .i64 k] w' fun e w2 => e = .returned (.tuple #[noBits, .int .i64 4]) ∧ Below w'.heap.size w' w2) := fun w' hb => push_bad v l n u k w' (hr.below hb (Nat.le_refl _)) hbt n0 n1 hok
  have HPL : Hid (∀ w' : World, Below w.heap.size w w' → Calls Try.prog 20 #[.agg #[v, .int .i64 n], .int .i64 at', .int .i64 k] w' fun e w2 => e = .returned (.tuple #[.int .u64 0, .int .i64 4]) ∧ Below w'.heap.size w' w2) := fun w' hb => pull_bad v l n at' k w' (hr.below hb (Nat.le_refl _)) hbt n0 n1 hok
  have HCK : Hid (∀ w' : World, Below w.heap.size w w' → Calls Try.prog 21 #[.agg #[v, .int .i64 n]] w' fun e w2 => e = .returned (.int .i64 4) ∧ Below w'.heap.size w' w2) := fun w' hb => check_bad v l n w' (hr.below hb (Nat.le_refl _)) hbt n0 n1 hok
  rcases hlook with hl1 | ⟨hl1, hl2⟩
  · go_enter Try.func4, Try.ntmps4
    go_wp2_with (first
      | (go_at_call 18; refine (HF.out _).mono ?_; rintro e w1 ⟨rfl, hb1⟩; obtain ⟨hx0, hx1, hb, hsz⟩ := box2 hb1; clear hb1 hsz)
      | (go_at_call 19; refine (HPU.out _ hb).mono ?_; rintro e w2 ⟨rfl, hb2⟩; replace hx0 := keep_cell hx0 hb2; replace hx1 := keep_cell hx1 hb2; replace hb := Below.next hb hb2; clear hb2; have hs2 : w.heap.size < w2.heap.size := World.block_lt_of_cell? _ _ hx1)
      | (go_at_call 20; refine (HPL.out _ (below_alloc hb _)).mono ?_; rintro e w3 ⟨rfl, hb3⟩; obtain ⟨hy0, hy1, hb23, hsy⟩ := box2 hb3; replace hx0 := keep_cell hx0 hb23; replace hx1 := keep_cell hx1 hb23; replace hb := Below.next hb hb23; clear hb3 hb23 hsy)
      | (go_at_call 21; refine (HCK.out _ hb).mono ?_; rintro e w4 ⟨rfl, hb4⟩; replace hy0 := keep_cell hy0 hb4; replace hy1 := keep_cell hy1 hb4; replace hx0 := keep_cell hx0 hb4; replace hx1 := keep_cell hx1 hb4; replace hb := Below.next hb hb4; clear hb4)
      | (go_at_call 22; refine (none_ref _).mono ?_; rintro e w5 ⟨rfl, hb5⟩; replace hx0 := keep_cell hx0 hb5; replace hx1 := keep_cell hx1 hb5; replace hb := Below.next hb hb5; clear hb5))
    go_ret
    exact ⟨rfl, hb⟩
  · go_enter Try.func4, Try.ntmps4
    go_wp2_with (first
      | (go_at_call 18; refine (HF.out _).mono ?_; rintro e w1 ⟨rfl, hb1⟩; obtain ⟨hx0, hx1, hb, hsz⟩ := box2 hb1; clear hb1 hsz)
      | (go_at_call 19; refine (HPU.out _ hb).mono ?_; rintro e w2 ⟨rfl, hb2⟩; replace hx0 := keep_cell hx0 hb2; replace hx1 := keep_cell hx1 hb2; replace hb := Below.next hb hb2; clear hb2; have hs2 : w.heap.size < w2.heap.size := World.block_lt_of_cell? _ _ hx1)
      | (go_at_call 20; refine (HPL.out _ (below_alloc hb _)).mono ?_; rintro e w3 ⟨rfl, hb3⟩; obtain ⟨hy0, hy1, hb23, hsy⟩ := box2 hb3; replace hx0 := keep_cell hx0 hb23; replace hx1 := keep_cell hx1 hb23; replace hb := Below.next hb hb23; clear hb3 hb23 hsy)
      | (go_at_call 21; refine (HCK.out _ hb).mono ?_; rintro e w4 ⟨rfl, hb4⟩; replace hy0 := keep_cell hy0 hb4; replace hy1 := keep_cell hy1 hb4; replace hx0 := keep_cell hx0 hb4; replace hx1 := keep_cell hx1 hb4; replace hb := Below.next hb hb4; clear hb4)
      | (go_at_call 22; refine (none_ref _).mono ?_; rintro e w5 ⟨rfl, hb5⟩; replace hx0 := keep_cell hx0 hb5; replace hx1 := keep_cell hx1 hb5; replace hb := Below.next hb hb5; clear hb5))
    go_ret
    exact ⟨rfl, hb⟩

set_option maxRecDepth 100000 in
set_option maxHeartbeats 2000000 in
theorem bp_width (v : Value) (l : List Int) (n u k at' : Int) (w : World) (hr : RowB w v l) (hbt : Byt l) (hlen : l.length ≤ 140737488351232) (n0 : -9223372036854775808 ≤ n) (n1 : n ≤ 9223372036854775807) (hok : P.OkB l n) (hk : k < 0 ∨ 64 < k) (hlook : (decide (2000 < n) = false) ∨ decide (2000 < n) = true ∧ decide (n ≤ 80000) = false) :
    Calls Try.prog 4 #[.agg #[v, .int .i64 n], .int .u64 u, .int .i64 k, .int .i64 at'] w fun e w' => e = .returned (.bool true) ∧ Below w.heap.size w w' := by
  have HF : Hid (∀ o : Obj, Calls Try.prog 18 #[.agg #[v, .int .i64 n]] (w.alloc o) fun e w' => e = .returned (.int .i64 0) ∧ Below (w.alloc o).heap.size (w.alloc o) w') := fun o => fault_ok v l n _ (hr.below ((Below.refl _ _).alloc (Nat.le_refl _) o) (Nat.le_refl _)) hbt hlen hok
  have HPU : Hid (∀ w' : World, Below w.heap.size w w' → Calls Try.prog 19 #[.agg #[v, .int .i64 n], .int .u64 u, .int .i64 k] w' fun e w2 => e = .returned (.tuple #[noBits, .int .i64 1]) ∧ Below w'.heap.size w' w2) := fun w' hb => push_width v l n u k w' (hr.below hb (Nat.le_refl _)) hbt n1 hok hk
  have HPL : Hid (∀ w' : World, Below w.heap.size w w' → Calls Try.prog 20 #[.agg #[v, .int .i64 n], .int .i64 at', .int .i64 k] w' fun e w2 => e = .returned (.tuple #[.int .u64 0, .int .i64 1]) ∧ Below w'.heap.size w' w2) := fun w' hb => pull_arg v l n at' k w' (hr.below hb (Nat.le_refl _)) hbt n1 hok (by omega)
  have HCK : Hid (∀ w' : World, Below w.heap.size w w' → Calls Try.prog 21 #[.agg #[v, .int .i64 n]] w' fun e w2 => e = .returned (.int .i64 0) ∧ Below w'.heap.size w' w2) := fun w' hb => check_ok v l n w' (hr.below hb (Nat.le_refl _)) hbt n1 hok
  have hk2 : decide (k < 0) = true ∨ decide (k < 0) = false ∧ decide (64 < k) = true := by simp; omega
  rcases hlook with hl1 | ⟨hl1, hl2⟩
  · rcases hk2 with hk3 | ⟨hk3, hk4⟩
    · go_enter Try.func4, Try.ntmps4
      go_wp2_with (first
        | (go_at_call 18; refine (HF.out _).mono ?_; rintro e w1 ⟨rfl, hb1⟩; obtain ⟨hx0, hx1, hb, hsz⟩ := box2 hb1; clear hb1 hsz)
        | (go_at_call 19; refine (HPU.out _ hb).mono ?_; rintro e w2 ⟨rfl, hb2⟩; replace hx0 := keep_cell hx0 hb2; replace hx1 := keep_cell hx1 hb2; replace hb := Below.next hb hb2; clear hb2; have hs2 : w.heap.size < w2.heap.size := World.block_lt_of_cell? _ _ hx1)
        | (go_at_call 20; refine (HPL.out _ (below_alloc hb _)).mono ?_; rintro e w3 ⟨rfl, hb3⟩; obtain ⟨hy0, hy1, hb23, hsy⟩ := box2 hb3; replace hx0 := keep_cell hx0 hb23; replace hx1 := keep_cell hx1 hb23; replace hb := Below.next hb hb23; clear hb3 hb23 hsy)
        | (go_at_call 21; refine (HCK.out _ hb).mono ?_; rintro e w4 ⟨rfl, hb4⟩; replace hy0 := keep_cell hy0 hb4; replace hy1 := keep_cell hy1 hb4; replace hx0 := keep_cell hx0 hb4; replace hx1 := keep_cell hx1 hb4; replace hb := Below.next hb hb4; clear hb4)
        | (go_at_call 22; refine (none_ref _).mono ?_; rintro e w5 ⟨rfl, hb5⟩; replace hx0 := keep_cell hx0 hb5; replace hx1 := keep_cell hx1 hb5; replace hb := Below.next hb hb5; clear hb5))
      go_ret
      exact ⟨rfl, hb⟩
    · go_enter Try.func4, Try.ntmps4
      go_wp2_with (first
        | (go_at_call 18; refine (HF.out _).mono ?_; rintro e w1 ⟨rfl, hb1⟩; obtain ⟨hx0, hx1, hb, hsz⟩ := box2 hb1; clear hb1 hsz)
        | (go_at_call 19; refine (HPU.out _ hb).mono ?_; rintro e w2 ⟨rfl, hb2⟩; replace hx0 := keep_cell hx0 hb2; replace hx1 := keep_cell hx1 hb2; replace hb := Below.next hb hb2; clear hb2; have hs2 : w.heap.size < w2.heap.size := World.block_lt_of_cell? _ _ hx1)
        | (go_at_call 20; refine (HPL.out _ (below_alloc hb _)).mono ?_; rintro e w3 ⟨rfl, hb3⟩; obtain ⟨hy0, hy1, hb23, hsy⟩ := box2 hb3; replace hx0 := keep_cell hx0 hb23; replace hx1 := keep_cell hx1 hb23; replace hb := Below.next hb hb23; clear hb3 hb23 hsy)
        | (go_at_call 21; refine (HCK.out _ hb).mono ?_; rintro e w4 ⟨rfl, hb4⟩; replace hy0 := keep_cell hy0 hb4; replace hy1 := keep_cell hy1 hb4; replace hx0 := keep_cell hx0 hb4; replace hx1 := keep_cell hx1 hb4; replace hb := Below.next hb hb4; clear hb4)
        | (go_at_call 22; refine (none_ref _).mono ?_; rintro e w5 ⟨rfl, hb5⟩; replace hx0 := keep_cell hx0 hb5; replace hx1 := keep_cell hx1 hb5; replace hb := Below.next hb hb5; clear hb5))
      go_ret
      exact ⟨rfl, hb⟩
  · rcases hk2 with hk3 | ⟨hk3, hk4⟩
    · go_enter Try.func4, Try.ntmps4
      go_wp2_with (first
        | (go_at_call 18; refine (HF.out _).mono ?_; rintro e w1 ⟨rfl, hb1⟩; obtain ⟨hx0, hx1, hb, hsz⟩ := box2 hb1; clear hb1 hsz)
        | (go_at_call 19; refine (HPU.out _ hb).mono ?_; rintro e w2 ⟨rfl, hb2⟩; replace hx0 := keep_cell hx0 hb2; replace hx1 := keep_cell hx1 hb2; replace hb := Below.next hb hb2; clear hb2; have hs2 : w.heap.size < w2.heap.size := World.block_lt_of_cell? _ _ hx1)
        | (go_at_call 20; refine (HPL.out _ (below_alloc hb _)).mono ?_; rintro e w3 ⟨rfl, hb3⟩; obtain ⟨hy0, hy1, hb23, hsy⟩ := box2 hb3; replace hx0 := keep_cell hx0 hb23; replace hx1 := keep_cell hx1 hb23; replace hb := Below.next hb hb23; clear hb3 hb23 hsy)
        | (go_at_call 21; refine (HCK.out _ hb).mono ?_; rintro e w4 ⟨rfl, hb4⟩; replace hy0 := keep_cell hy0 hb4; replace hy1 := keep_cell hy1 hb4; replace hx0 := keep_cell hx0 hb4; replace hx1 := keep_cell hx1 hb4; replace hb := Below.next hb hb4; clear hb4)
        | (go_at_call 22; refine (none_ref _).mono ?_; rintro e w5 ⟨rfl, hb5⟩; replace hx0 := keep_cell hx0 hb5; replace hx1 := keep_cell hx1 hb5; replace hb := Below.next hb hb5; clear hb5))
      go_ret
      exact ⟨rfl, hb⟩
    · go_enter Try.func4, Try.ntmps4
      go_wp2_with (first
        | (go_at_call 18; refine (HF.out _).mono ?_; rintro e w1 ⟨rfl, hb1⟩; obtain ⟨hx0, hx1, hb, hsz⟩ := box2 hb1; clear hb1 hsz)
        | (go_at_call 19; refine (HPU.out _ hb).mono ?_; rintro e w2 ⟨rfl, hb2⟩; replace hx0 := keep_cell hx0 hb2; replace hx1 := keep_cell hx1 hb2; replace hb := Below.next hb hb2; clear hb2; have hs2 : w.heap.size < w2.heap.size := World.block_lt_of_cell? _ _ hx1)
        | (go_at_call 20; refine (HPL.out _ (below_alloc hb _)).mono ?_; rintro e w3 ⟨rfl, hb3⟩; obtain ⟨hy0, hy1, hb23, hsy⟩ := box2 hb3; replace hx0 := keep_cell hx0 hb23; replace hx1 := keep_cell hx1 hb23; replace hb := Below.next hb hb23; clear hb3 hb23 hsy)
        | (go_at_call 21; refine (HCK.out _ hb).mono ?_; rintro e w4 ⟨rfl, hb4⟩; replace hy0 := keep_cell hy0 hb4; replace hy1 := keep_cell hy1 hb4; replace hx0 := keep_cell hx0 hb4; replace hx1 := keep_cell hx1 hb4; replace hb := Below.next hb hb4; clear hb4)
        | (go_at_call 22; refine (none_ref _).mono ?_; rintro e w5 ⟨rfl, hb5⟩; replace hx0 := keep_cell hx0 hb5; replace hx1 := keep_cell hx1 hb5; replace hb := Below.next hb hb5; clear hb5))
      go_ret
      exact ⟨rfl, hb⟩

set_option maxRecDepth 100000 in
set_option maxHeartbeats 2000000 in
theorem bp_f_1 (v : Value) (bs : List Bool) (u m : Nat) (at' : Int) (w : World) (hr : RowB w v (P.pack bs)) (hn : bs.length ≤ 8388608) (hm : m ≤ 64) (u1 : (u : Int) ≤ 18446744073709551615) (p0 : -9223372036854775808 ≤ at') (p1 : at' ≤ 9223372036854775807) (hlook : (decide (2000 < (bs.length : Int)) = false) ∨ decide (2000 < (bs.length : Int)) = true ∧ decide ((bs.length : Int) ≤ 80000) = false) (hfit : fitsB u m = false) (hm6 : m < 64) (ht2 : 0 < (u : Int) / 2 ^ m) (hq : at' < 0) :
    Calls Try.prog 4 #[.agg #[v, .int .i64 bs.length], .int .u64 u, .int .i64 m, .int .i64 at'] w fun e w' => e = .returned (.bool true) ∧ Below w.heap.size w w' := by
  have hbt : Byt (P.pack bs) := P.pack_byt _ bs
  have hok := P.pack_ok bs
  have hlen : (P.pack bs).length ≤ 140737488351232 := by rw [P.pack_len]; unfold P.bytesN; omega
  have n1 : (bs.length : Int) ≤ 9223372036854775807 := by omega
  have HF : Hid (∀ o : Obj, Calls Try.prog 18 #[.agg #[v, .int .i64 bs.length]] (w.alloc o) fun e w' => e = .returned (.int .i64 0) ∧ Below (w.alloc o).heap.size (w.alloc o) w') := fun o => fault_ok v _ _ _ (hr.below ((Below.refl _ _).alloc (Nat.le_refl _) o) (Nat.le_refl _)) hbt hlen hok
  have HPU : Hid (∀ w' : World, Below w.heap.size w w' → Calls Try.prog 19 #[.agg #[v, .int .i64 bs.length], .int .u64 u, .int .i64 m] w' fun e w2 => e = .returned (.tuple #[noBits, .int .i64 1]) ∧ Below w'.heap.size w' w2) := fun w' hb => push_fits v _ _ u m w' (hr.below hb (Nat.le_refl _)) hbt n1 hok (by omega) (by omega) (by omega) u1 hfit
  have HPL : Hid (∀ w' : World, Below w.heap.size w w' → Calls Try.prog 20 #[.agg #[v, .int .i64 bs.length], .int .i64 at', .int .i64 m] w' fun e w2 => e = .returned (.tuple #[.int .u64 (0 : Int), .int .i64 1]) ∧ Below w'.heap.size w' w2) := fun w' hb => pull_arg v _ _ at' m w' (hr.below hb (Nat.le_refl _)) hbt n1 hok (by omega)
  have HCK : Hid (∀ w' : World, Below w.heap.size w w' → Calls Try.prog 21 #[.agg #[v, .int .i64 bs.length]] w' fun e w2 => e = .returned (.int .i64 0) ∧ Below w'.heap.size w' w2) := fun w' hb => check_ok v _ _ w' (hr.below hb (Nat.le_refl _)) hbt n1 hok
  have t1 : decide ((m : Int) < 64) = true := by simp; omega
  have t2 : decide (0 < (u : Int) / 2 ^ m) = true := by simp; exact ht2
  have q1 : decide (at' < 0) = true := by simp; omega
  rcases hlook with hl1 | ⟨hl1, hl2⟩
  · go_enter Try.func4, Try.ntmps4
    go_wp2_with (first
      | (go_at_call 18; refine (HF.out _).mono ?_; rintro e w1 ⟨rfl, hb1⟩; obtain ⟨hx0, hx1, hb, hsz⟩ := box2 hb1; clear hb1 hsz)
      | (go_at_call 19; refine (HPU.out _ hb).mono ?_; rintro e w2 ⟨rfl, hb2⟩; replace hx0 := keep_cell hx0 hb2; replace hx1 := keep_cell hx1 hb2; replace hb := Below.next hb hb2; clear hb2; have hs2 : w.heap.size < w2.heap.size := World.block_lt_of_cell? _ _ hx1)
      | (go_at_call 20; refine (HPL.out _ (below_alloc hb _)).mono ?_; rintro e w3 ⟨rfl, hb3⟩; obtain ⟨hy0, hy1, hb23, hsy⟩ := box2 hb3; replace hx0 := keep_cell hx0 hb23; replace hx1 := keep_cell hx1 hb23; replace hb := Below.next hb hb23; clear hb3 hb23 hsy)
      | (go_at_call 21; refine (HCK.out _ hb).mono ?_; rintro e w4 ⟨rfl, hb4⟩; replace hy0 := keep_cell hy0 hb4; replace hy1 := keep_cell hy1 hb4; replace hx0 := keep_cell hx0 hb4; replace hx1 := keep_cell hx1 hb4; replace hb := Below.next hb hb4; clear hb4)
      | (go_at_call 22; refine (none_ref _).mono ?_; rintro e w5 ⟨rfl, hb5⟩; replace hx0 := keep_cell hx0 hb5; replace hx1 := keep_cell hx1 hb5; replace hb := Below.next hb hb5; clear hb5)
      | (go_at_call 24; refine (HUN.out _ hb).mono ?_; rintro e w6 ⟨rfl, hb6⟩; replace hb := Below.next hb hb6; clear hb6)
      | (go_at_call 26; refine (HVO.out _).mono ?_; rintro e w7 ⟨rfl, rfl⟩))
    go_ret
    exact ⟨rfl, hb⟩
  · go_enter Try.func4, Try.ntmps4
    go_wp2_with (first
      | (go_at_call 18; refine (HF.out _).mono ?_; rintro e w1 ⟨rfl, hb1⟩; obtain ⟨hx0, hx1, hb, hsz⟩ := box2 hb1; clear hb1 hsz)
      | (go_at_call 19; refine (HPU.out _ hb).mono ?_; rintro e w2 ⟨rfl, hb2⟩; replace hx0 := keep_cell hx0 hb2; replace hx1 := keep_cell hx1 hb2; replace hb := Below.next hb hb2; clear hb2; have hs2 : w.heap.size < w2.heap.size := World.block_lt_of_cell? _ _ hx1)
      | (go_at_call 20; refine (HPL.out _ (below_alloc hb _)).mono ?_; rintro e w3 ⟨rfl, hb3⟩; obtain ⟨hy0, hy1, hb23, hsy⟩ := box2 hb3; replace hx0 := keep_cell hx0 hb23; replace hx1 := keep_cell hx1 hb23; replace hb := Below.next hb hb23; clear hb3 hb23 hsy)
      | (go_at_call 21; refine (HCK.out _ hb).mono ?_; rintro e w4 ⟨rfl, hb4⟩; replace hy0 := keep_cell hy0 hb4; replace hy1 := keep_cell hy1 hb4; replace hx0 := keep_cell hx0 hb4; replace hx1 := keep_cell hx1 hb4; replace hb := Below.next hb hb4; clear hb4)
      | (go_at_call 22; refine (none_ref _).mono ?_; rintro e w5 ⟨rfl, hb5⟩; replace hx0 := keep_cell hx0 hb5; replace hx1 := keep_cell hx1 hb5; replace hb := Below.next hb hb5; clear hb5)
      | (go_at_call 24; refine (HUN.out _ hb).mono ?_; rintro e w6 ⟨rfl, hb6⟩; replace hb := Below.next hb hb6; clear hb6)
      | (go_at_call 26; refine (HVO.out _).mono ?_; rintro e w7 ⟨rfl, rfl⟩))
    go_ret
    exact ⟨rfl, hb⟩

set_option maxRecDepth 100000 in
set_option maxHeartbeats 2000000 in
theorem bp_f_2 (v : Value) (bs : List Bool) (u m : Nat) (at' : Int) (w : World) (hr : RowB w v (P.pack bs)) (hn : bs.length ≤ 8388608) (hm : m ≤ 64) (u1 : (u : Int) ≤ 18446744073709551615) (p0 : -9223372036854775808 ≤ at') (p1 : at' ≤ 9223372036854775807) (hlook : (decide (2000 < (bs.length : Int)) = false) ∨ decide (2000 < (bs.length : Int)) = true ∧ decide ((bs.length : Int) ≤ 80000) = false) (hfit : fitsB u m = false) (hm6 : m < 64) (ht2 : 0 < (u : Int) / 2 ^ m) (hq : 0 ≤ at') (hq2 : (bs.length : Int) - m < at') :
    Calls Try.prog 4 #[.agg #[v, .int .i64 bs.length], .int .u64 u, .int .i64 m, .int .i64 at'] w fun e w' => e = .returned (.bool true) ∧ Below w.heap.size w w' := by
  have hbt : Byt (P.pack bs) := P.pack_byt _ bs
  have hok := P.pack_ok bs
  have hlen : (P.pack bs).length ≤ 140737488351232 := by rw [P.pack_len]; unfold P.bytesN; omega
  have n1 : (bs.length : Int) ≤ 9223372036854775807 := by omega
  have HF : Hid (∀ o : Obj, Calls Try.prog 18 #[.agg #[v, .int .i64 bs.length]] (w.alloc o) fun e w' => e = .returned (.int .i64 0) ∧ Below (w.alloc o).heap.size (w.alloc o) w') := fun o => fault_ok v _ _ _ (hr.below ((Below.refl _ _).alloc (Nat.le_refl _) o) (Nat.le_refl _)) hbt hlen hok
  have HPU : Hid (∀ w' : World, Below w.heap.size w w' → Calls Try.prog 19 #[.agg #[v, .int .i64 bs.length], .int .u64 u, .int .i64 m] w' fun e w2 => e = .returned (.tuple #[noBits, .int .i64 1]) ∧ Below w'.heap.size w' w2) := fun w' hb => push_fits v _ _ u m w' (hr.below hb (Nat.le_refl _)) hbt n1 hok (by omega) (by omega) (by omega) u1 hfit
  have HPL : Hid (∀ w' : World, Below w.heap.size w w' → Calls Try.prog 20 #[.agg #[v, .int .i64 bs.length], .int .i64 at', .int .i64 m] w' fun e w2 => e = .returned (.tuple #[.int .u64 (0 : Int), .int .i64 3]) ∧ Below w'.heap.size w' w2) := fun w' hb => pull_short v _ _ at' m w' (hr.below hb (Nat.le_refl _)) hbt n1 hok (by omega) (by omega) (by omega) p1 (by omega)
  have HCK : Hid (∀ w' : World, Below w.heap.size w w' → Calls Try.prog 21 #[.agg #[v, .int .i64 bs.length]] w' fun e w2 => e = .returned (.int .i64 0) ∧ Below w'.heap.size w' w2) := fun w' hb => check_ok v _ _ w' (hr.below hb (Nat.le_refl _)) hbt n1 hok
  have t1 : decide ((m : Int) < 64) = true := by simp; omega
  have t2 : decide (0 < (u : Int) / 2 ^ m) = true := by simp; exact ht2
  have q1 : decide (at' < 0) = false := by simp; omega
  have q2 : decide ((bs.length : Int) - (m : Int) < at') = true := by simp; omega
  rcases hlook with hl1 | ⟨hl1, hl2⟩
  · go_enter Try.func4, Try.ntmps4
    go_wp2_with (first
      | (go_at_call 18; refine (HF.out _).mono ?_; rintro e w1 ⟨rfl, hb1⟩; obtain ⟨hx0, hx1, hb, hsz⟩ := box2 hb1; clear hb1 hsz)
      | (go_at_call 19; refine (HPU.out _ hb).mono ?_; rintro e w2 ⟨rfl, hb2⟩; replace hx0 := keep_cell hx0 hb2; replace hx1 := keep_cell hx1 hb2; replace hb := Below.next hb hb2; clear hb2; have hs2 : w.heap.size < w2.heap.size := World.block_lt_of_cell? _ _ hx1)
      | (go_at_call 20; refine (HPL.out _ (below_alloc hb _)).mono ?_; rintro e w3 ⟨rfl, hb3⟩; obtain ⟨hy0, hy1, hb23, hsy⟩ := box2 hb3; replace hx0 := keep_cell hx0 hb23; replace hx1 := keep_cell hx1 hb23; replace hb := Below.next hb hb23; clear hb3 hb23 hsy)
      | (go_at_call 21; refine (HCK.out _ hb).mono ?_; rintro e w4 ⟨rfl, hb4⟩; replace hy0 := keep_cell hy0 hb4; replace hy1 := keep_cell hy1 hb4; replace hx0 := keep_cell hx0 hb4; replace hx1 := keep_cell hx1 hb4; replace hb := Below.next hb hb4; clear hb4)
      | (go_at_call 22; refine (none_ref _).mono ?_; rintro e w5 ⟨rfl, hb5⟩; replace hx0 := keep_cell hx0 hb5; replace hx1 := keep_cell hx1 hb5; replace hb := Below.next hb hb5; clear hb5)
      | (go_at_call 24; refine (HUN.out _ hb).mono ?_; rintro e w6 ⟨rfl, hb6⟩; replace hb := Below.next hb hb6; clear hb6)
      | (go_at_call 26; refine (HVO.out _).mono ?_; rintro e w7 ⟨rfl, rfl⟩))
    go_ret
    exact ⟨rfl, hb⟩
  · go_enter Try.func4, Try.ntmps4
    go_wp2_with (first
      | (go_at_call 18; refine (HF.out _).mono ?_; rintro e w1 ⟨rfl, hb1⟩; obtain ⟨hx0, hx1, hb, hsz⟩ := box2 hb1; clear hb1 hsz)
      | (go_at_call 19; refine (HPU.out _ hb).mono ?_; rintro e w2 ⟨rfl, hb2⟩; replace hx0 := keep_cell hx0 hb2; replace hx1 := keep_cell hx1 hb2; replace hb := Below.next hb hb2; clear hb2; have hs2 : w.heap.size < w2.heap.size := World.block_lt_of_cell? _ _ hx1)
      | (go_at_call 20; refine (HPL.out _ (below_alloc hb _)).mono ?_; rintro e w3 ⟨rfl, hb3⟩; obtain ⟨hy0, hy1, hb23, hsy⟩ := box2 hb3; replace hx0 := keep_cell hx0 hb23; replace hx1 := keep_cell hx1 hb23; replace hb := Below.next hb hb23; clear hb3 hb23 hsy)
      | (go_at_call 21; refine (HCK.out _ hb).mono ?_; rintro e w4 ⟨rfl, hb4⟩; replace hy0 := keep_cell hy0 hb4; replace hy1 := keep_cell hy1 hb4; replace hx0 := keep_cell hx0 hb4; replace hx1 := keep_cell hx1 hb4; replace hb := Below.next hb hb4; clear hb4)
      | (go_at_call 22; refine (none_ref _).mono ?_; rintro e w5 ⟨rfl, hb5⟩; replace hx0 := keep_cell hx0 hb5; replace hx1 := keep_cell hx1 hb5; replace hb := Below.next hb hb5; clear hb5)
      | (go_at_call 24; refine (HUN.out _ hb).mono ?_; rintro e w6 ⟨rfl, hb6⟩; replace hb := Below.next hb hb6; clear hb6)
      | (go_at_call 26; refine (HVO.out _).mono ?_; rintro e w7 ⟨rfl, rfl⟩))
    go_ret
    exact ⟨rfl, hb⟩

set_option maxRecDepth 100000 in
set_option maxHeartbeats 2000000 in
theorem bp_f_3 (v : Value) (bs : List Bool) (u m : Nat) (at' : Int) (w : World) (hr : RowB w v (P.pack bs)) (hn : bs.length ≤ 8388608) (hm : m ≤ 64) (u1 : (u : Int) ≤ 18446744073709551615) (p0 : -9223372036854775808 ≤ at') (p1 : at' ≤ 9223372036854775807) (hlook : (decide (2000 < (bs.length : Int)) = false) ∨ decide (2000 < (bs.length : Int)) = true ∧ decide ((bs.length : Int) ≤ 80000) = false) (p : Nat) (hfit : fitsB u m = false) (hm6 : m < 64) (ht2 : 0 < (u : Int) / 2 ^ m) (hq : p + m ≤ bs.length) :
    Calls Try.prog 4 #[.agg #[v, .int .i64 bs.length], .int .u64 u, .int .i64 m, .int .i64 (p : Nat)] w fun e w' => e = .returned (.bool true) ∧ Below w.heap.size w w' := by
  have hbt : Byt (P.pack bs) := P.pack_byt _ bs
  have hok := P.pack_ok bs
  have hlen : (P.pack bs).length ≤ 140737488351232 := by rw [P.pack_len]; unfold P.bytesN; omega
  have n1 : (bs.length : Int) ≤ 9223372036854775807 := by omega
  have HF : Hid (∀ o : Obj, Calls Try.prog 18 #[.agg #[v, .int .i64 bs.length]] (w.alloc o) fun e w' => e = .returned (.int .i64 0) ∧ Below (w.alloc o).heap.size (w.alloc o) w') := fun o => fault_ok v _ _ _ (hr.below ((Below.refl _ _).alloc (Nat.le_refl _) o) (Nat.le_refl _)) hbt hlen hok
  have HPU : Hid (∀ w' : World, Below w.heap.size w w' → Calls Try.prog 19 #[.agg #[v, .int .i64 bs.length], .int .u64 u, .int .i64 m] w' fun e w2 => e = .returned (.tuple #[noBits, .int .i64 1]) ∧ Below w'.heap.size w' w2) := fun w' hb => push_fits v _ _ u m w' (hr.below hb (Nat.le_refl _)) hbt n1 hok (by omega) (by omega) (by omega) u1 hfit
  have HPL : Hid (∀ w' : World, Below w.heap.size w w' → Calls Try.prog 20 #[.agg #[v, .int .i64 bs.length], .int .i64 p, .int .i64 m] w' fun e w2 => e = .returned (.tuple #[.int .u64 (P.val ((bs.drop p).take m) : Nat), .int .i64 0]) ∧ Below w'.heap.size w' w2) := fun w' hb => pull_ok v bs p m w' (hr.below hb (Nat.le_refl _)) n1 hm hq
  have HCK : Hid (∀ w' : World, Below w.heap.size w w' → Calls Try.prog 21 #[.agg #[v, .int .i64 bs.length]] w' fun e w2 => e = .returned (.int .i64 0) ∧ Below w'.heap.size w' w2) := fun w' hb => check_ok v _ _ w' (hr.below hb (Nat.le_refl _)) hbt n1 hok
  have t1 : decide ((m : Int) < 64) = true := by simp; omega
  have t2 : decide (0 < (u : Int) / 2 ^ m) = true := by simp; exact ht2
  have q1 : decide ((p : Int) < 0) = false := by simp
  have q2 : decide ((bs.length : Int) - (m : Int) < (p : Int)) = false := by simp; omega
  have HUN : Hid (∀ w' : World, Below w.heap.size w w' → Calls Try.prog 24 #[.agg #[v, .int .i64 bs.length]] w' fun e w2 => e = .returned (.string (P.strB bs)) ∧ Below w'.heap.size w' w2) := fun w' hb => unpacked_any v bs w' (hr.below hb (Nat.le_refl _)) (by omega)
  have HVO : Hid (∀ w' : World, Calls Try.prog 26 #[.string (P.strB ((bs.drop p).take m))] w' fun e w2 => e = .returned (.int .u64 (P.val ((bs.drop p).take m) : Nat)) ∧ w2 = w') := fun w' => valueOf_any _ w' (by simp; omega)
  have hext : (P.strB bs).extract p (p + m) = P.strB ((bs.drop p).take m) := by rw [P.strB_extract]; congr 2; omega
  have hz1 : bs.length ≤ (P.strB bs).size := by rw [P.strB_size]; exact Nat.le_refl _
  have hz2 : (P.strB bs).size ≤ bs.length := by rw [P.strB_size]; exact Nat.le_refl _
  have i1 : (0 : Int) ≤ (p : Int) := by omega
  have i2 : (p : Int) ≤ (p : Int) + (m : Int) := by omega
  have i3 : (p : Int) + (m : Int) ≤ ((P.strB bs).size : Int) := by omega
  generalize P.strB bs = S at *
  generalize P.strB ((bs.drop p).take m) = S8 at *
  generalize P.val ((bs.drop p).take m) = V at *
  rcases hlook with hl1 | ⟨hl1, hl2⟩
  · go_enter Try.func4, Try.ntmps4
    go_wp2_with (first
      | (go_at_call 18; refine (HF.out _).mono ?_; rintro e w1 ⟨rfl, hb1⟩; obtain ⟨hx0, hx1, hb, hsz⟩ := box2 hb1; clear hb1 hsz)
      | (go_at_call 19; refine (HPU.out _ hb).mono ?_; rintro e w2 ⟨rfl, hb2⟩; replace hx0 := keep_cell hx0 hb2; replace hx1 := keep_cell hx1 hb2; replace hb := Below.next hb hb2; clear hb2; have hs2 : w.heap.size < w2.heap.size := World.block_lt_of_cell? _ _ hx1)
      | (go_at_call 20; refine (HPL.out _ (below_alloc hb _)).mono ?_; rintro e w3 ⟨rfl, hb3⟩; obtain ⟨hy0, hy1, hb23, hsy⟩ := box2 hb3; replace hx0 := keep_cell hx0 hb23; replace hx1 := keep_cell hx1 hb23; replace hb := Below.next hb hb23; clear hb3 hb23 hsy)
      | (go_at_call 21; refine (HCK.out _ hb).mono ?_; rintro e w4 ⟨rfl, hb4⟩; replace hy0 := keep_cell hy0 hb4; replace hy1 := keep_cell hy1 hb4; replace hx0 := keep_cell hx0 hb4; replace hx1 := keep_cell hx1 hb4; replace hb := Below.next hb hb4; clear hb4)
      | (go_at_call 22; refine (none_ref _).mono ?_; rintro e w5 ⟨rfl, hb5⟩; replace hx0 := keep_cell hx0 hb5; replace hx1 := keep_cell hx1 hb5; replace hb := Below.next hb hb5; clear hb5)
      | (go_at_call 24; refine (HUN.out _ hb).mono ?_; rintro e w6 ⟨rfl, hb6⟩; replace hb := Below.next hb hb6; clear hb6)
      | (go_at_call 26; refine (HVO.out _).mono ?_; rintro e w7 ⟨rfl, rfl⟩))
    go_ret
    exact ⟨rfl, hb⟩
  · go_enter Try.func4, Try.ntmps4
    go_wp2_with (first
      | (go_at_call 18; refine (HF.out _).mono ?_; rintro e w1 ⟨rfl, hb1⟩; obtain ⟨hx0, hx1, hb, hsz⟩ := box2 hb1; clear hb1 hsz)
      | (go_at_call 19; refine (HPU.out _ hb).mono ?_; rintro e w2 ⟨rfl, hb2⟩; replace hx0 := keep_cell hx0 hb2; replace hx1 := keep_cell hx1 hb2; replace hb := Below.next hb hb2; clear hb2; have hs2 : w.heap.size < w2.heap.size := World.block_lt_of_cell? _ _ hx1)
      | (go_at_call 20; refine (HPL.out _ (below_alloc hb _)).mono ?_; rintro e w3 ⟨rfl, hb3⟩; obtain ⟨hy0, hy1, hb23, hsy⟩ := box2 hb3; replace hx0 := keep_cell hx0 hb23; replace hx1 := keep_cell hx1 hb23; replace hb := Below.next hb hb23; clear hb3 hb23 hsy)
      | (go_at_call 21; refine (HCK.out _ hb).mono ?_; rintro e w4 ⟨rfl, hb4⟩; replace hy0 := keep_cell hy0 hb4; replace hy1 := keep_cell hy1 hb4; replace hx0 := keep_cell hx0 hb4; replace hx1 := keep_cell hx1 hb4; replace hb := Below.next hb hb4; clear hb4)
      | (go_at_call 22; refine (none_ref _).mono ?_; rintro e w5 ⟨rfl, hb5⟩; replace hx0 := keep_cell hx0 hb5; replace hx1 := keep_cell hx1 hb5; replace hb := Below.next hb hb5; clear hb5)
      | (go_at_call 24; refine (HUN.out _ hb).mono ?_; rintro e w6 ⟨rfl, hb6⟩; replace hb := Below.next hb hb6; clear hb6)
      | (go_at_call 26; refine (HVO.out _).mono ?_; rintro e w7 ⟨rfl, rfl⟩))
    go_ret
    exact ⟨rfl, hb⟩

set_option maxRecDepth 100000 in
set_option maxHeartbeats 2000000 in
theorem bp_la_1 (v : Value) (bs : List Bool) (u m : Nat) (at' : Int) (w : World) (hr : RowB w v (P.pack bs)) (hn : bs.length ≤ 8388608) (hm : m ≤ 64) (u1 : (u : Int) ≤ 18446744073709551615) (p0 : -9223372036854775808 ≤ at') (p1 : at' ≤ 9223372036854775807) (hlook : (decide (2000 < (bs.length : Int)) = false) ∨ decide (2000 < (bs.length : Int)) = true ∧ decide ((bs.length : Int) ≤ 80000) = false) (hfit : fitsB u m = true) (hm6 : m < 64) (ht2 : (u : Int) / 2 ^ m ≤ 0) (hbig : 80000 < bs.length + m) (hq : at' < 0) :
    Calls Try.prog 4 #[.agg #[v, .int .i64 bs.length], .int .u64 u, .int .i64 m, .int .i64 at'] w fun e w' => e = .returned (.bool true) ∧ Below w.heap.size w w' := by
  have hbt : Byt (P.pack bs) := P.pack_byt _ bs
  have hok := P.pack_ok bs
  have hlen : (P.pack bs).length ≤ 140737488351232 := by rw [P.pack_len]; unfold P.bytesN; omega
  have n1 : (bs.length : Int) ≤ 9223372036854775807 := by omega
  have HF : Hid (∀ o : Obj, Calls Try.prog 18 #[.agg #[v, .int .i64 bs.length]] (w.alloc o) fun e w' => e = .returned (.int .i64 0) ∧ Below (w.alloc o).heap.size (w.alloc o) w') := fun o => fault_ok v _ _ _ (hr.below ((Below.refl _ _).alloc (Nat.le_refl _) o) (Nat.le_refl _)) hbt hlen hok
  have HPU : Hid (∀ w' : World, Below w.heap.size w w' → Calls Try.prog 19 #[.agg #[v, .int .i64 bs.length], .int .u64 u, .int .i64 m] w' fun e w2 => e = .returned (.tuple #[noBits, .int .i64 2]) ∧ Below w'.heap.size w' w2) := fun w' hb => push_large v _ _ u m w' (hr.below hb (Nat.le_refl _)) hbt n1 hok (by omega) (by omega) (by omega) u1 hfit (by omega)
  have HPL : Hid (∀ w' : World, Below w.heap.size w w' → Calls Try.prog 20 #[.agg #[v, .int .i64 bs.length], .int .i64 at', .int .i64 m] w' fun e w2 => e = .returned (.tuple #[.int .u64 (0 : Int), .int .i64 1]) ∧ Below w'.heap.size w' w2) := fun w' hb => pull_arg v _ _ at' m w' (hr.below hb (Nat.le_refl _)) hbt n1 hok (by omega)
  have HCK : Hid (∀ w' : World, Below w.heap.size w w' → Calls Try.prog 21 #[.agg #[v, .int .i64 bs.length]] w' fun e w2 => e = .returned (.int .i64 0) ∧ Below w'.heap.size w' w2) := fun w' hb => check_ok v _ _ w' (hr.below hb (Nat.le_refl _)) hbt n1 hok
  have t1 : decide ((m : Int) < 64) = true := by simp; omega
  have t2 : decide (0 < (u : Int) / 2 ^ m) = false := by simp; exact ht2
  have t3 : decide (80000 < (bs.length : Int) + (m : Int)) = true := by simp; omega
  have q1 : decide (at' < 0) = true := by simp; omega
  rcases hlook with hl1 | ⟨hl1, hl2⟩
  · go_enter Try.func4, Try.ntmps4
    go_wp2_with (first
      | (go_at_call 18; refine (HF.out _).mono ?_; rintro e w1 ⟨rfl, hb1⟩; obtain ⟨hx0, hx1, hb, hsz⟩ := box2 hb1; clear hb1 hsz)
      | (go_at_call 19; refine (HPU.out _ hb).mono ?_; rintro e w2 ⟨rfl, hb2⟩; replace hx0 := keep_cell hx0 hb2; replace hx1 := keep_cell hx1 hb2; replace hb := Below.next hb hb2; clear hb2; have hs2 : w.heap.size < w2.heap.size := World.block_lt_of_cell? _ _ hx1)
      | (go_at_call 20; refine (HPL.out _ (below_alloc hb _)).mono ?_; rintro e w3 ⟨rfl, hb3⟩; obtain ⟨hy0, hy1, hb23, hsy⟩ := box2 hb3; replace hx0 := keep_cell hx0 hb23; replace hx1 := keep_cell hx1 hb23; replace hb := Below.next hb hb23; clear hb3 hb23 hsy)
      | (go_at_call 21; refine (HCK.out _ hb).mono ?_; rintro e w4 ⟨rfl, hb4⟩; replace hy0 := keep_cell hy0 hb4; replace hy1 := keep_cell hy1 hb4; replace hx0 := keep_cell hx0 hb4; replace hx1 := keep_cell hx1 hb4; replace hb := Below.next hb hb4; clear hb4)
      | (go_at_call 22; refine (none_ref _).mono ?_; rintro e w5 ⟨rfl, hb5⟩; replace hx0 := keep_cell hx0 hb5; replace hx1 := keep_cell hx1 hb5; replace hb := Below.next hb hb5; clear hb5)
      | (go_at_call 24; refine (HUN.out _ hb).mono ?_; rintro e w6 ⟨rfl, hb6⟩; replace hb := Below.next hb hb6; clear hb6)
      | (go_at_call 26; refine (HVO.out _).mono ?_; rintro e w7 ⟨rfl, rfl⟩))
    go_ret
    exact ⟨rfl, hb⟩
  · go_enter Try.func4, Try.ntmps4
    go_wp2_with (first
      | (go_at_call 18; refine (HF.out _).mono ?_; rintro e w1 ⟨rfl, hb1⟩; obtain ⟨hx0, hx1, hb, hsz⟩ := box2 hb1; clear hb1 hsz)
      | (go_at_call 19; refine (HPU.out _ hb).mono ?_; rintro e w2 ⟨rfl, hb2⟩; replace hx0 := keep_cell hx0 hb2; replace hx1 := keep_cell hx1 hb2; replace hb := Below.next hb hb2; clear hb2; have hs2 : w.heap.size < w2.heap.size := World.block_lt_of_cell? _ _ hx1)
      | (go_at_call 20; refine (HPL.out _ (below_alloc hb _)).mono ?_; rintro e w3 ⟨rfl, hb3⟩; obtain ⟨hy0, hy1, hb23, hsy⟩ := box2 hb3; replace hx0 := keep_cell hx0 hb23; replace hx1 := keep_cell hx1 hb23; replace hb := Below.next hb hb23; clear hb3 hb23 hsy)
      | (go_at_call 21; refine (HCK.out _ hb).mono ?_; rintro e w4 ⟨rfl, hb4⟩; replace hy0 := keep_cell hy0 hb4; replace hy1 := keep_cell hy1 hb4; replace hx0 := keep_cell hx0 hb4; replace hx1 := keep_cell hx1 hb4; replace hb := Below.next hb hb4; clear hb4)
      | (go_at_call 22; refine (none_ref _).mono ?_; rintro e w5 ⟨rfl, hb5⟩; replace hx0 := keep_cell hx0 hb5; replace hx1 := keep_cell hx1 hb5; replace hb := Below.next hb hb5; clear hb5)
      | (go_at_call 24; refine (HUN.out _ hb).mono ?_; rintro e w6 ⟨rfl, hb6⟩; replace hb := Below.next hb hb6; clear hb6)
      | (go_at_call 26; refine (HVO.out _).mono ?_; rintro e w7 ⟨rfl, rfl⟩))
    go_ret
    exact ⟨rfl, hb⟩

set_option maxRecDepth 100000 in
set_option maxHeartbeats 2000000 in
theorem bp_la_2 (v : Value) (bs : List Bool) (u m : Nat) (at' : Int) (w : World) (hr : RowB w v (P.pack bs)) (hn : bs.length ≤ 8388608) (hm : m ≤ 64) (u1 : (u : Int) ≤ 18446744073709551615) (p0 : -9223372036854775808 ≤ at') (p1 : at' ≤ 9223372036854775807) (hlook : (decide (2000 < (bs.length : Int)) = false) ∨ decide (2000 < (bs.length : Int)) = true ∧ decide ((bs.length : Int) ≤ 80000) = false) (hfit : fitsB u m = true) (hm6 : m < 64) (ht2 : (u : Int) / 2 ^ m ≤ 0) (hbig : 80000 < bs.length + m) (hq : 0 ≤ at') (hq2 : (bs.length : Int) - m < at') :
    Calls Try.prog 4 #[.agg #[v, .int .i64 bs.length], .int .u64 u, .int .i64 m, .int .i64 at'] w fun e w' => e = .returned (.bool true) ∧ Below w.heap.size w w' := by
  have hbt : Byt (P.pack bs) := P.pack_byt _ bs
  have hok := P.pack_ok bs
  have hlen : (P.pack bs).length ≤ 140737488351232 := by rw [P.pack_len]; unfold P.bytesN; omega
  have n1 : (bs.length : Int) ≤ 9223372036854775807 := by omega
  have HF : Hid (∀ o : Obj, Calls Try.prog 18 #[.agg #[v, .int .i64 bs.length]] (w.alloc o) fun e w' => e = .returned (.int .i64 0) ∧ Below (w.alloc o).heap.size (w.alloc o) w') := fun o => fault_ok v _ _ _ (hr.below ((Below.refl _ _).alloc (Nat.le_refl _) o) (Nat.le_refl _)) hbt hlen hok
  have HPU : Hid (∀ w' : World, Below w.heap.size w w' → Calls Try.prog 19 #[.agg #[v, .int .i64 bs.length], .int .u64 u, .int .i64 m] w' fun e w2 => e = .returned (.tuple #[noBits, .int .i64 2]) ∧ Below w'.heap.size w' w2) := fun w' hb => push_large v _ _ u m w' (hr.below hb (Nat.le_refl _)) hbt n1 hok (by omega) (by omega) (by omega) u1 hfit (by omega)
  have HPL : Hid (∀ w' : World, Below w.heap.size w w' → Calls Try.prog 20 #[.agg #[v, .int .i64 bs.length], .int .i64 at', .int .i64 m] w' fun e w2 => e = .returned (.tuple #[.int .u64 (0 : Int), .int .i64 3]) ∧ Below w'.heap.size w' w2) := fun w' hb => pull_short v _ _ at' m w' (hr.below hb (Nat.le_refl _)) hbt n1 hok (by omega) (by omega) (by omega) p1 (by omega)
  have HCK : Hid (∀ w' : World, Below w.heap.size w w' → Calls Try.prog 21 #[.agg #[v, .int .i64 bs.length]] w' fun e w2 => e = .returned (.int .i64 0) ∧ Below w'.heap.size w' w2) := fun w' hb => check_ok v _ _ w' (hr.below hb (Nat.le_refl _)) hbt n1 hok
  have t1 : decide ((m : Int) < 64) = true := by simp; omega
  have t2 : decide (0 < (u : Int) / 2 ^ m) = false := by simp; exact ht2
  have t3 : decide (80000 < (bs.length : Int) + (m : Int)) = true := by simp; omega
  have q1 : decide (at' < 0) = false := by simp; omega
  have q2 : decide ((bs.length : Int) - (m : Int) < at') = true := by simp; omega
  rcases hlook with hl1 | ⟨hl1, hl2⟩
  · go_enter Try.func4, Try.ntmps4
    go_wp2_with (first
      | (go_at_call 18; refine (HF.out _).mono ?_; rintro e w1 ⟨rfl, hb1⟩; obtain ⟨hx0, hx1, hb, hsz⟩ := box2 hb1; clear hb1 hsz)
      | (go_at_call 19; refine (HPU.out _ hb).mono ?_; rintro e w2 ⟨rfl, hb2⟩; replace hx0 := keep_cell hx0 hb2; replace hx1 := keep_cell hx1 hb2; replace hb := Below.next hb hb2; clear hb2; have hs2 : w.heap.size < w2.heap.size := World.block_lt_of_cell? _ _ hx1)
      | (go_at_call 20; refine (HPL.out _ (below_alloc hb _)).mono ?_; rintro e w3 ⟨rfl, hb3⟩; obtain ⟨hy0, hy1, hb23, hsy⟩ := box2 hb3; replace hx0 := keep_cell hx0 hb23; replace hx1 := keep_cell hx1 hb23; replace hb := Below.next hb hb23; clear hb3 hb23 hsy)
      | (go_at_call 21; refine (HCK.out _ hb).mono ?_; rintro e w4 ⟨rfl, hb4⟩; replace hy0 := keep_cell hy0 hb4; replace hy1 := keep_cell hy1 hb4; replace hx0 := keep_cell hx0 hb4; replace hx1 := keep_cell hx1 hb4; replace hb := Below.next hb hb4; clear hb4)
      | (go_at_call 22; refine (none_ref _).mono ?_; rintro e w5 ⟨rfl, hb5⟩; replace hx0 := keep_cell hx0 hb5; replace hx1 := keep_cell hx1 hb5; replace hb := Below.next hb hb5; clear hb5)
      | (go_at_call 24; refine (HUN.out _ hb).mono ?_; rintro e w6 ⟨rfl, hb6⟩; replace hb := Below.next hb hb6; clear hb6)
      | (go_at_call 26; refine (HVO.out _).mono ?_; rintro e w7 ⟨rfl, rfl⟩))
    go_ret
    exact ⟨rfl, hb⟩
  · go_enter Try.func4, Try.ntmps4
    go_wp2_with (first
      | (go_at_call 18; refine (HF.out _).mono ?_; rintro e w1 ⟨rfl, hb1⟩; obtain ⟨hx0, hx1, hb, hsz⟩ := box2 hb1; clear hb1 hsz)
      | (go_at_call 19; refine (HPU.out _ hb).mono ?_; rintro e w2 ⟨rfl, hb2⟩; replace hx0 := keep_cell hx0 hb2; replace hx1 := keep_cell hx1 hb2; replace hb := Below.next hb hb2; clear hb2; have hs2 : w.heap.size < w2.heap.size := World.block_lt_of_cell? _ _ hx1)
      | (go_at_call 20; refine (HPL.out _ (below_alloc hb _)).mono ?_; rintro e w3 ⟨rfl, hb3⟩; obtain ⟨hy0, hy1, hb23, hsy⟩ := box2 hb3; replace hx0 := keep_cell hx0 hb23; replace hx1 := keep_cell hx1 hb23; replace hb := Below.next hb hb23; clear hb3 hb23 hsy)
      | (go_at_call 21; refine (HCK.out _ hb).mono ?_; rintro e w4 ⟨rfl, hb4⟩; replace hy0 := keep_cell hy0 hb4; replace hy1 := keep_cell hy1 hb4; replace hx0 := keep_cell hx0 hb4; replace hx1 := keep_cell hx1 hb4; replace hb := Below.next hb hb4; clear hb4)
      | (go_at_call 22; refine (none_ref _).mono ?_; rintro e w5 ⟨rfl, hb5⟩; replace hx0 := keep_cell hx0 hb5; replace hx1 := keep_cell hx1 hb5; replace hb := Below.next hb hb5; clear hb5)
      | (go_at_call 24; refine (HUN.out _ hb).mono ?_; rintro e w6 ⟨rfl, hb6⟩; replace hb := Below.next hb hb6; clear hb6)
      | (go_at_call 26; refine (HVO.out _).mono ?_; rintro e w7 ⟨rfl, rfl⟩))
    go_ret
    exact ⟨rfl, hb⟩

set_option maxRecDepth 100000 in
set_option maxHeartbeats 2000000 in
theorem bp_la_3 (v : Value) (bs : List Bool) (u m : Nat) (at' : Int) (w : World) (hr : RowB w v (P.pack bs)) (hn : bs.length ≤ 8388608) (hm : m ≤ 64) (u1 : (u : Int) ≤ 18446744073709551615) (p0 : -9223372036854775808 ≤ at') (p1 : at' ≤ 9223372036854775807) (hlook : (decide (2000 < (bs.length : Int)) = false) ∨ decide (2000 < (bs.length : Int)) = true ∧ decide ((bs.length : Int) ≤ 80000) = false) (p : Nat) (hfit : fitsB u m = true) (hm6 : m < 64) (ht2 : (u : Int) / 2 ^ m ≤ 0) (hbig : 80000 < bs.length + m) (hq : p + m ≤ bs.length) :
    Calls Try.prog 4 #[.agg #[v, .int .i64 bs.length], .int .u64 u, .int .i64 m, .int .i64 (p : Nat)] w fun e w' => e = .returned (.bool true) ∧ Below w.heap.size w w' := by
  have hbt : Byt (P.pack bs) := P.pack_byt _ bs
  have hok := P.pack_ok bs
  have hlen : (P.pack bs).length ≤ 140737488351232 := by rw [P.pack_len]; unfold P.bytesN; omega
  have n1 : (bs.length : Int) ≤ 9223372036854775807 := by omega
  have HF : Hid (∀ o : Obj, Calls Try.prog 18 #[.agg #[v, .int .i64 bs.length]] (w.alloc o) fun e w' => e = .returned (.int .i64 0) ∧ Below (w.alloc o).heap.size (w.alloc o) w') := fun o => fault_ok v _ _ _ (hr.below ((Below.refl _ _).alloc (Nat.le_refl _) o) (Nat.le_refl _)) hbt hlen hok
  have HPU : Hid (∀ w' : World, Below w.heap.size w w' → Calls Try.prog 19 #[.agg #[v, .int .i64 bs.length], .int .u64 u, .int .i64 m] w' fun e w2 => e = .returned (.tuple #[noBits, .int .i64 2]) ∧ Below w'.heap.size w' w2) := fun w' hb => push_large v _ _ u m w' (hr.below hb (Nat.le_refl _)) hbt n1 hok (by omega) (by omega) (by omega) u1 hfit (by omega)
  have HPL : Hid (∀ w' : World, Below w.heap.size w w' → Calls Try.prog 20 #[.agg #[v, .int .i64 bs.length], .int .i64 p, .int .i64 m] w' fun e w2 => e = .returned (.tuple #[.int .u64 (P.val ((bs.drop p).take m) : Nat), .int .i64 0]) ∧ Below w'.heap.size w' w2) := fun w' hb => pull_ok v bs p m w' (hr.below hb (Nat.le_refl _)) n1 hm hq
  have HCK : Hid (∀ w' : World, Below w.heap.size w w' → Calls Try.prog 21 #[.agg #[v, .int .i64 bs.length]] w' fun e w2 => e = .returned (.int .i64 0) ∧ Below w'.heap.size w' w2) := fun w' hb => check_ok v _ _ w' (hr.below hb (Nat.le_refl _)) hbt n1 hok
  have t1 : decide ((m : Int) < 64) = true := by simp; omega
  have t2 : decide (0 < (u : Int) / 2 ^ m) = false := by simp; exact ht2
  have t3 : decide (80000 < (bs.length : Int) + (m : Int)) = true := by simp; omega
  have q1 : decide ((p : Int) < 0) = false := by simp
  have q2 : decide ((bs.length : Int) - (m : Int) < (p : Int)) = false := by simp; omega
  have HUN : Hid (∀ w' : World, Below w.heap.size w w' → Calls Try.prog 24 #[.agg #[v, .int .i64 bs.length]] w' fun e w2 => e = .returned (.string (P.strB bs)) ∧ Below w'.heap.size w' w2) := fun w' hb => unpacked_any v bs w' (hr.below hb (Nat.le_refl _)) (by omega)
  have HVO : Hid (∀ w' : World, Calls Try.prog 26 #[.string (P.strB ((bs.drop p).take m))] w' fun e w2 => e = .returned (.int .u64 (P.val ((bs.drop p).take m) : Nat)) ∧ w2 = w') := fun w' => valueOf_any _ w' (by simp; omega)
  have hext : (P.strB bs).extract p (p + m) = P.strB ((bs.drop p).take m) := by rw [P.strB_extract]; congr 2; omega
  have hz1 : bs.length ≤ (P.strB bs).size := by rw [P.strB_size]; exact Nat.le_refl _
  have hz2 : (P.strB bs).size ≤ bs.length := by rw [P.strB_size]; exact Nat.le_refl _
  have i1 : (0 : Int) ≤ (p : Int) := by omega
  have i2 : (p : Int) ≤ (p : Int) + (m : Int) := by omega
  have i3 : (p : Int) + (m : Int) ≤ ((P.strB bs).size : Int) := by omega
  generalize P.strB bs = S at *
  generalize P.strB ((bs.drop p).take m) = S8 at *
  generalize P.val ((bs.drop p).take m) = V at *
  rcases hlook with hl1 | ⟨hl1, hl2⟩
  · go_enter Try.func4, Try.ntmps4
    go_wp2_with (first
      | (go_at_call 18; refine (HF.out _).mono ?_; rintro e w1 ⟨rfl, hb1⟩; obtain ⟨hx0, hx1, hb, hsz⟩ := box2 hb1; clear hb1 hsz)
      | (go_at_call 19; refine (HPU.out _ hb).mono ?_; rintro e w2 ⟨rfl, hb2⟩; replace hx0 := keep_cell hx0 hb2; replace hx1 := keep_cell hx1 hb2; replace hb := Below.next hb hb2; clear hb2; have hs2 : w.heap.size < w2.heap.size := World.block_lt_of_cell? _ _ hx1)
      | (go_at_call 20; refine (HPL.out _ (below_alloc hb _)).mono ?_; rintro e w3 ⟨rfl, hb3⟩; obtain ⟨hy0, hy1, hb23, hsy⟩ := box2 hb3; replace hx0 := keep_cell hx0 hb23; replace hx1 := keep_cell hx1 hb23; replace hb := Below.next hb hb23; clear hb3 hb23 hsy)
      | (go_at_call 21; refine (HCK.out _ hb).mono ?_; rintro e w4 ⟨rfl, hb4⟩; replace hy0 := keep_cell hy0 hb4; replace hy1 := keep_cell hy1 hb4; replace hx0 := keep_cell hx0 hb4; replace hx1 := keep_cell hx1 hb4; replace hb := Below.next hb hb4; clear hb4)
      | (go_at_call 22; refine (none_ref _).mono ?_; rintro e w5 ⟨rfl, hb5⟩; replace hx0 := keep_cell hx0 hb5; replace hx1 := keep_cell hx1 hb5; replace hb := Below.next hb hb5; clear hb5)
      | (go_at_call 24; refine (HUN.out _ hb).mono ?_; rintro e w6 ⟨rfl, hb6⟩; replace hb := Below.next hb hb6; clear hb6)
      | (go_at_call 26; refine (HVO.out _).mono ?_; rintro e w7 ⟨rfl, rfl⟩))
    go_ret
    exact ⟨rfl, hb⟩
  · go_enter Try.func4, Try.ntmps4
    go_wp2_with (first
      | (go_at_call 18; refine (HF.out _).mono ?_; rintro e w1 ⟨rfl, hb1⟩; obtain ⟨hx0, hx1, hb, hsz⟩ := box2 hb1; clear hb1 hsz)
      | (go_at_call 19; refine (HPU.out _ hb).mono ?_; rintro e w2 ⟨rfl, hb2⟩; replace hx0 := keep_cell hx0 hb2; replace hx1 := keep_cell hx1 hb2; replace hb := Below.next hb hb2; clear hb2; have hs2 : w.heap.size < w2.heap.size := World.block_lt_of_cell? _ _ hx1)
      | (go_at_call 20; refine (HPL.out _ (below_alloc hb _)).mono ?_; rintro e w3 ⟨rfl, hb3⟩; obtain ⟨hy0, hy1, hb23, hsy⟩ := box2 hb3; replace hx0 := keep_cell hx0 hb23; replace hx1 := keep_cell hx1 hb23; replace hb := Below.next hb hb23; clear hb3 hb23 hsy)
      | (go_at_call 21; refine (HCK.out _ hb).mono ?_; rintro e w4 ⟨rfl, hb4⟩; replace hy0 := keep_cell hy0 hb4; replace hy1 := keep_cell hy1 hb4; replace hx0 := keep_cell hx0 hb4; replace hx1 := keep_cell hx1 hb4; replace hb := Below.next hb hb4; clear hb4)
      | (go_at_call 22; refine (none_ref _).mono ?_; rintro e w5 ⟨rfl, hb5⟩; replace hx0 := keep_cell hx0 hb5; replace hx1 := keep_cell hx1 hb5; replace hb := Below.next hb hb5; clear hb5)
      | (go_at_call 24; refine (HUN.out _ hb).mono ?_; rintro e w6 ⟨rfl, hb6⟩; replace hb := Below.next hb hb6; clear hb6)
      | (go_at_call 26; refine (HVO.out _).mono ?_; rintro e w7 ⟨rfl, rfl⟩))
    go_ret
    exact ⟨rfl, hb⟩

set_option maxRecDepth 100000 in
set_option maxHeartbeats 2000000 in
theorem bp_lb_1 (v : Value) (bs : List Bool) (u m : Nat) (at' : Int) (w : World) (hr : RowB w v (P.pack bs)) (hn : bs.length ≤ 8388608) (hm : m ≤ 64) (u1 : (u : Int) ≤ 18446744073709551615) (p0 : -9223372036854775808 ≤ at') (p1 : at' ≤ 9223372036854775807) (hlook : (decide (2000 < (bs.length : Int)) = false) ∨ decide (2000 < (bs.length : Int)) = true ∧ decide ((bs.length : Int) ≤ 80000) = false) (hfit : fitsB u m = true) (hm6 : 64 ≤ m) (hbig : 80000 < bs.length + m) (hq : at' < 0) :
    Calls Try.prog 4 #[.agg #[v, .int .i64 bs.length], .int .u64 u, .int .i64 m, .int .i64 at'] w fun e w' => e = .returned (.bool true) ∧ Below w.heap.size w w' := by
  have hbt : Byt (P.pack bs) := P.pack_byt _ bs
  have hok := P.pack_ok bs
  have hlen : (P.pack bs).length ≤ 140737488351232 := by rw [P.pack_len]; unfold P.bytesN; omega
  have n1 : (bs.length : Int) ≤ 9223372036854775807 := by omega
  have HF : Hid (∀ o : Obj, Calls Try.prog 18 #[.agg #[v, .int .i64 bs.length]] (w.alloc o) fun e w' => e = .returned (.int .i64 0) ∧ Below (w.alloc o).heap.size (w.alloc o) w') := fun o => fault_ok v _ _ _ (hr.below ((Below.refl _ _).alloc (Nat.le_refl _) o) (Nat.le_refl _)) hbt hlen hok
  have HPU : Hid (∀ w' : World, Below w.heap.size w w' → Calls Try.prog 19 #[.agg #[v, .int .i64 bs.length], .int .u64 u, .int .i64 m] w' fun e w2 => e = .returned (.tuple #[noBits, .int .i64 2]) ∧ Below w'.heap.size w' w2) := fun w' hb => push_large v _ _ u m w' (hr.below hb (Nat.le_refl _)) hbt n1 hok (by omega) (by omega) (by omega) u1 hfit (by omega)
  have HPL : Hid (∀ w' : World, Below w.heap.size w w' → Calls Try.prog 20 #[.agg #[v, .int .i64 bs.length], .int .i64 at', .int .i64 m] w' fun e w2 => e = .returned (.tuple #[.int .u64 (0 : Int), .int .i64 1]) ∧ Below w'.heap.size w' w2) := fun w' hb => pull_arg v _ _ at' m w' (hr.below hb (Nat.le_refl _)) hbt n1 hok (by omega)
  have HCK : Hid (∀ w' : World, Below w.heap.size w w' → Calls Try.prog 21 #[.agg #[v, .int .i64 bs.length]] w' fun e w2 => e = .returned (.int .i64 0) ∧ Below w'.heap.size w' w2) := fun w' hb => check_ok v _ _ w' (hr.below hb (Nat.le_refl _)) hbt n1 hok
  have t1 : decide ((m : Int) < 64) = false := by simp; omega
  have t3 : decide (80000 < (bs.length : Int) + (m : Int)) = true := by simp; omega
  have q1 : decide (at' < 0) = true := by simp; omega
  rcases hlook with hl1 | ⟨hl1, hl2⟩
  · go_enter Try.func4, Try.ntmps4
    go_wp2_with (first
      | (go_at_call 18; refine (HF.out _).mono ?_; rintro e w1 ⟨rfl, hb1⟩; obtain ⟨hx0, hx1, hb, hsz⟩ := box2 hb1; clear hb1 hsz)
      | (go_at_call 19; refine (HPU.out _ hb).mono ?_; rintro e w2 ⟨rfl, hb2⟩; replace hx0 := keep_cell hx0 hb2; replace hx1 := keep_cell hx1 hb2; replace hb := Below.next hb hb2; clear hb2; have hs2 : w.heap.size < w2.heap.size := World.block_lt_of_cell? _ _ hx1)
      | (go_at_call 20; refine (HPL.out _ (below_alloc hb _)).mono ?_; rintro e w3 ⟨rfl, hb3⟩; obtain ⟨hy0, hy1, hb23, hsy⟩ := box2 hb3; replace hx0 := keep_cell hx0 hb23; replace hx1 := keep_cell hx1 hb23; replace hb := Below.next hb hb23; clear hb3 hb23 hsy)
      | (go_at_call 21; refine (HCK.out _ hb).mono ?_; rintro e w4 ⟨rfl, hb4⟩; replace hy0 := keep_cell hy0 hb4; replace hy1 := keep_cell hy1 hb4; replace hx0 := keep_cell hx0 hb4; replace hx1 := keep_cell hx1 hb4; replace hb := Below.next hb hb4; clear hb4)
      | (go_at_call 22; refine (none_ref _).mono ?_; rintro e w5 ⟨rfl, hb5⟩; replace hx0 := keep_cell hx0 hb5; replace hx1 := keep_cell hx1 hb5; replace hb := Below.next hb hb5; clear hb5)
      | (go_at_call 24; refine (HUN.out _ hb).mono ?_; rintro e w6 ⟨rfl, hb6⟩; replace hb := Below.next hb hb6; clear hb6)
      | (go_at_call 26; refine (HVO.out _).mono ?_; rintro e w7 ⟨rfl, rfl⟩))
    go_ret
    exact ⟨rfl, hb⟩
  · go_enter Try.func4, Try.ntmps4
    go_wp2_with (first
      | (go_at_call 18; refine (HF.out _).mono ?_; rintro e w1 ⟨rfl, hb1⟩; obtain ⟨hx0, hx1, hb, hsz⟩ := box2 hb1; clear hb1 hsz)
      | (go_at_call 19; refine (HPU.out _ hb).mono ?_; rintro e w2 ⟨rfl, hb2⟩; replace hx0 := keep_cell hx0 hb2; replace hx1 := keep_cell hx1 hb2; replace hb := Below.next hb hb2; clear hb2; have hs2 : w.heap.size < w2.heap.size := World.block_lt_of_cell? _ _ hx1)
      | (go_at_call 20; refine (HPL.out _ (below_alloc hb _)).mono ?_; rintro e w3 ⟨rfl, hb3⟩; obtain ⟨hy0, hy1, hb23, hsy⟩ := box2 hb3; replace hx0 := keep_cell hx0 hb23; replace hx1 := keep_cell hx1 hb23; replace hb := Below.next hb hb23; clear hb3 hb23 hsy)
      | (go_at_call 21; refine (HCK.out _ hb).mono ?_; rintro e w4 ⟨rfl, hb4⟩; replace hy0 := keep_cell hy0 hb4; replace hy1 := keep_cell hy1 hb4; replace hx0 := keep_cell hx0 hb4; replace hx1 := keep_cell hx1 hb4; replace hb := Below.next hb hb4; clear hb4)
      | (go_at_call 22; refine (none_ref _).mono ?_; rintro e w5 ⟨rfl, hb5⟩; replace hx0 := keep_cell hx0 hb5; replace hx1 := keep_cell hx1 hb5; replace hb := Below.next hb hb5; clear hb5)
      | (go_at_call 24; refine (HUN.out _ hb).mono ?_; rintro e w6 ⟨rfl, hb6⟩; replace hb := Below.next hb hb6; clear hb6)
      | (go_at_call 26; refine (HVO.out _).mono ?_; rintro e w7 ⟨rfl, rfl⟩))
    go_ret
    exact ⟨rfl, hb⟩

set_option maxRecDepth 100000 in
set_option maxHeartbeats 2000000 in
theorem bp_lb_2 (v : Value) (bs : List Bool) (u m : Nat) (at' : Int) (w : World) (hr : RowB w v (P.pack bs)) (hn : bs.length ≤ 8388608) (hm : m ≤ 64) (u1 : (u : Int) ≤ 18446744073709551615) (p0 : -9223372036854775808 ≤ at') (p1 : at' ≤ 9223372036854775807) (hlook : (decide (2000 < (bs.length : Int)) = false) ∨ decide (2000 < (bs.length : Int)) = true ∧ decide ((bs.length : Int) ≤ 80000) = false) (hfit : fitsB u m = true) (hm6 : 64 ≤ m) (hbig : 80000 < bs.length + m) (hq : 0 ≤ at') (hq2 : (bs.length : Int) - m < at') :
    Calls Try.prog 4 #[.agg #[v, .int .i64 bs.length], .int .u64 u, .int .i64 m, .int .i64 at'] w fun e w' => e = .returned (.bool true) ∧ Below w.heap.size w w' := by
  have hbt : Byt (P.pack bs) := P.pack_byt _ bs
  have hok := P.pack_ok bs
  have hlen : (P.pack bs).length ≤ 140737488351232 := by rw [P.pack_len]; unfold P.bytesN; omega
  have n1 : (bs.length : Int) ≤ 9223372036854775807 := by omega
  have HF : Hid (∀ o : Obj, Calls Try.prog 18 #[.agg #[v, .int .i64 bs.length]] (w.alloc o) fun e w' => e = .returned (.int .i64 0) ∧ Below (w.alloc o).heap.size (w.alloc o) w') := fun o => fault_ok v _ _ _ (hr.below ((Below.refl _ _).alloc (Nat.le_refl _) o) (Nat.le_refl _)) hbt hlen hok
  have HPU : Hid (∀ w' : World, Below w.heap.size w w' → Calls Try.prog 19 #[.agg #[v, .int .i64 bs.length], .int .u64 u, .int .i64 m] w' fun e w2 => e = .returned (.tuple #[noBits, .int .i64 2]) ∧ Below w'.heap.size w' w2) := fun w' hb => push_large v _ _ u m w' (hr.below hb (Nat.le_refl _)) hbt n1 hok (by omega) (by omega) (by omega) u1 hfit (by omega)
  have HPL : Hid (∀ w' : World, Below w.heap.size w w' → Calls Try.prog 20 #[.agg #[v, .int .i64 bs.length], .int .i64 at', .int .i64 m] w' fun e w2 => e = .returned (.tuple #[.int .u64 (0 : Int), .int .i64 3]) ∧ Below w'.heap.size w' w2) := fun w' hb => pull_short v _ _ at' m w' (hr.below hb (Nat.le_refl _)) hbt n1 hok (by omega) (by omega) (by omega) p1 (by omega)
  have HCK : Hid (∀ w' : World, Below w.heap.size w w' → Calls Try.prog 21 #[.agg #[v, .int .i64 bs.length]] w' fun e w2 => e = .returned (.int .i64 0) ∧ Below w'.heap.size w' w2) := fun w' hb => check_ok v _ _ w' (hr.below hb (Nat.le_refl _)) hbt n1 hok
  have t1 : decide ((m : Int) < 64) = false := by simp; omega
  have t3 : decide (80000 < (bs.length : Int) + (m : Int)) = true := by simp; omega
  have q1 : decide (at' < 0) = false := by simp; omega
  have q2 : decide ((bs.length : Int) - (m : Int) < at') = true := by simp; omega
  rcases hlook with hl1 | ⟨hl1, hl2⟩
  · go_enter Try.func4, Try.ntmps4
    go_wp2_with (first
      | (go_at_call 18; refine (HF.out _).mono ?_; rintro e w1 ⟨rfl, hb1⟩; obtain ⟨hx0, hx1, hb, hsz⟩ := box2 hb1; clear hb1 hsz)
      | (go_at_call 19; refine (HPU.out _ hb).mono ?_; rintro e w2 ⟨rfl, hb2⟩; replace hx0 := keep_cell hx0 hb2; replace hx1 := keep_cell hx1 hb2; replace hb := Below.next hb hb2; clear hb2; have hs2 : w.heap.size < w2.heap.size := World.block_lt_of_cell? _ _ hx1)
      | (go_at_call 20; refine (HPL.out _ (below_alloc hb _)).mono ?_; rintro e w3 ⟨rfl, hb3⟩; obtain ⟨hy0, hy1, hb23, hsy⟩ := box2 hb3; replace hx0 := keep_cell hx0 hb23; replace hx1 := keep_cell hx1 hb23; replace hb := Below.next hb hb23; clear hb3 hb23 hsy)
      | (go_at_call 21; refine (HCK.out _ hb).mono ?_; rintro e w4 ⟨rfl, hb4⟩; replace hy0 := keep_cell hy0 hb4; replace hy1 := keep_cell hy1 hb4; replace hx0 := keep_cell hx0 hb4; replace hx1 := keep_cell hx1 hb4; replace hb := Below.next hb hb4; clear hb4)
      | (go_at_call 22; refine (none_ref _).mono ?_; rintro e w5 ⟨rfl, hb5⟩; replace hx0 := keep_cell hx0 hb5; replace hx1 := keep_cell hx1 hb5; replace hb := Below.next hb hb5; clear hb5)
      | (go_at_call 24; refine (HUN.out _ hb).mono ?_; rintro e w6 ⟨rfl, hb6⟩; replace hb := Below.next hb hb6; clear hb6)
      | (go_at_call 26; refine (HVO.out _).mono ?_; rintro e w7 ⟨rfl, rfl⟩))
    go_ret
    exact ⟨rfl, hb⟩
  · go_enter Try.func4, Try.ntmps4
    go_wp2_with (first
      | (go_at_call 18; refine (HF.out _).mono ?_; rintro e w1 ⟨rfl, hb1⟩; obtain ⟨hx0, hx1, hb, hsz⟩ := box2 hb1; clear hb1 hsz)
      | (go_at_call 19; refine (HPU.out _ hb).mono ?_; rintro e w2 ⟨rfl, hb2⟩; replace hx0 := keep_cell hx0 hb2; replace hx1 := keep_cell hx1 hb2; replace hb := Below.next hb hb2; clear hb2; have hs2 : w.heap.size < w2.heap.size := World.block_lt_of_cell? _ _ hx1)
      | (go_at_call 20; refine (HPL.out _ (below_alloc hb _)).mono ?_; rintro e w3 ⟨rfl, hb3⟩; obtain ⟨hy0, hy1, hb23, hsy⟩ := box2 hb3; replace hx0 := keep_cell hx0 hb23; replace hx1 := keep_cell hx1 hb23; replace hb := Below.next hb hb23; clear hb3 hb23 hsy)
      | (go_at_call 21; refine (HCK.out _ hb).mono ?_; rintro e w4 ⟨rfl, hb4⟩; replace hy0 := keep_cell hy0 hb4; replace hy1 := keep_cell hy1 hb4; replace hx0 := keep_cell hx0 hb4; replace hx1 := keep_cell hx1 hb4; replace hb := Below.next hb hb4; clear hb4)
      | (go_at_call 22; refine (none_ref _).mono ?_; rintro e w5 ⟨rfl, hb5⟩; replace hx0 := keep_cell hx0 hb5; replace hx1 := keep_cell hx1 hb5; replace hb := Below.next hb hb5; clear hb5)
      | (go_at_call 24; refine (HUN.out _ hb).mono ?_; rintro e w6 ⟨rfl, hb6⟩; replace hb := Below.next hb hb6; clear hb6)
      | (go_at_call 26; refine (HVO.out _).mono ?_; rintro e w7 ⟨rfl, rfl⟩))
    go_ret
    exact ⟨rfl, hb⟩

set_option maxRecDepth 100000 in
set_option maxHeartbeats 2000000 in
theorem bp_lb_3 (v : Value) (bs : List Bool) (u m : Nat) (at' : Int) (w : World) (hr : RowB w v (P.pack bs)) (hn : bs.length ≤ 8388608) (hm : m ≤ 64) (u1 : (u : Int) ≤ 18446744073709551615) (p0 : -9223372036854775808 ≤ at') (p1 : at' ≤ 9223372036854775807) (hlook : (decide (2000 < (bs.length : Int)) = false) ∨ decide (2000 < (bs.length : Int)) = true ∧ decide ((bs.length : Int) ≤ 80000) = false) (p : Nat) (hfit : fitsB u m = true) (hm6 : 64 ≤ m) (hbig : 80000 < bs.length + m) (hq : p + m ≤ bs.length) :
    Calls Try.prog 4 #[.agg #[v, .int .i64 bs.length], .int .u64 u, .int .i64 m, .int .i64 (p : Nat)] w fun e w' => e = .returned (.bool true) ∧ Below w.heap.size w w' := by
  have hbt : Byt (P.pack bs) := P.pack_byt _ bs
  have hok := P.pack_ok bs
  have hlen : (P.pack bs).length ≤ 140737488351232 := by rw [P.pack_len]; unfold P.bytesN; omega
  have n1 : (bs.length : Int) ≤ 9223372036854775807 := by omega
  have HF : Hid (∀ o : Obj, Calls Try.prog 18 #[.agg #[v, .int .i64 bs.length]] (w.alloc o) fun e w' => e = .returned (.int .i64 0) ∧ Below (w.alloc o).heap.size (w.alloc o) w') := fun o => fault_ok v _ _ _ (hr.below ((Below.refl _ _).alloc (Nat.le_refl _) o) (Nat.le_refl _)) hbt hlen hok
  have HPU : Hid (∀ w' : World, Below w.heap.size w w' → Calls Try.prog 19 #[.agg #[v, .int .i64 bs.length], .int .u64 u, .int .i64 m] w' fun e w2 => e = .returned (.tuple #[noBits, .int .i64 2]) ∧ Below w'.heap.size w' w2) := fun w' hb => push_large v _ _ u m w' (hr.below hb (Nat.le_refl _)) hbt n1 hok (by omega) (by omega) (by omega) u1 hfit (by omega)
  have HPL : Hid (∀ w' : World, Below w.heap.size w w' → Calls Try.prog 20 #[.agg #[v, .int .i64 bs.length], .int .i64 p, .int .i64 m] w' fun e w2 => e = .returned (.tuple #[.int .u64 (P.val ((bs.drop p).take m) : Nat), .int .i64 0]) ∧ Below w'.heap.size w' w2) := fun w' hb => pull_ok v bs p m w' (hr.below hb (Nat.le_refl _)) n1 hm hq
  have HCK : Hid (∀ w' : World, Below w.heap.size w w' → Calls Try.prog 21 #[.agg #[v, .int .i64 bs.length]] w' fun e w2 => e = .returned (.int .i64 0) ∧ Below w'.heap.size w' w2) := fun w' hb => check_ok v _ _ w' (hr.below hb (Nat.le_refl _)) hbt n1 hok
  have t1 : decide ((m : Int) < 64) = false := by simp; omega
  have t3 : decide (80000 < (bs.length : Int) + (m : Int)) = true := by simp; omega
  have q1 : decide ((p : Int) < 0) = false := by simp
  have q2 : decide ((bs.length : Int) - (m : Int) < (p : Int)) = false := by simp; omega
  have HUN : Hid (∀ w' : World, Below w.heap.size w w' → Calls Try.prog 24 #[.agg #[v, .int .i64 bs.length]] w' fun e w2 => e = .returned (.string (P.strB bs)) ∧ Below w'.heap.size w' w2) := fun w' hb => unpacked_any v bs w' (hr.below hb (Nat.le_refl _)) (by omega)
  have HVO : Hid (∀ w' : World, Calls Try.prog 26 #[.string (P.strB ((bs.drop p).take m))] w' fun e w2 => e = .returned (.int .u64 (P.val ((bs.drop p).take m) : Nat)) ∧ w2 = w') := fun w' => valueOf_any _ w' (by simp; omega)
  have hext : (P.strB bs).extract p (p + m) = P.strB ((bs.drop p).take m) := by rw [P.strB_extract]; congr 2; omega
  have hz1 : bs.length ≤ (P.strB bs).size := by rw [P.strB_size]; exact Nat.le_refl _
  have hz2 : (P.strB bs).size ≤ bs.length := by rw [P.strB_size]; exact Nat.le_refl _
  have i1 : (0 : Int) ≤ (p : Int) := by omega
  have i2 : (p : Int) ≤ (p : Int) + (m : Int) := by omega
  have i3 : (p : Int) + (m : Int) ≤ ((P.strB bs).size : Int) := by omega
  generalize P.strB bs = S at *
  generalize P.strB ((bs.drop p).take m) = S8 at *
  generalize P.val ((bs.drop p).take m) = V at *
  rcases hlook with hl1 | ⟨hl1, hl2⟩
  · go_enter Try.func4, Try.ntmps4
    go_wp2_with (first
      | (go_at_call 18; refine (HF.out _).mono ?_; rintro e w1 ⟨rfl, hb1⟩; obtain ⟨hx0, hx1, hb, hsz⟩ := box2 hb1; clear hb1 hsz)
      | (go_at_call 19; refine (HPU.out _ hb).mono ?_; rintro e w2 ⟨rfl, hb2⟩; replace hx0 := keep_cell hx0 hb2; replace hx1 := keep_cell hx1 hb2; replace hb := Below.next hb hb2; clear hb2; have hs2 : w.heap.size < w2.heap.size := World.block_lt_of_cell? _ _ hx1)
      | (go_at_call 20; refine (HPL.out _ (below_alloc hb _)).mono ?_; rintro e w3 ⟨rfl, hb3⟩; obtain ⟨hy0, hy1, hb23, hsy⟩ := box2 hb3; replace hx0 := keep_cell hx0 hb23; replace hx1 := keep_cell hx1 hb23; replace hb := Below.next hb hb23; clear hb3 hb23 hsy)
      | (go_at_call 21; refine (HCK.out _ hb).mono ?_; rintro e w4 ⟨rfl, hb4⟩; replace hy0 := keep_cell hy0 hb4; replace hy1 := keep_cell hy1 hb4; replace hx0 := keep_cell hx0 hb4; replace hx1 := keep_cell hx1 hb4; replace hb := Below.next hb hb4; clear hb4)
      | (go_at_call 22; refine (none_ref _).mono ?_; rintro e w5 ⟨rfl, hb5⟩; replace hx0 := keep_cell hx0 hb5; replace hx1 := keep_cell hx1 hb5; replace hb := Below.next hb hb5; clear hb5)
      | (go_at_call 24; refine (HUN.out _ hb).mono ?_; rintro e w6 ⟨rfl, hb6⟩; replace hb := Below.next hb hb6; clear hb6)
      | (go_at_call 26; refine (HVO.out _).mono ?_; rintro e w7 ⟨rfl, rfl⟩))
    go_ret
    exact ⟨rfl, hb⟩
  · go_enter Try.func4, Try.ntmps4
    go_wp2_with (first
      | (go_at_call 18; refine (HF.out _).mono ?_; rintro e w1 ⟨rfl, hb1⟩; obtain ⟨hx0, hx1, hb, hsz⟩ := box2 hb1; clear hb1 hsz)
      | (go_at_call 19; refine (HPU.out _ hb).mono ?_; rintro e w2 ⟨rfl, hb2⟩; replace hx0 := keep_cell hx0 hb2; replace hx1 := keep_cell hx1 hb2; replace hb := Below.next hb hb2; clear hb2; have hs2 : w.heap.size < w2.heap.size := World.block_lt_of_cell? _ _ hx1)
      | (go_at_call 20; refine (HPL.out _ (below_alloc hb _)).mono ?_; rintro e w3 ⟨rfl, hb3⟩; obtain ⟨hy0, hy1, hb23, hsy⟩ := box2 hb3; replace hx0 := keep_cell hx0 hb23; replace hx1 := keep_cell hx1 hb23; replace hb := Below.next hb hb23; clear hb3 hb23 hsy)
      | (go_at_call 21; refine (HCK.out _ hb).mono ?_; rintro e w4 ⟨rfl, hb4⟩; replace hy0 := keep_cell hy0 hb4; replace hy1 := keep_cell hy1 hb4; replace hx0 := keep_cell hx0 hb4; replace hx1 := keep_cell hx1 hb4; replace hb := Below.next hb hb4; clear hb4)
      | (go_at_call 22; refine (none_ref _).mono ?_; rintro e w5 ⟨rfl, hb5⟩; replace hx0 := keep_cell hx0 hb5; replace hx1 := keep_cell hx1 hb5; replace hb := Below.next hb hb5; clear hb5)
      | (go_at_call 24; refine (HUN.out _ hb).mono ?_; rintro e w6 ⟨rfl, hb6⟩; replace hb := Below.next hb hb6; clear hb6)
      | (go_at_call 26; refine (HVO.out _).mono ?_; rintro e w7 ⟨rfl, rfl⟩))
    go_ret
    exact ⟨rfl, hb⟩

end Go.Proofs.Ytimenpceegcboaa
