/- What the document's own Signs, ValueOf, Unpacked, SameBits and BitsFault answer. -/
import Derived.Test.YteohlkpejdjenaaDoorCheck
import Derived.Test.YteohlkpejdjenaaDoorEq
import Derived.Test.YteohlkpejdjenaaDoorStrP
import Derived.Lib.JoinLaws
namespace Go.Proofs.YteohlkpejdjenaaDoor
open Go.RowKit
set_option linter.unusedVariables false

theorem enc_bit (b : Bool) : Utf8.encode (48 + (b.toNat : Int)) = P.strB [b] := by cases b <;> rfl
theorem bit_rune (u : Nat) : (48 + (u : Int) % 2) = 48 + (((decide (u % 2 = 1)).toNat : Nat) : Int) := by
  rcases Nat.mod_two_eq_zero_or_one u with h | h
  · simp [h]; omega
  · simp [h]; omega

set_option maxHeartbeats 1000000 in
theorem signs_any (u m : Nat) (w : World) (h1 : m ≤ 64) (u1 : (u : Int) ≤ 18446744073709551615) :
    Calls Tryd.prog 28 #[.int .u64 u, .int .i64 m] w fun e w' => e = .returned (.string (P.strB (P.ofVal u m))) ∧ w' = w := by
  go_enter Tryd.func28, Tryd.ntmps28
  go_wp2
  go_loop [0, 5, 7] (fun x s i => ∃ j : Nat, j ≤ m ∧ i = .int .i64 j ∧ x = .int .u64 (u / 2 ^ j : Nat) ∧ s = .string (P.strB (P.ofVal u j))) (fun _ _ i => m - (intOf i).toNat)
  case atStart => exact ⟨0, by omega, rfl, by simp, rfl⟩
  case round =>
    obtain ⟨j, hj, rfl, rfl, rfl⟩ := hrel
    by_cases hlt : j < m
    · have hle : u / 2 ^ j ≤ u := Nat.div_le_self _ _
      have HN : Hid (u / 2 ^ (j + 1) = u / 2 ^ j / 2) := by show _ = _; rw [Nat.pow_succ, Nat.div_div_eq_div_mul]
      have HC := hide (P.ofVal_cons u j)
      generalize u / 2 ^ j = q at hle HN HC
      have hq1 : (q : Int) ≤ 18446744073709551615 := by omega
      clear hle
      have he : Utf8.encode (48 + (q : Int) % 2) = P.strB [decide (q % 2 = 1)] := by rw [bit_rune, enc_bit]
      have hs1 : (P.strB [decide (q % 2 = 1)]).size ≤ 1 := by rw [P.strB_size]; simp
      have hs2 : (P.strB (P.ofVal u j)).size ≤ 64 := by rw [P.strB_size, P.ofVal_len]; omega
      go_wp2
      go_round
      case rel => exact ⟨j + 1, by omega, by go_num, by rw [HN.out]; simp, by rw [HC.out, P.strB_app]; rfl⟩
      case measure => simp [intOf]; omega
    · obtain rfl : j = m := by omega
      have hd : decide ((j : Int) < (j : Int)) = false := by simp
      go_wp2
      go_ret
      exact ⟨rfl, rfl⟩
set_option maxHeartbeats 1000000 in
theorem valueOf_any (bs : List Bool) (w : World) (h1 : bs.length ≤ 64) :
    Calls Tryd.prog 27 #[.string (P.strB bs)] w fun e w' => e = .returned (.int .u64 (P.val bs : Nat)) ∧ w' = w := by
  have hsz := P.strB_size bs
  have hsz1 := Nat.le_of_eq hsz
  have hsz2 := Nat.le_of_eq hsz.symm
  have hat := P.strB_at bs
  have HA := hide hat
  generalize P.strB bs = s at *
  clear hsz hat
  go_enter Tryd.func27, Tryd.ntmps27
  go_wp2
  go_loop [3, 7] (fun x i => ∃ j : Nat, j ≤ bs.length ∧ i = .int .i64 j ∧ x = .int .u64 (P.val (bs.take j) : Nat)) (fun _ i => bs.length - (intOf i).toNat)
  case atStart => exact ⟨0, by omega, rfl, by simp [P.val]⟩
  case round =>
    obtain ⟨j, hj, rfl, rfl⟩ := hrel
    by_cases hlt : j < bs.length
    · have hv := P.val_take bs 0 j (by omega)
      have hV := P.val_take_lt bs 0 j
      rw [List.drop_zero] at hv hV
      rw [Nat.zero_add] at hv
      have hV2 : P.val (bs.take j) < 9223372036854775808 := Nat.lt_of_lt_of_le hV (by
        have : (2 : Nat) ^ j ≤ 2 ^ 63 := Nat.pow_le_pow_right (by decide) (by omega)
        exact this)
      have HV := hide hv
      have hbl := P.bit_le bs j
      generalize P.val (bs.take j) = V at hV2 HV
      have hjs : j < s.size := by omega
      clear hv hV
      go_wp2
      all_goals
        have hb := HA.out j hjs
        have hbl2 := P.bit_le bs j
        go_round
        case rel =>
          refine ⟨j + 1, by omega, by go_num, ?_⟩
          rw [HV.out]
          first
            | (have h49 : ((s[j].toNat : Int) == 49) = true := by assumption
               rw [beq_iff_eq] at h49
               congr 1; omega)
            | (have h49 : ((s[j].toNat : Int) == 49) = false := by assumption
               rw [beq_eq_false_iff_ne] at h49
               congr 1; omega)
        case measure => simp [intOf]; omega
    · obtain rfl : j = bs.length := by omega
      have hd : decide ((bs.length : Int) < (s.size : Int)) = false := by simp; omega
      go_wp2
      go_ret
      exact ⟨ret_int rfl, rfl⟩

/-- R.SameBits, where all is as it is. -/
theorem refSame_no (v1 v2 : Value) (l m : List Int) (n k : Int) (w : World) (h1 : RowB w v1 l) (h2 : RowB w v2 m) (h : n ≠ k ∨ l.length ≠ m.length) :
    Calls Tryd.prog 10 #[.agg #[v1, .int .i64 n], .agg #[v2, .int .i64 k]] w fun e w' => e = .returned (.bool false) ∧ Below w.heap.size w w' := by
  obtain ⟨a1, c1, rfl, _, _⟩ := h1
  obtain ⟨a2, c2, rfl, _, _⟩ := h2
  have hb : ∀ o1 o2 : Obj, Below w.heap.size w ((w.alloc o1).alloc o2) := fun o1 o2 => ((Below.refl _ _).alloc (Nat.le_refl _) _).alloc (by simp) _
  by_cases hn : n = k
  · have hl : ((l.length : Int) != (m.length : Int)) = true := by rw [bne_iff_ne]; omega
    have hq : (n != k) = false := by simp [hn]
    go_enter Tryd.func10, Tryd.ntmps10
    go_wp2
    go_ret
    exact ⟨rfl, hb _ _⟩
  · have hq : (n != k) = true := by simp [hn]
    go_enter Tryd.func10, Tryd.ntmps10
    go_wp2
    go_ret
    exact ⟨rfl, hb _ _⟩
theorem getD_ext {l m : List Int} (h : l.length = m.length) (h2 : ∀ i, i < l.length → l.getD i 0 = m.getD i 0) : l = m := by
  apply List.ext_getElem h
  intro i a b
  have := h2 i a
  simpa [List.getD_eq_getElem?_getD, List.getElem?_eq_getElem a, List.getElem?_eq_getElem b] using this
set_option maxHeartbeats 1000000 in
theorem refSame_len (v1 v2 : Value) (l m : List Int) (n : Int) (w : World) (h1 : RowB w v1 l) (h2 : RowB w v2 m) (h : l.length = m.length) :
    Calls Tryd.prog 10 #[.agg #[v1, .int .i64 n], .agg #[v2, .int .i64 n]] w fun e w' => e = .returned (.bool (sameL l m)) ∧ Below w.heap.size w w' := by
  obtain ⟨a1, c1, rfl, ⟨hlc1, hm1, _⟩, hcase1⟩ := h1
  obtain ⟨a2, c2, rfl, ⟨hlc2, hm2, _⟩, hcase2⟩ := h2
  unfold maxLen at hm1 hm2
  have hb : ∀ o1 o2 : Obj, Below w.heap.size w ((w.alloc o1).alloc o2) := fun o1 o2 => ((Below.refl _ _).alloc (Nat.le_refl _) _).alloc (by simp) _
  have hl : ((l.length : Int) != (m.length : Int)) = false := by simp [h]
  have HL := hide h
  rw [← h] at hl hlc2 hcase2 ⊢
  clear h
  generalize hW : (w.alloc (.cells #[.slice a1 l.length c1, .int .i64 n] 25)).alloc (.cells #[.slice a2 l.length c2, .int .i64 n] 25) = W
  have b0 : W.cell? ⟨w.heap.size, 0, none⟩ = some (.slice a1 l.length c1) := by rw [← hW]; simp
  have b1 : W.cell? ⟨w.heap.size + 1, 0, none⟩ = some (.slice a2 l.length c2) := by rw [← hW]; simp
  have hbW : Below w.heap.size w W := by rw [← hW]; exact hb _ _
  have HW := hide hW
  clear hb hW
  go_enter Tryd.func10, Tryd.ntmps10
  go_wp2
  rw [HW.out]
  go_loopw [23] (fun i wr => ∃ (k : Nat), k ≤ l.length ∧ i = .int .i64 k ∧ (∀ j, j < k → l.getD j 0 = m.getD j 0) ∧ ∃ q, wr = W.drewN q) (fun i _ => l.length - (intOf i).toNat)
  case atStart => exact ⟨0, by omega, rfl, fun j hj => by omega, 0, rfl⟩
  case round =>
    obtain ⟨k, hk, rfl, heq, q, rfl⟩ := hrel
    have HE := hide heq
    clear heq
    by_cases hlt : k < l.length
    · rcases hcase1 with h | ⟨p1, o1, rfl, hbs1, hcell1⟩
      · rw [h] at hlt; simp at hlt
      rcases hcase2 with h | ⟨p2, o2, rfl, hbs2, hcell2⟩
      · have h3 := HL.out
        rw [h, List.length_nil] at h3
        omega
      have g1 := (hbW.cell (p := ⟨p1, o1 + k, none⟩) hbs1).trans (hcell1 k hlt)
      have g2 := (hbW.cell (p := ⟨p2, o2 + k, none⟩) hbs2).trans (hcell2 k hlt)
      have j0 : (0 : Int) ≤ (k : Int) := by omega
      have j1 : (k : Int) < (l.length : Int) := by omega
      generalize hx : l.getD k 0 = x at g1
      generalize hy : m.getD k 0 = y at g2
      have HX := hide hx
      have HY := hide hy
      clear hx hy hcell1 hcell2
      by_cases hxy : x = y
      · have hne : (x != y) = false := by simp [hxy]
        go_wp2
        go_quiet (fail)
        go_wp2
        go_roundw
        case rel =>
          refine ⟨k + 1, by omega, by go_num, fun j hj => ?_, q + nq, rfl⟩
          rcases Nat.lt_or_ge j k with h | h
          · exact HE.out j h
          · obtain rfl : j = k := by omega
            rw [HX.out, HY.out, hxy]
        case measure => simp [intOf]; omega
      · have hne : (x != y) = true := by simp [hxy]
        have hs : Hid (sameL l m = false) := by
          show _ = _
          unfold sameL
          rw [decide_eq_false_iff_not]
          intro h
          apply hxy
          rw [← HX.out, ← HY.out, h]
        go_wp2
        go_quiet (fail)
        go_wp2
        go_ret
        rw [hs.out]
        exact ⟨rfl, Below.drewN (Below.drewN hbW _) _⟩
    · have hs : Hid (sameL l m = true) := by
        show _ = _
        unfold sameL
        rw [decide_eq_true_eq]
        exact getD_ext HL.out fun i hi => HE.out i (by omega)
      have hd : decide ((k : Int) < (l.length : Int)) = false := by simp; omega
      go_wp2
      go_ret
      rw [hs.out]
      exact ⟨rfl, Below.drewN hbW _⟩
theorem refSame_any (v1 v2 : Value) (l m : List Int) (n k : Int) (w : World) (h1 : RowB w v1 l) (h2 : RowB w v2 m) :
    Calls Tryd.prog 10 #[.agg #[v1, .int .i64 n], .agg #[v2, .int .i64 k]] w fun e w' => e = .returned (.bool (decide (n = k) && sameL l m)) ∧ Below w.heap.size w w' := by
  by_cases h : n ≠ k ∨ l.length ≠ m.length
  · have e : (decide (n = k) && sameL l m) = false := by
      rcases h with h | h
      · simp [h]
      · have : sameL l m = false := by unfold sameL; rw [decide_eq_false_iff_not]; intro h'; exact h (by rw [h'])
        simp [this]
    rw [e]
    exact refSame_no v1 v2 l m n k w h1 h2 h
  · obtain ⟨rfl, hl⟩ : n = k ∧ l.length = m.length := by omega
    have e : (decide (n = n) && sameL l m) = sameL l m := by simp
    rw [e]
    exact refSame_len v1 v2 l m n w h1 h2 hl

theorem fault_shape (v : Value) (l : List Int) (n : Int) (w : World) (hr : RowB w v l) (hlen : l.length ≤ 140737488351232) (n0 : -9223372036854775808 ≤ n) (n1 : n ≤ 9223372036854775807) (h : n < 0 ∨ 8 * (l.length : Int) < n ∨ 7 < 8 * (l.length : Int) - n) :
    Calls Tryd.prog 14 #[.agg #[v, .int .i64 n]] w fun e w' => e = .returned (.int .i64 4) ∧ Below w.heap.size w w' := by
  obtain ⟨a, cap, rfl, ⟨hlc, hmax, _⟩, hcase⟩ := hr
  clear hcase
  by_cases h1 : n < 0
  · go_enter Tryd.func14, Tryd.ntmps14
    go_wp2
    go_ret
    exact ⟨rfl, (Below.refl _ _).alloc (Nat.le_refl _) _⟩
  have d1 : decide (n < 0) = false := by simp; omega
  by_cases h2 : 8 * (l.length : Int) < n
  · go_enter Tryd.func14, Tryd.ntmps14
    go_wp2
    go_ret
    exact ⟨rfl, (Below.refl _ _).alloc (Nat.le_refl _) _⟩
  have d2 : decide (8 * (l.length : Int) < n) = false := by simp; omega
  have h3 : 7 < 8 * (l.length : Int) - n := by omega
  go_enter Tryd.func14, Tryd.ntmps14
  go_wp2
  go_ret
  exact ⟨rfl, (Below.refl _ _).alloc (Nat.le_refl _) _⟩
set_option maxHeartbeats 1000000 in
theorem fault_walk (v : Value) (l : List Int) (n : Nat) (w : World) (hr : RowB w v l) (hbt : Byt l) (hlen : l.length ≤ 140737488351232) (h1 : n ≤ 8 * l.length) (h2 : 8 * l.length ≤ n + 7) (r : Int)
    (hr0 : (∀ i, n ≤ i → i < 8 * l.length → P.bitZ l i = 0) → r = 0) (hr4 : ∀ i, n ≤ i → i < 8 * l.length → P.bitZ l i ≠ 0 → r = 4) :
    Calls Tryd.prog 14 #[.agg #[v, .int .i64 n]] w fun e w' => e = .returned (.int .i64 r) ∧ Below w.heap.size w w' := by
  obtain ⟨a, cap, rfl, ⟨hlc, hmax, _⟩, hcase⟩ := hr
  have H0 := hide hr0
  have H4 := hide hr4
  clear hr0 hr4
  have d1 : decide ((n : Int) < 0) = false := by simp
  have d2 : decide (8 * (l.length : Int) < (n : Int)) = false := by simp; omega
  have d3 : decide (7 < 8 * (l.length : Int) - (n : Int)) = false := by simp; omega
  go_enter Tryd.func14, Tryd.ntmps14
  go_wp2
  go_loop [3] (fun i => ∃ k : Nat, n ≤ k ∧ k ≤ 8 * l.length ∧ i = .int .i64 k ∧ (∀ j, n ≤ j → j < k → P.bitZ l j = 0)) (fun i => 8 * l.length - (intOf i).toNat)
  case atStart => exact ⟨n, by omega, by omega, rfl, fun j hj hk => by omega⟩
  case round =>
    obtain ⟨k, hnk, hk, rfl, hz⟩ := hrel
    have HZ := hide hz
    clear hz
    by_cases hlt : k < 8 * l.length
    · rcases hcase with h | ⟨b, off, rfl, hbs, hcell⟩
      · rw [h] at hlt; simp at hlt
      have hc := hcell (k / 8) (by omega)
      have hb := hbt.at (k / 8)
      have HB : Hid (P.bitZ l k = l.getD (k / 8) 0 / 2 ^ (7 - k % 8) % 2) := rfl
      generalize l.getD (k / 8) 0 = c at hc hb HB
      obtain ⟨hb0, hb1⟩ := hb
      have j0 : (0 : Int) ≤ (k : Int) / 8 := by omega
      have j1 : (k : Int) / 8 < (l.length : Int) := by omega
      have j2 : (k : Int) < 8 * (l.length : Int) := by omega
      have hq0 : 0 ≤ c / 2 ^ (7 - k % 8) := Int.ediv_nonneg hb0 (Int.le_of_lt (Int.pow_pos (by decide)))
      clear hcell
      by_cases hbit : c / 2 ^ (7 - k % 8) % 2 = 1
      · have hbb : (c / 2 ^ (7 - k % 8) % 2 == 1) = true := by simp [hbit]
        have h4 : r = 4 := H4.out k hnk hlt (by rw [HB.out]; omega)
        subst h4
        clear hbit
        go_wp2
        go_ret
        exact ⟨rfl, (Below.refl _ _).alloc (Nat.le_refl _) _⟩
      · have hbb : (c / 2 ^ (7 - k % 8) % 2 == 1) = false := by simp [hbit]
        have HN := hide hbit
        clear hbit
        go_wp2
        go_round
        case rel =>
          refine ⟨k + 1, by omega, by omega, by go_num, fun j hj hjk => ?_⟩
          rcases Nat.lt_or_ge j k with h | h
          · exact HZ.out j hj h
          · obtain rfl : j = k := by omega
            have := HN.out
            rw [HB.out]; omega
        case measure => simp [intOf]; omega
    · have h0 : r = 0 := H0.out fun i h1 h2 => HZ.out i h1 (by omega)
      subst h0
      have hd : decide ((k : Int) < 8 * (l.length : Int)) = false := by simp; omega
      go_wp2
      go_ret
      exact ⟨rfl, (Below.refl _ _).alloc (Nat.le_refl _) _⟩
theorem fault_ok (v : Value) (l : List Int) (n : Int) (w : World) (hr : RowB w v l) (hbt : Byt l) (hlen : l.length ≤ 140737488351232) (h : P.OkB l n) :
    Calls Tryd.prog 14 #[.agg #[v, .int .i64 n]] w fun e w' => e = .returned (.int .i64 0) ∧ Below w.heap.size w w' := by
  have h0 := h.1
  have h1 := h.2.1
  obtain ⟨m, rfl⟩ := Int.eq_ofNat_of_zero_le h0
  refine fault_walk v l m w hr hbt hlen (by omega) (by omega) 0 (fun _ => rfl) fun i a b c => ?_
  exact absurd ((P.okB_iff l m hbt (by omega) (by omega)).1 h i a b) c
theorem fault_bad (v : Value) (l : List Int) (n : Int) (w : World) (hr : RowB w v l) (hbt : Byt l) (hlen : l.length ≤ 140737488351232) (n0 : -9223372036854775808 ≤ n) (n1 : n ≤ 9223372036854775807) (h : ¬ P.OkB l n) :
    Calls Tryd.prog 14 #[.agg #[v, .int .i64 n]] w fun e w' => e = .returned (.int .i64 4) ∧ Below w.heap.size w w' := by
  by_cases hs : n < 0 ∨ 8 * (l.length : Int) < n ∨ 7 < 8 * (l.length : Int) - n
  · exact fault_shape v l n w hr hlen n0 n1 hs
  · obtain ⟨m, rfl⟩ := Int.eq_ofNat_of_zero_le (show 0 ≤ n by omega)
    refine fault_walk v l m w hr hbt hlen (by omega) (by omega) 4 (fun hz => ?_) fun i a b c => rfl
    exact absurd ((P.okB_iff l m hbt (by omega) (by omega)).2 hz) h

set_option maxHeartbeats 1000000 in
theorem unpacked_any (v : Value) (bs : List Bool) (w : World) (hr : RowB w v (P.pack bs)) (hn : bs.length ≤ 140737488355328) :
    Calls Tryd.prog 16 #[.agg #[v, .int .i64 bs.length]] w fun e w' => e = .returned (.string (P.strB bs)) ∧ Below w.heap.size w w' := by
  obtain ⟨a, cap, rfl, ⟨hlc, hmax, _⟩, hcase⟩ := hr
  have hlen := P.pack_len bs
  unfold P.bytesN at hlen
  generalize hL : (P.pack bs).length = L at hlen hlc hcase ⊢
  have hl1 := Nat.le_of_eq hlen
  have hl2 := Nat.le_of_eq hlen.symm
  have HL := hide hL
  clear hL hlen
  have hmk := fun w => run_make_room (P := Tryd.prog) 23 5 (.int .u8 0) 1 Tryd.underlying23 Tryd.info5 rfl .i64 .i64 bs.length (by omega) (by omega) w
  go_enter Tryd.func16, Tryd.ntmps16
  go_wp2
  clear hmk
  have hb1 : Below w.heap.size w (w.alloc (.cells #[.slice a L cap, .int .i64 bs.length] 25)) := (Below.refl _ _).alloc (Nat.le_refl _) _
  have hx0 : (w.alloc (.cells #[.slice a L cap, .int .i64 bs.length] 25)).cell? ⟨w.heap.size, 0, none⟩ = some (.slice a L cap) := by simp
  have hz : (w.alloc (.cells #[.slice a L cap, .int .i64 bs.length] 25)).heap.size = w.heap.size + 1 := by simp
  have hst := World.ownsRow_made (base := w.heap.size + 1) (e := 5) (size := 1) (w.alloc (.cells #[.slice a L cap, .int .i64 bs.length] 25)) (madeCells #[.int .u8 0] bs.length) bs.length (by simp) (by unfold maxLen; omega) (by rw [size_madeCells]; omega)
  rw [hz] at hst
  generalize hW : w.alloc (.cells #[.slice a L cap, .int .i64 bs.length] 25) = W at *
  have HW := hide hW
  clear hW
  have hz1 := Nat.le_of_eq hz
  have hz2 := Nat.le_of_eq hz.symm
  clear hz
  go_loopw [3, 10] (fun v i wr => ∃ k : Nat, k ≤ bs.length ∧ i = .int .i64 k ∧ OwnB wr (w.heap.size + 1) v (P.sgn (bs.take k)) ∧ Below (w.heap.size + 1) W wr) (fun _ i _ => bs.length - (intOf i).toNat)
  case atStart => exact ⟨0, by omega, rfl, hst, (Below.refl _ _).alloc hz2 _⟩
  case round =>
    obtain ⟨k, hk, rfl, hown, hbr⟩ := hrel
    have hx1 := (hbr.cell (p := ⟨w.heap.size, 0, none⟩) (by simp)).trans hx0
    have hsr := hbr.size
    by_cases hlt : k < bs.length
    · rcases hcase with h | ⟨b, off, rfl, hbs, hcell⟩
      · have hL := HL.out
        rw [h, List.length_nil] at hL; omega
      have hc := (hbr.cell (p := ⟨b, off + k / 8, none⟩) (by simp; omega)).trans ((hb1.cell (p := ⟨b, off + k / 8, none⟩) hbs).trans (hcell (k / 8) (by omega)))
      rw [P.pack, P.packTo_at _ _ _ (by unfold P.bytesN; omega)] at hc
      have HB := hide (P.bit_int bs k)
      have hbl := P.bit_le bs k
      have hby := P.byteAt_lt bs (k / 8)
      have HS := hide (P.sgn_take bs k hlt)
      have hsl : (P.sgn (bs.take k)).length = k := by rw [P.sgn_len, List.length_take]; omega
      have hsl1 := Nat.le_of_eq hsl
      generalize hcc : (P.byteAt bs (k / 8) : Int) = c at hc HB
      have hc0 : 0 ≤ c := by omega
      have hc1 : c ≤ 255 := by omega
      have hq0 : 0 ≤ c / 2 ^ (7 - k % 8) := Int.ediv_nonneg hc0 (Int.le_of_lt (Int.pow_pos (by decide)))
      have j0 : (0 : Int) ≤ (k : Int) / 8 := by omega
      have j1 : (k : Int) / 8 < (L : Int) := by omega
      clear hcell hcc hsl
      go_wp2_with (at_builtin; go_must (refine wp_app1 rfl _ _ rfl (w.heap.size + 1) (w.heap.size + 1) W _ _ (P.sgn (bs.take k)) (48 + c / 2 ^ (7 - k % 8) % 2) hown hbr (Nat.le_refl _) rfl rfl (by omega) (by omega) ?_); intro v' w1 hown' hb' hsz _)
      go_roundw
      case rel => exact ⟨k + 1, by omega, by go_num, by rw [HS.out, ← HB.out]; exact hown', hb'⟩
      case measure => simp [intOf]; omega
    · obtain rfl : k = bs.length := by omega
      rw [List.take_length] at hown
      have hcv := conv_row hown.row
      have hd : decide ((bs.length : Int) < (bs.length : Int)) = false := by simp
      go_wp2
      go_ret
      exact ⟨rfl, hb1.trans (hbr.mono (by omega))⟩
end Go.Proofs.YteohlkpejdjenaaDoor
