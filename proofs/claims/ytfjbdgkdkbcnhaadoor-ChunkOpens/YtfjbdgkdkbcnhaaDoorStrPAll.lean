/- Several texts in one. -/
import Derived.Test.YtfjbdgkdkbcnhaaDoorPlainAll
import Derived.Laws.BytesArg
import Derived.Lib.Strings
import Derived.WideShapes
import Derived.Test.YtfjbdgkdkbcnhaaDoorEqAll
import Derived.Lib.JoinLaws
import Derived.Deep.RegionLaw
import Derived.Test.YtfjbdgkdkbcnhaaDoorTakePAll
/- Plain: noughts and ones as texts. -/
namespace Go.Proofs.YtfjbdgkdkbcnhaaDoor
namespace P
/-- The signs of bits, as the numbers of their bytes. -/
def sgn (bs : List Bool) : List Int := bs.map fun b => 48 + (b.toNat : Int)
def strB (bs : List Bool) : ByteArray := strOfNums (sgn bs)
theorem sgn_len (bs : List Bool) : (sgn bs).length = bs.length := by simp [sgn]
theorem sgn_byt (bs : List Bool) : ∀ x ∈ sgn bs, 0 ≤ x ∧ x ≤ 255 := by
  intro x hx
  simp [sgn] at hx
  rcases hx with ⟨_, h⟩ | ⟨_, h⟩ <;> omega
theorem strB_size (bs : List Bool) : (strB bs).size = bs.length := by unfold strB; rw [strOfNums_size, sgn_len]
theorem strB_data (bs : List Bool) : (strB bs).data.toList = bs.map fun b => UInt8.ofNat (48 + b.toNat) := by
  unfold strB; rw [strOfNums_data]
  simp only [sgn, List.map_map]
  apply List.map_congr_left
  intro b _
  cases b <;> rfl
theorem strB_app (a b : List Bool) : strB a ++ strB b = strB (a ++ b) := by
  apply WideShapes.bytes_inj
  rw [strB_data, List.map_append]
  have h : (strB a ++ strB b).data.toList = (strB a).data.toList ++ (strB b).data.toList := by simp
  rw [h, strB_data, strB_data]
theorem strB_extract (bs : List Bool) (a b : Nat) : (strB bs).extract a b = strB ((bs.drop a).take (b - a)) := by
  apply WideShapes.bytes_inj
  rw [Lib.extract_data, strB_data, strB_data, List.map_take, List.map_drop]
theorem strB_at (bs : List Bool) (k : Nat) (h : k < (strB bs).size) : ((strB bs)[k].toNat : Int) = 48 + bit bs k := by
  have hk : k < bs.length := by rw [strB_size] at h; exact h
  have e : (strB bs)[k] = (strB bs).data.toList[k]'(by simpa using h) := rfl
  have e2 : (strB bs).data.toList[k]? = (bs.map fun b => UInt8.ofNat (48 + b.toNat))[k]? := by rw [strB_data]
  rw [List.getElem?_eq_getElem (by simpa using h), List.getElem?_map, List.getElem?_eq_getElem hk] at e2
  simp only [Option.map_some, Option.some.injEq] at e2
  rw [e, e2]
  unfold bit
  rw [List.getD_eq_getElem?_getD, List.getElem?_eq_getElem hk, Option.getD_some]
  cases bs[k] <;> rfl
theorem sgn_take (bs : List Bool) (k : Nat) (h : k < bs.length) : sgn (bs.take (k + 1)) = sgn (bs.take k) ++ [48 + (bit bs k : Int)] := by
  rw [List.take_succ_eq_append_getElem h]
  unfold sgn bit
  rw [List.map_append, List.getD_eq_getElem?_getD, List.getElem?_eq_getElem h]
  rfl
theorem bit_int (bs : List Bool) (k : Nat) : ((byteAt bs (k / 8) : Int) / 2 ^ (7 - k % 8) % 2) = (bit bs k : Int) := by
  rw [← byteAt_bit bs k]; simp
theorem strB_nil : strB [] = ByteArray.empty := rfl
theorem ofVal_cons (u j : Nat) : ofVal u (j + 1) = decide (u / 2 ^ j % 2 = 1) :: ofVal u j := by
  apply List.ext_getElem?
  intro i
  cases i with
  | zero =>
    rw [ofVal_at _ _ _ (by omega)]; simp
  | succ i =>
    rw [List.getElem?_cons_succ]
    by_cases h : i < j
    · rw [ofVal_at _ _ _ (by omega), ofVal_at _ _ _ h]
      have e : j + 1 - 1 - (i + 1) = j - 1 - i := by omega
      rw [e]
    · rw [List.getElem?_eq_none (by rw [ofVal_len]; omega), List.getElem?_eq_none (by rw [ofVal_len]; omega)]
end P
end Go.Proofs.YtfjbdgkdkbcnhaaDoor
/- What the document's own Signs, ValueOf, Unpacked, SameBits and BitsFault answer. -/
namespace Go.Proofs.YtfjbdgkdkbcnhaaDoor
open Go.RowKit
set_option linter.unusedVariables false

theorem enc_bit (b : Bool) : Utf8.encode (48 + (b.toNat : Int)) = P.strB [b] := by cases b <;> rfl
theorem bit_rune (u : Nat) : (48 + (u : Int) % 2) = 48 + (((decide (u % 2 = 1)).toNat : Nat) : Int) := by
  rcases Nat.mod_two_eq_zero_or_one u with h | h
  · simp [h]; omega
  · simp [h]; omega

set_option maxHeartbeats 1000000 in
theorem signs_any (u m : Nat) (w : World) (h1 : m ≤ 64) (u1 : (u : Int) ≤ 18446744073709551615) :
    Calls Tryd.prog 44 #[.int .u64 u, .int .i64 m] w fun e w' => e = .returned (.string (P.strB (P.ofVal u m))) ∧ w' = w := by
  go_enter Tryd.func44, Tryd.ntmps44
  go_wp2
  go_loop [0, 5, 7] (fun x s i => ∃ j : Nat, j ≤ m ∧ i = .int .i64 j ∧ x = .int .u64 (u / 2 ^ j : Nat) ∧ s = .string (P.strB (P.ofVal u j))) (fun _ _ i => m - (intOf i).toNat)
  case atStart => exact ⟨0, by omega, rfl, by simp, rfl⟩
  case round =>
    obtain ⟨j, hj, rfl, rfl, rfl⟩ := hrel
    by_cases hlt : j < m
    · have hle : u / 2 ^ j ≤ u := Nat.div_le_self _ _
      have HN : Hid (u / 2 ^ (j + 1) = u / 2 ^ j / 2) := by show _ = _; rw [Nat.pow_succ, Nat.div_div_eq_div_mul]
      have HC := hide (P.ofVal_cons u j)
      generalize u / 2 ^ j = q at hle HN HC
      have hq1 : (q : Int) ≤ 18446744073709551615 := by omega
      clear hle
      have he : Utf8.encode (48 + (q : Int) % 2) = P.strB [decide (q % 2 = 1)] := by rw [bit_rune, enc_bit]
      have hs1 : (P.strB [decide (q % 2 = 1)]).size ≤ 1 := by rw [P.strB_size]; simp
      have hs2 : (P.strB (P.ofVal u j)).size ≤ 64 := by rw [P.strB_size, P.ofVal_len]; omega
      go_wp2
      go_round
      case rel => exact ⟨j + 1, by omega, by go_num, by rw [HN.out]; simp, by rw [HC.out, P.strB_app]; rfl⟩
      case measure => simp [intOf]; omega
    · obtain rfl : j = m := by omega
      have hd : decide ((j : Int) < (j : Int)) = false := by simp
      go_wp2
      go_ret
      exact ⟨rfl, rfl⟩
set_option maxHeartbeats 1000000 in
theorem valueOf_any (bs : List Bool) (w : World) (h1 : bs.length ≤ 64) :
    Calls Tryd.prog 43 #[.string (P.strB bs)] w fun e w' => e = .returned (.int .u64 (P.val bs : Nat)) ∧ w' = w := by
  have hsz := P.strB_size bs
  have hsz1 := Nat.le_of_eq hsz
  have hsz2 := Nat.le_of_eq hsz.symm
  have hat := P.strB_at bs
  have HA := hide hat
  generalize P.strB bs = s at *
  clear hsz hat
  go_enter Tryd.func43, Tryd.ntmps43
  go_wp2
  go_loop [3, 7] (fun x i => ∃ j : Nat, j ≤ bs.length ∧ i = .int .i64 j ∧ x = .int .u64 (P.val (bs.take j) : Nat)) (fun _ i => bs.length - (intOf i).toNat)
  case atStart => exact ⟨0, by omega, rfl, by simp [P.val]⟩
  case round =>
    obtain ⟨j, hj, rfl, rfl⟩ := hrel
    by_cases hlt : j < bs.length
    · have hv := P.val_take bs 0 j (by omega)
      have hV := P.val_take_lt bs 0 j
      rw [List.drop_zero] at hv hV
      rw [Nat.zero_add] at hv
      have hV2 : P.val (bs.take j) < 9223372036854775808 := Nat.lt_of_lt_of_le hV (by
        have : (2 : Nat) ^ j ≤ 2 ^ 63 := Nat.pow_le_pow_right (by decide) (by omega)
        exact this)
      have HV := hide hv
      have hbl := P.bit_le bs j
      generalize P.val (bs.take j) = V at hV2 HV
      have hjs : j < s.size := by omega
      clear hv hV
      go_wp2
      all_goals
        have hb := HA.out j hjs
        have hbl2 := P.bit_le bs j
        go_round
        case rel =>
          refine ⟨j + 1, by omega, by go_num, ?_⟩
          rw [HV.out]
          first
            | (have h49 : ((s[j].toNat : Int) == 49) = true := by assumption
               rw [beq_iff_eq] at h49
               congr 1; omega)
            | (have h49 : ((s[j].toNat : Int) == 49) = false := by assumption
               rw [beq_eq_false_iff_ne] at h49
               congr 1; omega)
        case measure => simp [intOf]; omega
    · obtain rfl : j = bs.length := by omega
      have hd : decide ((bs.length : Int) < (s.size : Int)) = false := by simp; omega
      go_wp2
      go_ret
      exact ⟨ret_int rfl, rfl⟩

theorem getD_ext {l m : List Int} (h : l.length = m.length) (h2 : ∀ i, i < l.length → l.getD i 0 = m.getD i 0) : l = m := by
  apply List.ext_getElem h
  intro i a b
  have := h2 i a
  simpa [List.getD_eq_getElem?_getD, List.getElem?_eq_getElem a, List.getElem?_eq_getElem b] using this
theorem fault_shape (v : Value) (l : List Int) (n : Int) (w : World) (hr : RowB w v l) (hlen : l.length ≤ 140737488351232) (n0 : -9223372036854775808 ≤ n) (n1 : n ≤ 9223372036854775807) (h : n < 0 ∨ 8 * (l.length : Int) < n ∨ 7 < 8 * (l.length : Int) - n) :
    Calls Tryd.prog 30 #[.agg #[v, .int .i64 n]] w fun e w' => e = .returned (.int .i64 4) ∧ Below w.heap.size w w' := by
  obtain ⟨a, cap, rfl, ⟨hlc, hmax, _⟩, hcase⟩ := hr
  clear hcase
  by_cases h1 : n < 0
  · go_enter Tryd.func30, Tryd.ntmps30
    go_wp2
    go_ret
    exact ⟨rfl, (Below.refl _ _).alloc (Nat.le_refl _) _⟩
  have d1 : decide (n < 0) = false := by simp; omega
  by_cases h2 : 8 * (l.length : Int) < n
  · go_enter Tryd.func30, Tryd.ntmps30
    go_wp2
    go_ret
    exact ⟨rfl, (Below.refl _ _).alloc (Nat.le_refl _) _⟩
  have d2 : decide (8 * (l.length : Int) < n) = false := by simp; omega
  have h3 : 7 < 8 * (l.length : Int) - n := by omega
  go_enter Tryd.func30, Tryd.ntmps30
  go_wp2
  go_ret
  exact ⟨rfl, (Below.refl _ _).alloc (Nat.le_refl _) _⟩
set_option maxHeartbeats 1000000 in
theorem fault_walk (v : Value) (l : List Int) (n : Nat) (w : World) (hr : RowB w v l) (hbt : Byt l) (hlen : l.length ≤ 140737488351232) (h1 : n ≤ 8 * l.length) (h2 : 8 * l.length ≤ n + 7) (r : Int)
    (hr0 : (∀ i, n ≤ i → i < 8 * l.length → P.bitZ l i = 0) → r = 0) (hr4 : ∀ i, n ≤ i → i < 8 * l.length → P.bitZ l i ≠ 0 → r = 4) :
    Calls Tryd.prog 30 #[.agg #[v, .int .i64 n]] w fun e w' => e = .returned (.int .i64 r) ∧ Below w.heap.size w w' := by
  obtain ⟨a, cap, rfl, ⟨hlc, hmax, _⟩, hcase⟩ := hr
  have H0 := hide hr0
  have H4 := hide hr4
  clear hr0 hr4
  have d1 : decide ((n : Int) < 0) = false := by simp
  have d2 : decide (8 * (l.length : Int) < (n : Int)) = false := by simp; omega
  have d3 : decide (7 < 8 * (l.length : Int) - (n : Int)) = false := by simp; omega
  go_enter Tryd.func30, Tryd.ntmps30
  go_wp2
  go_loop [3] (fun i => ∃ k : Nat, n ≤ k ∧ k ≤ 8 * l.length ∧ i = .int .i64 k ∧ (∀ j, n ≤ j → j < k → P.bitZ l j = 0)) (fun i => 8 * l.length - (intOf i).toNat)
  case atStart => exact ⟨n, by omega, by omega, rfl, fun j hj hk => by omega⟩
  case round =>
    obtain ⟨k, hnk, hk, rfl, hz⟩ := hrel
    have HZ := hide hz
    clear hz
    by_cases hlt : k < 8 * l.length
    · rcases hcase with h | ⟨b, off, rfl, hbs, hcell⟩
      · rw [h] at hlt; simp at hlt
      have hc := hcell (k / 8) (by omega)
      have hb := hbt.at (k / 8)
      have HB : Hid (P.bitZ l k = l.getD (k / 8) 0 / 2 ^ (7 - k % 8) % 2) := rfl
      generalize l.getD (k / 8) 0 = c at hc hb HB
      obtain ⟨hb0, hb1⟩ := hb
      have j0 : (0 : Int) ≤ (k : Int) / 8 := by omega
      have j1 : (k : Int) / 8 < (l.length : Int) := by omega
      have j2 : (k : Int) < 8 * (l.length : Int) := by omega
      have hq0 : 0 ≤ c / 2 ^ (7 - k % 8) := Int.ediv_nonneg hb0 (Int.le_of_lt (Int.pow_pos (by decide)))
      clear hcell
      by_cases hbit : c / 2 ^ (7 - k % 8) % 2 = 1
      · have hbb : (c / 2 ^ (7 - k % 8) % 2 == 1) = true := by simp [hbit]
        have h4 : r = 4 := H4.out k hnk hlt (by rw [HB.out]; omega)
        subst h4
        clear hbit
        go_wp2
        go_ret
        exact ⟨rfl, (Below.refl _ _).alloc (Nat.le_refl _) _⟩
      · have hbb : (c / 2 ^ (7 - k % 8) % 2 == 1) = false := by simp [hbit]
        have HN := hide hbit
        clear hbit
        go_wp2
        go_round
        case rel =>
          refine ⟨k + 1, by omega, by omega, by go_num, fun j hj hjk => ?_⟩
          rcases Nat.lt_or_ge j k with h | h
          · exact HZ.out j hj h
          · obtain rfl : j = k := by omega
            have := HN.out
            rw [HB.out]; omega
        case measure => simp [intOf]; omega
    · have h0 : r = 0 := H0.out fun i h1 h2 => HZ.out i h1 (by omega)
      subst h0
      have hd : decide ((k : Int) < 8 * (l.length : Int)) = false := by simp; omega
      go_wp2
      go_ret
      exact ⟨rfl, (Below.refl _ _).alloc (Nat.le_refl _) _⟩
theorem fault_ok (v : Value) (l : List Int) (n : Int) (w : World) (hr : RowB w v l) (hbt : Byt l) (hlen : l.length ≤ 140737488351232) (h : P.OkB l n) :
    Calls Tryd.prog 30 #[.agg #[v, .int .i64 n]] w fun e w' => e = .returned (.int .i64 0) ∧ Below w.heap.size w w' := by
  have h0 := h.1
  have h1 := h.2.1
  obtain ⟨m, rfl⟩ := Int.eq_ofNat_of_zero_le h0
  refine fault_walk v l m w hr hbt hlen (by omega) (by omega) 0 (fun _ => rfl) fun i a b c => ?_
  exact absurd ((P.okB_iff l m hbt (by omega) (by omega)).1 h i a b) c
theorem fault_bad (v : Value) (l : List Int) (n : Int) (w : World) (hr : RowB w v l) (hbt : Byt l) (hlen : l.length ≤ 140737488351232) (n0 : -9223372036854775808 ≤ n) (n1 : n ≤ 9223372036854775807) (h : ¬ P.OkB l n) :
    Calls Tryd.prog 30 #[.agg #[v, .int .i64 n]] w fun e w' => e = .returned (.int .i64 4) ∧ Below w.heap.size w w' := by
  by_cases hs : n < 0 ∨ 8 * (l.length : Int) < n ∨ 7 < 8 * (l.length : Int) - n
  · exact fault_shape v l n w hr hlen n0 n1 hs
  · obtain ⟨m, rfl⟩ := Int.eq_ofNat_of_zero_le (show 0 ≤ n by omega)
    refine fault_walk v l m w hr hbt hlen (by omega) (by omega) 4 (fun hz => ?_) fun i a b c => rfl
    exact absurd ((P.okB_iff l m hbt (by omega) (by omega)).2 hz) h

set_option maxHeartbeats 1000000 in
theorem unpacked_any (v : Value) (bs : List Bool) (w : World) (hr : RowB w v (P.pack bs)) (hn : bs.length ≤ 140737488355328) :
    Calls Tryd.prog 31 #[.agg #[v, .int .i64 bs.length]] w fun e w' => e = .returned (.string (P.strB bs)) ∧ Below w.heap.size w w' := by
  obtain ⟨a, cap, rfl, ⟨hlc, hmax, _⟩, hcase⟩ := hr
  have hlen := P.pack_len bs
  unfold P.bytesN at hlen
  generalize hL : (P.pack bs).length = L at hlen hlc hcase ⊢
  have hl1 := Nat.le_of_eq hlen
  have hl2 := Nat.le_of_eq hlen.symm
  have HL := hide hL
  clear hL hlen
  have hmk := fun w => run_make_room (P := Tryd.prog) 23 5 (.int .u8 0) 1 Tryd.underlying23 Tryd.info5 rfl .i64 .i64 bs.length (by omega) (by omega) w
  go_enter Tryd.func31, Tryd.ntmps31
  go_wp2
  clear hmk
  have hb1 : Below w.heap.size w (w.alloc (.cells #[.slice a L cap, .int .i64 bs.length] 43)) := (Below.refl _ _).alloc (Nat.le_refl _) _
  have hx0 : (w.alloc (.cells #[.slice a L cap, .int .i64 bs.length] 43)).cell? ⟨w.heap.size, 0, none⟩ = some (.slice a L cap) := by simp
  have hz : (w.alloc (.cells #[.slice a L cap, .int .i64 bs.length] 43)).heap.size = w.heap.size + 1 := by simp
  have hst := World.ownsRow_made (base := w.heap.size + 1) (e := 5) (size := 1) (w.alloc (.cells #[.slice a L cap, .int .i64 bs.length] 43)) (madeCells #[.int .u8 0] bs.length) bs.length (by simp) (by unfold maxLen; omega) (by rw [size_madeCells]; omega)
  rw [hz] at hst
  generalize hW : w.alloc (.cells #[.slice a L cap, .int .i64 bs.length] 43) = W at *
  have HW := hide hW
  clear hW
  have hz1 := Nat.le_of_eq hz
  have hz2 := Nat.le_of_eq hz.symm
  clear hz
  go_loopw [3, 10] (fun v i wr => ∃ k : Nat, k ≤ bs.length ∧ i = .int .i64 k ∧ OwnB wr (w.heap.size + 1) v (P.sgn (bs.take k)) ∧ Below (w.heap.size + 1) W wr) (fun _ i _ => bs.length - (intOf i).toNat)
  case atStart => exact ⟨0, by omega, rfl, hst, (Below.refl _ _).alloc hz2 _⟩
  case round =>
    obtain ⟨k, hk, rfl, hown, hbr⟩ := hrel
    have hx1 := (hbr.cell (p := ⟨w.heap.size, 0, none⟩) (by simp)).trans hx0
    have hsr := hbr.size
    by_cases hlt : k < bs.length
    · rcases hcase with h | ⟨b, off, rfl, hbs, hcell⟩
      · have hL := HL.out
        rw [h, List.length_nil] at hL; omega
      have hc := (hbr.cell (p := ⟨b, off + k / 8, none⟩) (by simp; omega)).trans ((hb1.cell (p := ⟨b, off + k / 8, none⟩) hbs).trans (hcell (k / 8) (by omega)))
      rw [P.pack, P.packTo_at _ _ _ (by unfold P.bytesN; omega)] at hc
      have HB := hide (P.bit_int bs k)
      have hbl := P.bit_le bs k
      have hby := P.byteAt_lt bs (k / 8)
      have HS := hide (P.sgn_take bs k hlt)
      have hsl : (P.sgn (bs.take k)).length = k := by rw [P.sgn_len, List.length_take]; omega
      have hsl1 := Nat.le_of_eq hsl
      generalize hcc : (P.byteAt bs (k / 8) : Int) = c at hc HB
      have hc0 : 0 ≤ c := by omega
      have hc1 : c ≤ 255 := by omega
      have hq0 : 0 ≤ c / 2 ^ (7 - k % 8) := Int.ediv_nonneg hc0 (Int.le_of_lt (Int.pow_pos (by decide)))
      have j0 : (0 : Int) ≤ (k : Int) / 8 := by omega
      have j1 : (k : Int) / 8 < (L : Int) := by omega
      clear hcell hcc hsl
      go_wp2_with (at_builtin; go_must (refine wp_app1 rfl _ _ rfl (w.heap.size + 1) (w.heap.size + 1) W _ _ (P.sgn (bs.take k)) (48 + c / 2 ^ (7 - k % 8) % 2) hown hbr (Nat.le_refl _) rfl rfl (by omega) (by omega) ?_); intro v' w1 hown' hb' hsz _)
      go_roundw
      case rel => exact ⟨k + 1, by omega, by go_num, by rw [HS.out, ← HB.out]; exact hown', hb'⟩
      case measure => simp [intOf]; omega
    · obtain rfl : k = bs.length := by omega
      rw [List.take_length] at hown
      have hcv := conv_row hown.row
      have hd : decide ((bs.length : Int) < (bs.length : Int)) = false := by simp
      go_wp2
      go_ret
      exact ⟨rfl, hb1.trans (hbr.mono (by omega))⟩
end Go.Proofs.YtfjbdgkdkbcnhaaDoor
/- What the document's own Packed answers. -/
namespace Go.Proofs.YtfjbdgkdkbcnhaaDoor
open Go.RowKit
set_option linter.unusedVariables false

/-- 'append(b, x)' of one byte to a row of the call's own, as one step of a region that draws. -/
theorem step_app1 {ops : Array Oper} {o : Oper} {a : Act} {K : Act → World → Prop} {Q : Exit → Act → World → Prop} {E : Prop} (hgd : o.guard = none) (s x : Operand)
    (ho : o.op = .call { callee := .builtin .append, args := #[s, x], argTypes := #[23, 23] })
    (B base : Nat) (w0 w : World) (v : Value) (acc : List Int) (y : Int) (hown : OwnB w base v acc) (hb : Below B w0 w) (hB : B ≤ base) (hs : a.eval s = v)
    (hx : a.eval x = .slice (some ⟨w.heap.size, 0, none⟩) 1 1) (hlen : acc.length + 1 ≤ 140737488355328) (hbase : base ≤ w.heap.size)
    (h : ∀ v' w', OwnB w' base v' (acc ++ [y]) → Below B w0 w' → w.heap.size < w'.heap.size → w.grownBy w' v.ownBlock → K (a.put o.dst v') w') :
    if Region.wanted o (yielded ops a.tmps) = true then Oper.wp Tryd.prog o a (w.alloc (.cells #[.int .u8 y] 5)) K Q else E := by
  have hw : Region.wanted o (yielded ops a.tmps) = true := by simp [Region.wanted, hgd]
  rw [if_pos hw]
  obtain ⟨i0, hi, hz0, hz1, hz2⟩ := info_parts Tryd.info5
  refine wp_append_own _ s x 23 ho base 5 i0 (.int .u8 0) 1 1 Tryd.underlying23 hi hz0 hz1 hz2 rfl (by decide) v _ _ hs (hown.alloc _) ⟨w.heap.size, 0, none⟩ 1 1 [.int .u8 y] hx rfl ?_ ?_ ?_ ?_ ?_ ?_
  · intro j u hj
    match j, hj with
    | 0, hj => simp at hj; subst hj; simp [Addr.add]
  · intro u hu; simp at hu; subst hu; rfl
  · unfold maxLen; omega
  · omega
  · simp; omega
  · intro v' w' ho' hg _
    refine h v' w' ?_ ((hb.alloc (by omega) _).grown hg (by simp; omega) ?_) ?_ ((World.grownBy_alloc w _ _).trans hg)
    · have e1 : (acc ++ [y]).length = acc.length + 1 := by simp
      have e2 : (acc ++ [y]).map (Value.int .u8) = acc.map (Value.int .u8) ++ [.int .u8 y] := by simp
      show w'.ownsRow base 5 1 v' (acc ++ [y]).length ((acc ++ [y]).map (Value.int .u8))
      rw [e1, e2]; exact ho'
    · intro k hk; have := (hown.lt k hk).1; omega
    · have := hg.size; simp at this; omega

theorem step_app1d {ops : Array Oper} {o : Oper} {a : Act} {K : Act → World → Prop} {Q : Exit → Act → World → Prop} {E : Prop} (hgd : o.guard = none) (s x : Operand)
    (ho : o.op = .call { callee := .builtin .append, args := #[s, x], argTypes := #[23, 23] })
    (B base : Nat) (w0 w : World) (v : Value) (acc : List Int) (y : Int) (hown : OwnB w base v acc) (hb : Below B w0 w) (hB : B ≤ base) (hs : a.eval s = v)
    (hx : a.eval x = .slice (some ⟨w.heap.size, 0, none⟩) 1 1) (hlen : acc.length + 1 ≤ 140737488355328) (hbase : base ≤ w.heap.size)
    (h : ∀ v' w', OwnB w' base v' (acc ++ [y]) → Below B w0 w' → w.heap.size < w'.heap.size → w.grownBy w' v.ownBlock → K (a.put o.dst v') w') :
    if Region.wanted o (yielded ops a.tmps) = true then Oper.wp Tryd.prog o a (w.alloc (.cells #[.int .u8 y] 5)).drew K Q else E :=
  step_app1 (ops := ops) hgd s x ho B base w0 w.drew v acc y hown hb.drew hB hs hx hlen hbase fun v' w' a1 a2 a3 a4 => h v' w' a1 a2 a3 ⟨a4.os, a4.tape, a4.output, a4.size, a4.block⟩

theorem own_keep {w w1 : World} {base : Nat} {v : Value} {l : List Int} (hown : OwnB w base v l) (hgr : w.grownBy w1 v.ownBlock) {a : Addr} {x : Value} (h : w.cell? a = some x) (ha : a.block < base) : w1.cell? a = some x ∧ w1.frozen? a = w.frozen? a := by
  have hlt := World.block_lt_of_cell? w a h
  have hne : some a.block ≠ v.ownBlock := by
    intro e
    have := (hown.lt a.block e.symm).1
    omega
  exact ⟨hgr.cell h hne, World.frozen?_of_block (hgr.block a.block hlt hne)⟩
theorem own_shape1 {w : World} {base : Nat} {v : Value} {l : List Int} {y : Int} (h : OwnB w base v (l ++ [y])) (k : Nat) (hk : l.length = k) : ∃ a cap, v = .slice a (k + 1) cap := by
  obtain ⟨a, cap, hv, _⟩ := h.row
  exact ⟨a, cap, by rw [hv, List.length_append, hk]; rfl⟩

def szOf : Value → Nat | .string s => s.size | _ => 0
set_option maxHeartbeats 2000000 in
theorem packed_any (bs : List Bool) (w : World) (hn : bs.length ≤ 1000000000) :
    Calls Tryd.prog 21 #[.string (P.strB bs)] w fun e w' => ∃ vy, e = .returned (.agg #[vy, .int .i64 bs.length]) ∧ OwnB w' w.heap.size vy (P.pack bs) ∧ Below w.heap.size w w' := by
  have hsz := P.strB_size bs
  go_enter Tryd.func21, Tryd.ntmps21
  go_wp2
  clear hsz
  go_loop [0] (fun s => ∃ j : Nat, s = .string (P.strB (bs ++ List.replicate j false)) ∧ bs.length + j ≤ 8 * ((bs.length + 7) / 8)) (fun s => 8 * ((bs.length + 7) / 8) - szOf s)
  case atStart => exact ⟨0, by simp, by omega⟩
  case round =>
    obtain ⟨j, rfl, hj⟩ := hrel
    have hsz : (P.strB (bs ++ List.replicate j false)).size = bs.length + j := by rw [P.strB_size]; simp
    by_cases hlt : 0 < (bs.length + j) % 8
    · have hlt' : (0 : Int) < ((bs.length : Int) + (j : Int)) % 8 := by omega
      have HA : Hid (P.strB (bs ++ List.replicate j false) ++ ⟨#[48]⟩ = P.strB (bs ++ List.replicate (j + 1) false)) := by
        show _ = _
        have : (⟨#[48]⟩ : ByteArray) = P.strB [false] := rfl
        rw [this, P.strB_app, List.append_assoc, ← List.replicate_succ']
      have hs1 : (P.strB (bs ++ List.replicate j false)).size + 1 ≤ 9223372036854775807 := by omega
      go_wp2
      go_round
      case rel => exact ⟨j + 1, by rw [HA.out], by omega⟩
      case measure =>
        have e : (P.strB (bs ++ List.replicate j false) ++ (⟨#[48]⟩ : ByteArray)).size = bs.length + j + 1 := by rw [HA.out, P.strB_size]; simp; omega
        simp only [szOf, e, hsz]
        omega
    · have hT : bs.length + j = 8 * ((bs.length + 7) / 8) := by omega
      obtain ⟨T, hTT⟩ : ∃ T, T = (bs.length + 7) / 8 := ⟨_, rfl⟩
      rw [← hTT] at hT hj
      have HTT := hide hTT
      have hlt' : decide ((0 : Int) < ((bs.length : Int) + (j : Int)) % 8) = false := by simp; omega
      have hext : ∀ k, (P.strB (bs ++ List.replicate j false)).extract (8 * k) (8 * k + 8) = P.strB (((bs ++ List.replicate j false).drop (8 * k)).take 8) := by
        intro k; rw [P.strB_extract]; congr 2; omega
      have hval : ∀ k, k < T → P.val (((bs ++ List.replicate j false).drop (8 * k)).take 8) = P.byteAt bs k := by
        intro k hk; rw [P.val8 _ k (by simp; omega), P.byteAt_pad]
      have hl8 : ∀ k, (((bs ++ List.replicate j false).drop (8 * k)).take 8).length ≤ 64 := by intro k; simp; omega
      have HE := hide hext
      have HV := hide hval
      have H8 := hide hl8
      clear hext hval hl8 hTT
      generalize P.strB (bs ++ List.replicate j false) = S at *
      have hS : S.size = 8 * T := by omega
      have hTn : 8 * T ≤ bs.length + 7 := by have := HTT.out; omega
      go_wp2
      generalize hW : (w.alloc (.cells #[.slice none 0 0, .int .i64 0] 43)).alloc (.cells #[.slice none 0 0, .int .i64 bs.length] 43) = W
      have c0 : W.cell? ⟨w.heap.size + 1, 0, none⟩ = some (.slice none 0 0) := by rw [← hW]; simp
      have c1 : W.cell? ⟨w.heap.size + 1, 1, none⟩ = some (.int .i64 bs.length) := by rw [← hW]; simp
      have f0 : W.frozen? ⟨w.heap.size + 1, 0, none⟩ = false := by rw [← hW]; simp
      have d0 : W.cell? ⟨w.heap.size, 0, none⟩ = some (.slice none 0 0) := by rw [← hW]; simp
      have d1 : W.cell? ⟨w.heap.size, 1, none⟩ = some (.int .i64 0) := by rw [← hW]; simp
      have g0 : W.frozen? ⟨w.heap.size, 0, none⟩ = false := by rw [← hW]; simp
      have g1 : W.frozen? ⟨w.heap.size, 1, none⟩ = false := by rw [← hW]; simp
      have hbW : Below w.heap.size w W := by rw [← hW]; exact ((Below.refl _ _).alloc (Nat.le_refl _) _).alloc (by simp) _
      have hWs : W.heap.size = w.heap.size + 2 := by rw [← hW]; simp
      have hz1 := Nat.le_of_eq hWs
      have hz2 := Nat.le_of_eq hWs.symm
      clear hWs hW hlt hlt' hT hj hsz
      go_loopw [4] (fun i wr => ∃ (k : Nat) (ao : Option Addr) (cap : Nat), k ≤ T ∧ i = .int .i64 ((8 * k : Nat) : Int) ∧ wr.cell? ⟨w.heap.size + 1, 0, none⟩ = some (.slice ao k cap) ∧ wr.frozen? ⟨w.heap.size + 1, 0, none⟩ = false ∧
          wr.cell? ⟨w.heap.size + 1, 1, none⟩ = some (.int .i64 bs.length) ∧ OwnB wr (w.heap.size + 2) (.slice ao k cap) (P.packTo k bs) ∧ Below (w.heap.size + 1) W wr)
        (fun i _ => 8 * T - (intOf i).toNat)
      case atStart => exact ⟨0, none, 0, by omega, rfl, c0, f0, c1, World.ownsRow_nil _ _ _ _, Below.refl _ _⟩
      case round =>
        obtain ⟨k, ao, cap, hk, rfl, x0, z0, x1, hown, hbr⟩ := hrel
        have hsr := hbr.size
        by_cases hlt : k < T
        · have H1 := HV.out k hlt
          have hex := HE.out k
          have hvo := hide (valueOf_any (((bs ++ List.replicate j false).drop (8 * k)).take 8))
          have h8 := H8.out k
          rw [H1] at hvo
          generalize P.strB (((bs ++ List.replicate j false).drop (8 * k)).take 8) = s8 at hex hvo
          have hby := P.byteAt_lt bs k
          have HP := hide (P.packTo_succ k bs)
          generalize P.byteAt bs k = c at hby HP hvo
          have hpl : (P.packTo k bs).length ≤ k := by rw [P.packTo_len]; exact Nat.le_refl _
          have hpk := hide (P.packTo_len k bs)
          have i0 : (0 : Int) ≤ 8 * (k : Int) := by omega
          have i1 : 8 * (k : Int) + 8 ≤ 8 * (T : Int) := by omega
          have i2 : IntKind.i64.wrap (8 * (k : Int) + 8) = 8 * (k : Int) + 8 := by rw [IntKind.wrap_i64]; omega
          have i3 : (0 : Int) ≤ 8 * (k : Int) + 8 := by omega
          have i4 : 8 * (k : Int) ≤ 8 * (k : Int) + 8 := by omega
          have hwc : IntKind.u8.wrap (c : Int) = (c : Int) := by rw [IntKind.wrap_u8]; omega
          have t1 : (8 * (k : Int)).toNat = 8 * k := by omega
          have t2 : (8 * (k : Int) + 8).toNat = 8 * k + 8 := by omega
          have hwr : w.heap.size + 1 < wr.heap.size := by omega
          clear H1
          go_wp2
          go_region_law (first
            | (refine step_app1d rfl (.tmp 21) (.tmp 29) rfl (w.heap.size + 1) (w.heap.size + 2) W wr _ (P.packTo k bs) (c : Int) hown hbr (by omega) rfl rfl (by omega) (by omega) ?_; intro v' w1 hown' hb' hsz' hgr; obtain ⟨a', cap', hv'⟩ := own_shape1 hown' k hpk.out; rw [hv'] at hown' ⊢; clear hv'; have y0 := own_keep hown hgr x0 (by simp); have y1 := own_keep hown hgr x1 (by simp); rw [z0] at y0; obtain ⟨y0, q0⟩ := y0; replace y1 := y1.1)
            | (go_simp; go_at_call 43; refine (hvo.out _ h8).mono ?_; rintro e w' ⟨rfl, rfl⟩))
          all_goals
            go_wp2
            go_roundw
            case rel =>
              refine ⟨k + 1, a', cap', by omega, by go_num, World.cell?_setCell_same _ _ _ y0, (World.frozen?_setCell _ _ _ _).trans q0, (World.cell?_setCell_other _ _ _ _ (by simp)).trans y1, ?_, hb'.setCell (Nat.le_refl _) _⟩
              rw [HP.out]
              exact ownsRow_setCell_below hown' (by simp) _
            case measure => simp [intOf]; omega
        · obtain rfl : k = T := by omega
          have e0 := (hbr.cell (p := ⟨w.heap.size, 0, none⟩) (by simp)).trans d0
          have e1 := (hbr.cell (p := ⟨w.heap.size, 1, none⟩) (by simp)).trans d1
          have h0 := (hbr.frozen (p := ⟨w.heap.size, 0, none⟩) (by simp)).trans g0
          have h1 := (hbr.frozen (p := ⟨w.heap.size, 1, none⟩) (by simp)).trans g1
          have hd : decide (8 * (k : Int) < 8 * (k : Int)) = false := by simp
          go_wp2
          refine bodyPost_ret (v := .agg #[.slice ao k cap, .int .i64 bs.length]) (by simp [results, Tryd.results21, go_sem, e0, e1]) rfl ⟨.slice ao k cap, rfl, ?_, ((hbW.trans (hbr.mono (by omega))).setCell (by simp) _).setCell (by simp) _⟩
          have hp : P.packTo k bs = P.pack bs := by unfold P.pack P.bytesN; rw [HTT.out]
          rw [hp] at hown
          exact OwnB.base (ownsRow_setCell_below (ownsRow_setCell_below hown (by simp) _) (by simp) _) (by omega)
end Go.Proofs.YtfjbdgkdkbcnhaaDoor
/- What the document's own ZigOf, ZagOf, BytesOf and NumberOf answer. -/
namespace Go.Proofs.YtfjbdgkdkbcnhaaDoor
open Go.RowKit
set_option linter.unusedVariables false

/-- One byte in a new row. -/
theorem own_one (w : World) (base : Nat) (y : Int) (hb : base ≤ w.heap.size) : OwnB (w.alloc (.cells #[.int .u8 y] 5)) base (.slice (some ⟨w.heap.size, 0, none⟩) 1 1) [y] :=
  ⟨rfl, .inr ⟨w.heap.size, 1, #[.int .u8 y], rfl, hb, heap_alloc_new w _, by simp, by decide, rfl, rfl⟩⟩

theorem bytesOf_any (f : Nat) : ∀ (u : Int) (w : World), f ≤ 9 → 0 ≤ u → u < 2 * 128 ^ f → u ≤ 18446744073709551615 →
    Calls Tryd.prog 24 #[.int .u64 u] w fun e w' => ∃ v, e = .returned v ∧ OwnB w' w.heap.size v (P.putL f u) ∧ Below w.heap.size w w' := by
  have small : ∀ (f : Nat) (u : Int) (w : World), 0 ≤ u → u < 128 →
      Calls Tryd.prog 24 #[.int .u64 u] w fun e w' => ∃ v, e = .returned v ∧ OwnB w' w.heap.size v (P.putL f u) ∧ Below w.heap.size w w' := by
    intro f u w h0 hs
    go_enter Tryd.func24, Tryd.ntmps24
    go_wp2
    go_ret
    refine ⟨_, rfl, ?_, (Below.refl _ _).alloc (Nat.le_refl _) _⟩
    rw [P.putL_small f u hs]
    exact own_one w w.heap.size u (Nat.le_refl _)
  induction f with
  | zero => intro u w _ h0 hx _; exact small 0 u w h0 (by simp at hx; omega)
  | succ f ih =>
    intro u w hf h0 hx hu
    by_cases hs : u < 128
    · exact small (f + 1) u w h0 hs
    · obtain ⟨g, hg, hpl, hlt⟩ := P.putL_step (f + 1) u (by omega) hx
      obtain rfl : f = g := by omega
      have IH := hide ih
      have HP := hide hpl
      have HL := hide hlt
      have hlen := P.putL_len f (u / 128)
      clear ih hpl hlt hx small hg
      go_enter Tryd.func24, Tryd.ntmps24
      go_wp2_with (first
        | (go_at_call 24; go_must (refine (IH.out (u / 128) _ (by omega) (by omega) HL.out (by omega)).mono ?_); rintro e w2 ⟨v, rfl, hown, hb2⟩; have ho1 := (own_one w w.heap.size (u % 128 + 128) (Nat.le_refl _)).below hb2 (Nat.le_refl _); have hb := ((Below.refl w.heap.size w).alloc (Nat.le_refl _) (.cells #[.int .u8 (u % 128 + 128)] 5)).trans (hb2.mono (by simp)))
        | (at_builtin; go_must (refine wp_appRow rfl _ _ rfl w.heap.size w.heap.size w _ _ _ [u % 128 + 128] (P.putL f (u / 128)) ho1 hown.row hb (Nat.le_refl _) rfl rfl (by simp; omega) hb.size ?_); intro vd w4 hownd hbd _ _))
      go_ret
      exact ⟨vd, rfl, by rw [HP.out]; exact hownd, hbd⟩

theorem num_step (k : Nat) (X Y c : Int) (hX0 : 0 ≤ X) (hX : X < 128 ^ k) (hY : Y = 128 ^ k) (hc0 : 0 ≤ c) (hk : k ≤ 8 ∨ k = 9 ∧ c ≤ 1) :
    IntKind.u64.wrap (X + IntKind.u64.wrap (c % 128 * Y)) = X + c % 128 * 128 ^ k := by
  have hf := P.digit_fits k (c % 128) (by omega) (by omega) (by omega)
  have hp := P.pow128_le k (by omega)
  rw [hY, IntKind.wrap_u64, IntKind.wrap_u64, Int.emod_eq_of_lt (by omega) (by omega), Int.emod_eq_of_lt (by omega) (by omega)]
theorem by_step (k : Nat) (Y : Int) (hY : Y = 128 ^ k) (hk : k ≤ 8) : IntKind.u64.wrap (Y * 128) = 128 ^ (k + 1) := by
  have hp := P.pow128_le8 k hk
  have h0 := P.pow128_pos k
  rw [hY, IntKind.wrap_u64, Int.pow_succ, Int.emod_eq_of_lt (by omega) (by omega)]

set_option maxHeartbeats 1000000 in
theorem numberOf_any (v : Value) (l : List Int) (w : World) (hr : RowB w v l) (hbt : Byt l) :
    Calls Tryd.prog 29 #[v] w fun e w' => e = .returned (.tuple #[.int .u64 (P.take l).1, .int .i64 (P.take l).2.1, .int .i64 (P.take l).2.2]) ∧ w' = w := by
  obtain ⟨a, cap, rfl, ⟨hlc, hmax, _⟩, hcase⟩ := hr
  unfold maxLen at hmax
  go_enter Tryd.func29, Tryd.ntmps29
  go_wp2
  go_loop [5, 6, 10] (fun x y i => ∃ (k : Nat) (X Y : Int), k ≤ l.length ∧ k ≤ 9 ∧ i = .int .i64 k ∧ x = .int .u64 X ∧ y = .int .u64 Y ∧ 0 ≤ X ∧ X < 128 ^ k ∧ Y = 128 ^ k ∧ P.take l = P.takeL k X (l.drop k)) (fun _ _ i => l.length - (intOf i).toNat)
  case atStart => exact ⟨0, 0, 1, by omega, by omega, rfl, rfl, rfl, by omega, by omega, by omega, rfl⟩
  case round =>
    obtain ⟨k, X, Y, hk, hk9, rfl, rfl, rfl, hX0, hX, hY, hT⟩ := hrel
    have HT := hide hT
    have HX := hide hX
    have HY := hide hY
    clear hT hX hY
    by_cases hlt : k < l.length
    · rcases hcase with h | ⟨b, off, rfl, hbs, hcell⟩
      · rw [h] at hlt; simp at hlt
      have hc := hcell k hlt
      have hb := hbt.at k
      have HD := hide (P.drop_at l k hlt)
      generalize l.getD k 0 = c at hc hb HD
      obtain ⟨hb0, hb1⟩ := hb
      clear hcell
      by_cases h9 : k = 9
      · subst h9
        go_wp2
        all_goals first
          | (have hbad : 1 < c ∨ c = 0 := by
               (try simp only [beq_iff_eq] at *)
               omega
             have hv : P.take l = (0, 0, 4) := by rw [HT.out, HD.out, P.take_bad _ _ _ _ (by omega)]
             go_ret3
             exact ⟨by rw [hv]; rfl, rfl⟩)
          | (have hgood : ¬ (1 < c ∨ c = 0) := by
               (try simp only [beq_eq_false_iff_ne, ne_eq] at *)
               omega
             have hs := num_step 9 X Y c hX0 HX.out HY.out hb0 (by omega)
             have hv : P.take l = (X + c % 128 * 128 ^ 9, ((9 : Nat) : Int) + 1, 0) := by rw [HT.out, HD.out, P.take_last _ _ _ _ (by omega) (by omega)]
             go_ret3
             exact ⟨by rw [hv, ← hs]; rfl, rfl⟩)
      · have hne : ((k : Int) == 9) = false := by simp; omega
        go_wp2
        all_goals first
          | (have hbad : (k = 9 ∧ 1 < c) ∨ (0 < k ∧ c = 0) := by
               (try simp only [beq_iff_eq] at *)
               omega
             have hv : P.take l = (0, 0, 4) := by rw [HT.out, HD.out, P.take_bad _ _ _ _ hbad]
             go_ret3
             exact ⟨by rw [hv]; rfl, rfl⟩)
          | (have hgood : (¬ ((k = 9 ∧ 1 < c) ∨ (0 < k ∧ c = 0))) ∧ c < 128 := by
               (try simp only [beq_eq_false_iff_ne, ne_eq] at *)
               omega
             have hs := num_step k X Y c hX0 HX.out HY.out hb0 (by omega)
             have hv : P.take l = (X + c % 128 * 128 ^ k, ((k : Nat) : Int) + 1, 0) := by rw [HT.out, HD.out, P.take_last _ _ _ _ hgood.1 hgood.2]
             go_ret3
             exact ⟨by rw [hv, ← hs]; rfl, rfl⟩)
          | (have hgood : (¬ ((k = 9 ∧ 1 < c) ∨ (0 < k ∧ c = 0))) ∧ ¬ c < 128 := by
               (try simp only [beq_eq_false_iff_ne, ne_eq] at *)
               omega
             have hs := num_step k X Y c hX0 HX.out HY.out hb0 (by omega)
             have hy := by_step k Y HY.out (by omega)
             have hf := P.digit_fits k (c % 128) (by omega) (by omega) (by omega)
             have hv : P.take l = P.takeL (k + 1) (X + c % 128 * 128 ^ k) (l.drop (k + 1)) := by rw [HT.out, HD.out, P.take_more _ _ _ _ hgood.1 hgood.2]
             go_round
             case rel => exact ⟨k + 1, _, _, by omega, by omega, by go_num, by rw [hs], by rw [hy], by omega, P.step_lt k X _ HX.out (by omega), rfl, hv⟩
             case measure => simp [intOf]; omega)
    · go_wp2
      have hv : P.take l = (0, 0, 3) := by rw [HT.out, List.drop_eq_nil_of_le (by omega)]; rfl
      go_ret3
      exact ⟨by rw [hv]; rfl, rfl⟩
end Go.Proofs.YtfjbdgkdkbcnhaaDoor
