/- Several texts in one. -/
import Derived.Test.YtcaidfffmllfeaaHeavyRAll
import Derived.Test.YtcaidfffmllfeaaHeavyNAll
/- What long, times and tallied answer. -/
namespace Go.Proofs.Ytcaidfffmllfeaa
open Go.RowKit
set_option linter.unusedVariables false
namespace P
open Classical in
/-- Is a text too long? -/
noncomputable def lgB (l : List ByteArray) : Bool := decide (∃ x ∈ l, 40 < x.size)
theorem lgB_yes {l : List ByteArray} (h : ∃ x ∈ l, 40 < x.size) : lgB l = true := by unfold lgB; simpa using h
theorem lgB_no {l : List ByteArray} (h : ¬ ∃ x ∈ l, 40 < x.size) : lgB l = false := by unfold lgB; rw [decide_eq_false_iff_not]; exact h
end P
theorem long1_any (x : ByteArray) (w : World) (hx : x.size ≤ 9223372036854775807) : Calls Try.prog 34 #[.string x] w fun r w' => r = .returned (.bool (decide (40 < (x.size : Int)))) ∧ w' = w := by
  have h0 : (x.size : Int) ≤ 9223372036854775807 := by omega
  cases h : decide (40 < (x.size : Int)) with
  | true =>
    go_enter Try.func34, Try.ntmps34
    go_wp2
    go_ret
    exact ⟨rfl, rfl⟩
  | false =>
    go_enter Try.func34, Try.ntmps34
    go_wp2
    go_ret
    exact ⟨rfl, rfl⟩
theorem indexLong_any (v : Value) (l : List ByteArray) (w : World) (hr : RowT w v l) (hl : TxOk l) :
    Calls Try.prog 40 #[v, .func (.func 34) #[] #[]] w fun e w' => ∃ r : Int, e = .returned (.int .i64 r) ∧ decide (0 ≤ r) = P.lgB l ∧ w' = w := by
  obtain ⟨a, cap, rfl, ⟨hlc, hmax, _⟩, hcase⟩ := hr
  unfold maxLen at hmax
  go_enter Try.func40, Try.ntmps40
  go_wp2
  go_loop [8] (fun i => ∃ k : Nat, k ≤ l.length ∧ i = .int .i64 k ∧ ∀ j x, j < k → l[j]? = some x → ¬ 40 < x.size) (fun i => l.length - (intOf i).toNat)
  case atStart => exact ⟨0, by omega, rfl, fun j x hj => by omega⟩
  case round =>
    obtain ⟨k, hk, rfl, hz⟩ := hrel
    have HZ := hide hz
    clear hz
    by_cases hlt : k < l.length
    · rcases hcase with h | ⟨b, off, rfl, hbs, hcell⟩
      · rw [h] at hlt; simp at hlt
      obtain ⟨x, hx⟩ : ∃ x, l[k]? = some x := ⟨_, List.getElem?_eq_getElem hlt⟩
      have hc := RowT.at hcell hx
      have hxs := hl x (List.mem_of_getElem? hx)
      have HX := hide hx
      have HG := hide (long1_any x w hxs)
      clear hcell hx
      by_cases h0 : 40 < x.size
      · rw [show decide (40 < (x.size : Int)) = true by simp; omega] at HG
        have HA : Hid (P.lgB l = true) := P.lgB_yes ⟨x, List.mem_of_getElem? HX.out, h0⟩
        clear h0
        go_wp2_with (go_at_call 34; go_must (refine HG.out.mono ?_); rintro e w' ⟨rfl, rfl⟩)
        go_ret
        exact ⟨k, rfl, by rw [HA.out]; simp, rfl⟩
      · rw [show decide (40 < (x.size : Int)) = false by simp; omega] at HG
        have H0 := hide h0
        clear h0
        go_wp2_with (go_at_call 34; go_must (refine HG.out.mono ?_); rintro e w' ⟨rfl, rfl⟩)
        go_round
        case rel =>
          refine ⟨k + 1, by omega, by go_num, fun j y hj hy => ?_⟩
          rcases Nat.lt_or_ge j k with h | h
          · exact HZ.out j y h hy
          · obtain rfl : j = k := by omega
            rw [HX.out] at hy; simp at hy; subst hy
            exact H0.out
        case measure => simp [intOf]; omega
    · have HA : Hid (P.lgB l = false) := P.lgB_no fun ⟨x, hx, h4⟩ => by
        obtain ⟨j, hj, e⟩ := List.getElem_of_mem hx
        exact HZ.out j x (by omega) (by rw [List.getElem?_eq_getElem hj, e]) h4
      go_wp2
      go_ret
      exact ⟨-1, rfl, by rw [HA.out]; rfl, rfl⟩
theorem long_any (v : Value) (l : List ByteArray) (w : World) (hr : RowT w v l) (hl : TxOk l) :
    Calls Try.prog 21 #[v] w fun e w' => e = .returned (.bool (P.lgB l)) ∧ w' = w := by
  have HI := hide (indexLong_any v l w hr hl)
  have HC : Hid (Calls Try.prog 33 #[v, .func (.func 34) #[] #[]] w fun e w' => e = .returned (.bool (P.lgB l)) ∧ w' = w) := by
    show Calls _ _ _ _ _
    go_enter Try.func33, Try.ntmps33
    go_wp2_with (go_at_call 40; go_must (refine HI.out.mono ?_); rintro e w' ⟨r, rfl, hq, rfl⟩)
    go_ret
    exact ⟨by rw [← hq]; rfl, rfl⟩
  generalize P.lgB l = z at *
  go_enter Try.func21, Try.ntmps21
  go_wp2_with (go_at_call 33; go_must (refine HC.out.mono ?_); rintro e w' ⟨rfl, rfl⟩)
  go_ret
  exact ⟨rfl, rfl⟩
theorem times_any (v : Value) (l : List ByteArray) (q : ByteArray) (w : World) (hr : RowT w v l) (hn : l.length ≤ 9223372036854775807) :
    Calls Try.prog 22 #[v, .string q] w fun e w' => e = .returned (.int .i64 (P.tms l q)) ∧ w' = w := by
  obtain ⟨a, cap, rfl, ⟨hlc, hmax, _⟩, hcase⟩ := hr
  unfold maxLen at hmax
  go_enter Try.func22, Try.ntmps22
  go_wp2
  go_loop [10, 5] (fun i n => ∃ k : Nat, k ≤ l.length ∧ i = .int .i64 k ∧ n = .int .i64 (P.tms (l.take k) q)) (fun i _ => l.length - (intOf i).toNat)
  case atStart => exact ⟨0, by omega, rfl, by simp [P.tms]⟩
  case round =>
    obtain ⟨k, hk, rfl, rfl⟩ := hrel
    by_cases hlt : k < l.length
    · rcases hcase with h | ⟨b, off, rfl, hbs, hcell⟩
      · rw [h] at hlt; simp at hlt
      have j0 : (0 : Int) ≤ (k : Int) := by omega
      have j1 : (k : Int) < (l.length : Int) := by omega
      obtain ⟨x, hx⟩ : ∃ x, l[k]? = some x := ⟨_, List.getElem?_eq_getElem hlt⟩
      have hc := RowT.at hcell hx
      have HT := hide (P.tms_take hx q)
      obtain ⟨b0, b1⟩ := P.tms_bound (l.take k) q
      have b2 : P.tms (l.take k) q ≤ (k : Int) := by rw [List.length_take] at b1; omega
      generalize P.tms (l.take k) q = n at *
      clear hcell hx b1
      cases hke : (x.toList == q.toList) with
      | true =>
        obtain rfl : x = q := P.ba_ext (eq_of_beq hke)
        rw [if_pos rfl] at HT
        go_wp2
        go_round
        case rel => exact ⟨k + 1, by omega, by go_num, by rw [HT.out]⟩
        case measure => simp [intOf]; omega
      | false =>
        have hne : ¬ x = q := fun e => by subst e; simp at hke
        rw [if_neg hne, Int.add_zero] at HT
        clear hne
        go_wp2
        go_round
        case rel => exact ⟨k + 1, by omega, by go_num, by rw [HT.out]⟩
        case measure => simp [intOf]; omega
    · have hd : decide ((k : Int) < (l.length : Int)) = false := by simp; omega
      obtain rfl : k = l.length := by omega
      rw [List.take_length]
      go_wp2
      go_ret
      exact ⟨rfl, rfl⟩
end Go.Proofs.Ytcaidfffmllfeaa
