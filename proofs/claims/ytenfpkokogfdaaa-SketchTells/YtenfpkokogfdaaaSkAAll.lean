/- Several texts in one. -/
import Derived.Test.YtenfpkokogfdaaaKitSkAll
/- What areRows, addUp and Clone of sketches answer. -/
namespace Go.Proofs.Ytenfpkokogfdaaa
open Go.RowKit
set_option linter.unusedVariables false
namespace P
def arB (d w : Int) : Bool := decide (1 ≤ d ∧ d ≤ 8 ∧ 1 ≤ w ∧ w ≤ 200)
open Classical in
noncomputable def addB (l : List Int) (n : Int) : Bool := decide ((∀ x ∈ l, 0 ≤ x) ∧ sumL l = n)
theorem addB_yes {l : List Int} {n : Int} (h : ∀ x ∈ l, 0 ≤ x) (h2 : sumL l = n) : addB l n = true := by unfold addB; simpa using ⟨h, h2⟩
theorem addB_no {l : List Int} {n : Int} (h : ¬ ((∀ x ∈ l, 0 ≤ x) ∧ sumL l = n)) : addB l n = false := by unfold addB; rw [decide_eq_false_iff_not]; exact h
theorem addB_iff {l : List Int} {n : Int} : addB l n = true ↔ (∀ x ∈ l, 0 ≤ x) ∧ sumL l = n := by unfold addB; simp
theorem sumL_take (l : List Int) (k : Nat) (h : k < l.length) : sumL (l.take (k + 1)) = sumL (l.take k) + l.getD k 0 := by
  rw [List.take_add_one, sumL_append, List.getElem?_eq_getElem h]
  simp [sumL, List.getD_eq_getElem?_getD, List.getElem?_eq_getElem h]
theorem nonneg_take (l : List Int) (k : Nat) (h : k < l.length) (h1 : ∀ x ∈ l.take k, 0 ≤ x) (h2 : 0 ≤ l.getD k 0) : ∀ x ∈ l.take (k + 1), 0 ≤ x := by
  intro x hx
  rw [List.take_add_one, List.getElem?_eq_getElem h] at hx
  rcases List.mem_append.1 hx with hx | hx
  · exact h1 x hx
  · simp at hx; subst hx
    simpa [List.getD_eq_getElem?_getD, List.getElem?_eq_getElem h] using h2
theorem sum_split (l : List Int) (k : Nat) (h : ∀ x ∈ l, 0 ≤ x) : sumL (l.take k) ≤ sumL l := by
  have e : sumL l = sumL (l.take k) + sumL (l.drop k) := by rw [← sumL_append, List.take_append_drop]
  have := sumL_nonneg (l := l.drop k) fun x hx => h x (List.mem_of_mem_drop hx)
  omega
theorem mem_getD (l : List Int) (k : Nat) (h : k < l.length) : l.getD k 0 ∈ l := by
  rw [List.getD_eq_getElem?_getD, List.getElem?_eq_getElem h]; exact List.getElem_mem h
end P
theorem areRows_any (d x : Int) (w : World) : Calls Try.prog 25 #[.int .i64 d, .int .i64 x] w fun e w' => e = .returned (.bool (P.arB d x)) ∧ w' = w := by
  by_cases h1 : 1 ≤ d
  · by_cases h2 : d ≤ 8
    · have d2 : decide (d ≤ 8) = true := by simpa using h2
      by_cases h3 : 1 ≤ x
      · by_cases h4 : x ≤ 200
        · have d4 : decide (x ≤ 200) = true := by simpa using h4
          have HD : Hid (P.arB d x = true) := by show _ = _; unfold P.arB; simp; omega
          go_enter Try.func25, Try.ntmps25
          go_wp2
          go_ret
          exact ⟨by rw [HD.out]; rfl, rfl⟩
        · have d4 : decide (x ≤ 200) = false := by simpa using h4
          have HD : Hid (P.arB d x = false) := by show _ = _; unfold P.arB; simp; omega
          go_enter Try.func25, Try.ntmps25
          go_wp2
          go_ret
          exact ⟨by rw [HD.out]; rfl, rfl⟩
      · have d3 : decide (1 ≤ x) = false := by simpa using h3
        have HD : Hid (P.arB d x = false) := by show _ = _; unfold P.arB; simp; omega
        go_enter Try.func25, Try.ntmps25
        go_wp2
        go_ret
        exact ⟨by rw [HD.out]; rfl, rfl⟩
    · have d2 : decide (d ≤ 8) = false := by simpa using h2
      have HD : Hid (P.arB d x = false) := by show _ = _; unfold P.arB; simp; omega
      go_enter Try.func25, Try.ntmps25
      go_wp2
      go_ret
      exact ⟨by rw [HD.out]; rfl, rfl⟩
  · have d1 : decide (1 ≤ d) = false := by simpa using h1
    have HD : Hid (P.arB d x = false) := by show _ = _; unfold P.arB; simp; omega
    go_enter Try.func25, Try.ntmps25
    go_wp2
    go_ret
    exact ⟨by rw [HD.out]; rfl, rfl⟩
set_option maxHeartbeats 1000000 in
theorem addUp_any (v : Value) (l : List Int) (n : Int) (w : World) (hr : RowK .i64 w v l) (hn0 : -9223372036854775808 ≤ n) (hn1 : n ≤ 9223372036854775807) :
    Calls Try.prog 29 #[v, .int .i64 n] w fun e w' => e = .returned (.bool (P.addB l n)) ∧ w' = w := by
  obtain ⟨a, cap, rfl, ⟨hlc, hmax, _⟩, hcase⟩ := hr
  unfold maxLen at hmax
  go_enter Try.func29, Try.ntmps29
  go_wp2
  go_loop [1, 9] (fun nv i => ∃ (k : Nat) (m : Int), k ≤ l.length ∧ i = .int .i64 k ∧ nv = .int .i64 m ∧ m = n - P.sumL (l.take k) ∧ (∀ x ∈ l.take k, 0 ≤ x) ∧ -9223372036854775808 ≤ m ∧ m ≤ 9223372036854775807) (fun _ i => l.length - (intOf i).toNat)
  case atStart => exact ⟨0, n, by omega, rfl, rfl, by simp [P.sumL], by simp, hn0, hn1⟩
  case round =>
    obtain ⟨k, m, hk, rfl, rfl, hm, hpos, hm0, hm1⟩ := hrel
    have HM := hide hm
    have HP := hide hpos
    clear hm hpos
    by_cases hlt : k < l.length
    · rcases hcase with h | ⟨b, off, rfl, hbs, hcell⟩
      · rw [h] at hlt; simp at hlt
      have hc := hcell k hlt
      have j0 : (0 : Int) ≤ (k : Int) := by omega
      have j1 : (k : Int) < (l.length : Int) := by omega
      have HS := hide (P.sumL_take l k hlt)
      have HN := hide (P.nonneg_take l k hlt HP.out)
      have HMem := hide (P.mem_getD l k hlt)
      have HSp := hide (P.sum_split l (k + 1))
      generalize l.getD k 0 = c at *
      clear hcell
      by_cases h0 : c < 0
      · have d0 : decide (c < 0) = true := by simpa using h0
        have HF : Hid (P.addB l n = false) := P.addB_no fun h => by have := h.1 c HMem.out; omega
        clear h0
        go_wp2
        go_ret
        exact ⟨by rw [HF.out]; rfl, rfl⟩
      · have d0 : decide (c < 0) = false := by simpa using h0
        by_cases h1 : m < c
        · have d1 : decide (m < c) = true := by simpa using h1
          have HF : Hid (P.addB l n = false) := P.addB_no fun h => by
            have h2 := HSp.out h.1
            have h3 := HS.out
            have h4 := HM.out
            have h5 := h.2
            omega
          clear h0 h1
          go_wp2
          go_ret
          exact ⟨by rw [HF.out]; rfl, rfl⟩
        · have d1 : decide (m < c) = false := by simpa using h1
          have e1 : IntKind.i64.wrap (m - c) = m - c := by rw [IntKind.wrap_i64]; omega
          have HX : Hid (m - c = n - P.sumL (l.take (k + 1))) := by show _ = _; have h3 := HS.out; have h4 := HM.out; omega
          have HB : Hid (-9223372036854775808 ≤ m - c ∧ m - c ≤ 9223372036854775807) := by constructor <;> omega
          have HN2 := hide (HN.out (by omega))
          clear h0 h1
          go_wp2
          go_round
          case rel => exact ⟨k + 1, m - c, by omega, by go_num, by rw [← e1]; try rfl, HX.out, HN2.out, HB.out.1, HB.out.2⟩
          case measure => simp [intOf]; omega
    · have hd : decide ((k : Int) < (l.length : Int)) = false := by simp; omega
      obtain rfl : k = l.length := by omega
      rw [List.take_length] at HM HP
      cases hz : (m == 0) with
      | true =>
        have HF : Hid (P.addB l n = true) := P.addB_yes HP.out (by have := HM.out; have h2 := eq_of_beq hz; omega)
        go_wp2
        go_ret
        exact ⟨by rw [HF.out]; rfl, rfl⟩
      | false =>
        have HF : Hid (P.addB l n = false) := P.addB_no fun h => by
          have h1 := HM.out; have h2 := h.2
          have : m = 0 := by omega
          rw [this] at hz; cases hz
        go_wp2
        go_ret
        exact ⟨by rw [HF.out]; rfl, rfl⟩
end Go.Proofs.Ytenfpkokogfdaaa
