/- Several texts in one. -/
import Derived.Test.YtenfpkokogfdaaaSkTAll
/- What times answers: how often a key came. -/
namespace Go.Proofs.Ytenfpkokogfdaaa
open Go.RowKit
set_option linter.unusedVariables false
namespace P
theorem ba_ext {a b : ByteArray} (h : a.toList = b.toList) : a = b := by
  rw [Lib.toList_data, Lib.toList_data] at h
  cases a; cases b
  simp only at h
  rw [ByteArray.mk.injEq]
  exact Array.toList_inj.1 h
/-- How often a key came. -/
def cnt (l : List ByteArray) (q : ByteArray) : Int := ((l.countP fun y => decide (y = q) : Nat) : Int)
theorem cnt_take {l : List ByteArray} {k : Nat} {x : ByteArray} (h : l[k]? = some x) (q : ByteArray) : cnt (l.take (k + 1)) q = cnt (l.take k) q + (if x = q then 1 else 0) := by
  unfold cnt
  rw [List.take_add_one, h, List.countP_append]
  by_cases hx : x = q <;> simp [hx]
theorem cnt_bound (l : List ByteArray) (q : ByteArray) : 0 ≤ cnt l q ∧ cnt l q ≤ l.length := by
  unfold cnt
  have : (l.countP fun y => decide (y = q)) ≤ l.length := List.countP_le_length
  omega
end P
theorem times_any (v : Value) (l : List ByteArray) (q : ByteArray) (w : World) (hr : RowT w v l) (hn : l.length ≤ 9223372036854775807) :
    Calls Try.prog 21 #[v, .string q] w fun e w' => e = .returned (.int .i64 (P.cnt l q)) ∧ w' = w := by
  obtain ⟨a, cap, rfl, ⟨hlc, hmax, _⟩, hcase⟩ := hr
  unfold maxLen at hmax
  go_enter Try.func21, Try.ntmps21
  go_wp2
  go_loop [10, 5] (fun i n => ∃ k : Nat, k ≤ l.length ∧ i = .int .i64 k ∧ n = .int .i64 (P.cnt (l.take k) q)) (fun i _ => l.length - (intOf i).toNat)
  case atStart => exact ⟨0, by omega, rfl, by simp [P.cnt]⟩
  case round =>
    obtain ⟨k, hk, rfl, rfl⟩ := hrel
    by_cases hlt : k < l.length
    · rcases hcase with h | ⟨b, off, rfl, hbs, hcell⟩
      · rw [h] at hlt; simp at hlt
      have j0 : (0 : Int) ≤ (k : Int) := by omega
      have j1 : (k : Int) < (l.length : Int) := by omega
      obtain ⟨x, hx⟩ : ∃ x, l[k]? = some x := ⟨_, List.getElem?_eq_getElem hlt⟩
      have hc := RowT.at hcell hx
      have HT := hide (P.cnt_take hx q)
      obtain ⟨b0, b1⟩ := P.cnt_bound (l.take k) q
      have b2 : P.cnt (l.take k) q ≤ (k : Int) := by rw [List.length_take] at b1; omega
      generalize P.cnt (l.take k) q = n at *
      clear hcell hx b1
      cases hke : (x.toList == q.toList) with
      | true =>
        obtain rfl : x = q := P.ba_ext (eq_of_beq hke)
        rw [if_pos rfl] at HT
        go_wp2
        go_round
        case rel => exact ⟨k + 1, by omega, by go_num, by rw [HT.out]⟩
        case measure => simp [intOf]; omega
      | false =>
        have hne : ¬ x = q := fun e => by subst e; simp at hke
        rw [if_neg hne, Int.add_zero] at HT
        clear hne
        go_wp2
        go_round
        case rel => exact ⟨k + 1, by omega, by go_num, by rw [HT.out]⟩
        case measure => simp [intOf]; omega
    · have hd : decide ((k : Int) < (l.length : Int)) = false := by simp; omega
      obtain rfl : k = l.length := by omega
      rw [List.take_length]
      go_wp2
      go_ret
      exact ⟨rfl, rfl⟩
end Go.Proofs.Ytenfpkokogfdaaa
