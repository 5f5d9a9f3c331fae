/- Several texts in one. -/
import Derived.Test.YtcaidfffmllfeaaHeavyKAll
import Derived.Test.YtcaidfffmllfeaaHeavyLAll
import Derived.Test.YtcaidfffmllfeaaHeavyNAll
import Derived.BigQuiet
/- What the reference's CountIn, Lessened, Counted and SameHeavy answer. -/
namespace Go.Proofs.Ytcaidfffmllfeaa
open Go.RowKit
set_option linter.unusedVariables false
set_option maxHeartbeats 1000000 in
theorem countIn_any (v : Value) (l : List P.Ct) (key : ByteArray) (w : World) (hr : RowC w v l) (ha : P.Asc l) :
    Calls Try.prog 15 #[v, .string key] w fun e w' => e = .returned (.int .i64 (P.look l key)) ∧ Below w.heap.size w w' := by
  have HL : Hid (∀ (k : Nat) (x : P.Ct), l[k]? = some x → x.1 = key → P.look l key = x.2) := fun k x hx e => by rw [← e]; exact P.look_take ha hx
  have HA : Hid ((∀ (j : Nat) (x : P.Ct), j < l.length → l[j]? = some x → x.1 ≠ key) → P.look l key = 0) := fun h => P.look_absent h
  generalize P.look l key = A at *
  obtain ⟨a, cap, rfl, ⟨hlc, hmax, hnn⟩, hcase⟩ := hr
  unfold maxLen at hmax
  clear ha
  go_enter Try.func15, Try.ntmps15
  go_wp2
  go_loopw [9] (fun i wr => ∃ (k : Nat), k ≤ l.length ∧ i = .int .i64 k ∧ (∀ (j : Nat) (x : P.Ct), j < k → l[j]? = some x → x.1 ≠ key) ∧ Below w.heap.size w wr) (fun i _ => l.length - (intOf i).toNat)
  case atStart => exact ⟨0, by omega, rfl, fun j x hj => by omega, Below.refl _ _⟩
  case round =>
    obtain ⟨k, hk, rfl, heq, hB⟩ := hrel
    have HE := hide heq
    clear heq
    by_cases hlt : k < l.length
    · rcases hcase with h | ⟨b, off, rfl, hbs, hcell⟩
      · rw [h] at hlt; simp at hlt
      have j0 : (0 : Int) ≤ (k : Int) := by omega
      have j1 : (k : Int) < (l.length : Int) := by omega
      obtain ⟨x, hx⟩ : ∃ x, l[k]? = some x := ⟨_, List.getElem?_eq_getElem hlt⟩
      obtain ⟨g0, g1⟩ := RowC.at hcell hx
      have q0 := (hB.cell (p := ⟨b, off + k * 2, none⟩) hbs).trans g0
      have q1 := (hB.cell (p := ⟨b, off + k * 2 + 1, none⟩) hbs).trans g1
      have HX := hide hx
      obtain ⟨xk, xn⟩ := x
      simp only at q0 q1
      clear hcell g0 g1 hx
      have hBW := hide (hB.alloc hB.size (.cells #[.string xk, .int .i64 xn] 50))
      cases hke : (xk.toList == key.toList) with
      | true =>
        have HV : Hid (A = xn) := HL.out k (xk, xn) HX.out (P.ba_ext (eq_of_beq hke))
        clear HL HA
        go_wp2
        go_ret
        exact ⟨by rw [HV.out] <;> rfl, hBW.out⟩
      | false =>
        have HNe : Hid (xk ≠ key) := fun e => by subst e; simp at hke
        go_wp2
        go_roundw
        case rel =>
          refine ⟨k + 1, by omega, by go_num, fun j y hj hy => ?_, hBW.out⟩
          rcases Nat.lt_or_ge j k with h | h
          · exact HE.out j y h hy
          · obtain rfl : j = k := by omega
            rw [HX.out] at hy; simp at hy; subst hy
            exact HNe.out
        case measure => simp [intOf]; omega
    · have hd : decide ((k : Int) < (l.length : Int)) = false := by simp; omega
      have HV : Hid (A = 0) := HA.out fun j x hj hx => HE.out j x (by omega) hx
      go_wp2
      go_ret
      exact ⟨by rw [HV.out] <;> rfl, hB⟩
set_option maxHeartbeats 1000000 in
theorem refLessened_any (v : Value) (l : List P.Ct) (x : Int) (w : World) (hr : RowC w v l) (hn : l.length ≤ 1000) (hp : ∀ y ∈ l, 0 < y.2 ∧ y.2 ≤ 4000000000) (hx : 0 ≤ x ∧ x ≤ 4000000000) :
    Calls Try.prog 32 #[v, .int .i64 x] w fun e w' => ∃ v', e = .returned v' ∧ OwnC w' w.heap.size v' (P.les l x) ∧ Below w.heap.size w w' := by
  obtain ⟨a, cap, rfl, ⟨hlc, hmax, hnn⟩, hcase⟩ := hr
  unfold maxLen at hmax
  go_enter Try.func32, Try.ntmps32
  go_wp2
  go_loopw [10, 5] (fun i vl wr => LesAt w l x i vl wr) (fun i _ _ => l.length - (intOf i).toNat)
  case atStart => exact ⟨0, by omega, rfl, OwnX.nil _ _ _ _ _, Below.refl _ _⟩
  case round =>
    obtain ⟨k, hk, rfl, hown, hb⟩ := hrel
    have hsz := hb.size
    by_cases hlt : k < l.length
    · rcases hcase with h | ⟨p, o, rfl, hpl, hc⟩
      · rw [h] at hlt; simp at hlt
      obtain ⟨y, hy⟩ : ∃ y, l[k]? = some y := ⟨_, List.getElem?_eq_getElem hlt⟩
      obtain ⟨g0, g1⟩ := RowC.at hc hy
      replace g0 := (hb.cell (p := ⟨p, o + k * 2, none⟩) hpl).trans g0
      replace g1 := (hb.cell (p := ⟨p, o + k * 2 + 1, none⟩) hpl).trans g1
      have HN := hide (P.les_snoc hy x)
      have hlJ : (P.les (l.take k) x).length ≤ 1000 := by have := P.les_le (l.take k) x; simp at this; omega
      obtain ⟨hy0, hy1⟩ := hp y (List.mem_of_getElem? hy)
      obtain ⟨s0, s1⟩ := y
      simp only at g0 g1 HN hy0 hy1
      generalize P.les (l.take k) x = J at *
      clear hc hy
      have n0 : (0 : Int) ≤ (k : Int) := by omega
      have n1 : (k : Int) < (l.length : Int) := by omega
      have o5 := hown.below ((Below.refl _ _).alloc (Nat.le_refl _) (.cells #[.string s0, .int .i64 (s1 - x)] 50)) (Nat.le_refl _)
      have b5 := hb.alloc hsz (.cells #[.string s0, .int .i64 (s1 - x)] 50)
      have s5 := b5.size
      have z5 : (wr.alloc (.cells #[.string s0, .int .i64 (s1 - x)] 50)).heap.size = wr.heap.size + 1 := by simp
      clear hown hb
      by_cases h1 : x < s1
      · rw [if_pos h1] at HN
        have hd1 : decide (0 < s1 - x) = true := by simp; omega
        go_wp2_with (at_builtin; go_must (refine wp_oneC rfl (.tmp 22) (.tmp 24) rfl w.heap.size w.heap.size w (wr.alloc (.cells #[.string s0, .int .i64 (s1 - x)] 50)) _ J (s0, s1 - x) o5 b5 (Nat.le_refl _) rfl (show Value.slice (some ⟨wr.heap.size + 1, 0, none⟩) 1 1 = _ by rw [z5]) (by omega) s5 s5 ?_); intro v' w6 own6 bl6 sz6 _)
        go_roundw
        case rel => exact ⟨k + 1, by omega, by go_num, by rw [HN.out]; exact own6, bl6⟩
        case measure => simp [intOf]; omega
      · have t1 : decide (0 < s1 - x) = false := by simp; omega
        rw [if_neg h1, List.append_nil] at HN
        go_wp2
        go_roundw
        case rel => exact ⟨k + 1, by omega, by go_num, by rw [HN.out]; exact o5, b5⟩
        case measure => simp [intOf]; omega
    · have hd : decide ((k : Int) < (l.length : Int)) = false := by simp; omega
      obtain rfl : k = l.length := by omega
      rw [List.take_length] at hown
      go_wp2
      go_ret
      exact ⟨_, rfl, hown, hb⟩
end Go.Proofs.Ytcaidfffmllfeaa
