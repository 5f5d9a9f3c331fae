/- What slices.Equal answers of two rows of labels or of matches. -/
import Derived.Test.YthdccpgjiogiaaaLabelV
namespace Go.Proofs.Ythdccpgjiogiaaa
open Go.RowKit
set_option linter.unusedVariables false
theorem toList_eq {a b : ByteArray} (h : (a.toList == b.toList) = true) : a = b := by
  rw [beq_iff_eq, Lib.toList_data, Lib.toList_data] at h
  exact P.dl_inj h
set_option maxHeartbeats 1000000 in
theorem equalL_any (v1 v2 : Value) (l m : List P.Lb) (w : World) (h1 : RowL w v1 l) (h2 : RowL w v2 m) :
    Calls Try.prog 39 #[v1, v2] w fun e w' => e = .returned (.bool (decide (l = m))) ∧ Below w.heap.size w w' := by
  obtain ⟨a1, c1, rfl, ⟨hlc1, hm1, _⟩, hcase1⟩ := h1
  obtain ⟨a2, c2, rfl, ⟨hlc2, hm2, _⟩, hcase2⟩ := h2
  unfold maxLen at hm1 hm2
  have HD : Hid ((l = m → decide (l = m) = true) ∧ (l ≠ m → decide (l = m) = false)) := ⟨fun h => by simp [h], fun h => by simp [h]⟩
  generalize decide (l = m) = ans at HD
  by_cases h : l.length = m.length
  · have hl : ((l.length : Int) != (m.length : Int)) = false := by simp [h]
    have HL := hide h
    rw [← h] at hl hlc2 ⊢
    clear h
    go_enter Try.func39, Try.ntmps39
    go_wp2
    go_loopw [13] (fun i wr => ∃ (k : Nat), k ≤ l.length ∧ i = .int .i64 k ∧ (∀ j, j < k → l[j]? = m[j]?) ∧ ∃ q, wr = w.drewN q) (fun i _ => l.length - (intOf i).toNat)
    case atStart => exact ⟨0, by omega, rfl, fun j hj => by omega, 0, rfl⟩
    case round =>
      obtain ⟨k, hk, rfl, heq, q, rfl⟩ := hrel
      have HE := hide heq
      clear heq
      by_cases hlt : k < l.length
      · rcases hcase1 with h | ⟨p1, o1, rfl, hbs1, hcell1⟩
        · rw [h] at hlt; simp at hlt
        rcases hcase2 with h | ⟨p2, o2, rfl, hbs2, hcell2⟩
        · have h3 := HL.out
          rw [h, List.length_nil] at h3
          omega
        obtain ⟨x, hx⟩ : ∃ x, l[k]? = some x := ⟨_, List.getElem?_eq_getElem hlt⟩
        obtain ⟨y, hy⟩ : ∃ y, m[k]? = some y := ⟨_, List.getElem?_eq_getElem (by have := HL.out; omega)⟩
        obtain ⟨g1, g1'⟩ := RowL.at hcell1 hx
        obtain ⟨g2, g2'⟩ := RowL.at hcell2 hy
        have j0 : (0 : Int) ≤ (k : Int) := by omega
        have j1 : (k : Int) < (l.length : Int) := by omega
        have HX := hide hx
        have HY := hide hy
        clear hcell1 hcell2 hx hy
        obtain ⟨x0, x1⟩ := x
        obtain ⟨y0, y1⟩ := y
        simp only at g1 g1' g2 g2'
        cases e0 : (x0.toList == y0.toList) with
        | true =>
          cases e1 : (x1.toList == y1.toList) with
          | true =>
            have HS : Hid ((x0, x1) = (y0, y1)) := by
              show _ = _
              rw [toList_eq e0, toList_eq e1]
            go_wp2
            go_quiet (fail)
            go_wp2
            go_roundw
            case rel =>
              refine ⟨k + 1, by omega, by go_num, fun j hj => ?_, q + nq, rfl⟩
              rcases Nat.lt_or_ge j k with h | h
              · exact HE.out j h
              · obtain rfl : j = k := by omega
                rw [HX.out, HY.out, HS.out]
            case measure => simp [intOf]; omega
          | false =>
            have HS : Hid (ans = false) := HD.out.2 (fun h => by
              have := HX.out
              rw [h, HY.out] at this
              simp at this
              rw [this.2] at e1
              simp at e1)
            go_wp2
            go_quiet (fail)
            go_wp2
            go_ret
            exact ⟨ret_bool HS.out.symm, below_dn (below_dn (Below.refl _ _) _) _⟩
        | false =>
          have HS : Hid (ans = false) := HD.out.2 (fun h => by
            have := HX.out
            rw [h, HY.out] at this
            simp at this
            rw [this.1] at e0
            simp at e0)
          go_wp2
          go_quiet (fail)
          go_wp2
          go_ret
          exact ⟨ret_bool HS.out.symm, below_dn (below_dn (Below.refl _ _) _) _⟩
      · have HS : Hid (ans = true) := HD.out.1 (List.ext_getElem? fun j => by
          rcases Nat.lt_or_ge j k with h | h
          · exact HE.out j h
          · rw [List.getElem?_eq_none (by omega), List.getElem?_eq_none (by have := HL.out; omega)])
        have hd : decide ((k : Int) < (l.length : Int)) = false := by simp; omega
        go_wp2
        go_ret
        exact ⟨ret_bool HS.out.symm, below_dn (Below.refl _ _) _⟩
  · have hl : ((l.length : Int) != (m.length : Int)) = true := by rw [bne_iff_ne]; omega
    have HS : Hid (ans = false) := HD.out.2 (fun e => h (by rw [e]))
    clear h
    go_enter Try.func39, Try.ntmps39
    go_wp2
    go_ret
    exact ⟨ret_bool HS.out.symm, Below.refl _ _⟩
set_option maxHeartbeats 1000000 in
theorem equalM_any (v1 v2 : Value) (l m : List P.Mt) (w : World) (h1 : RowM w v1 l) (h2 : RowM w v2 m) :
    Calls Try.prog 26 #[v1, v2] w fun e w' => e = .returned (.bool (decide (l = m))) ∧ Below w.heap.size w w' := by
  obtain ⟨a1, c1, rfl, ⟨hlc1, hm1, _⟩, hcase1⟩ := h1
  obtain ⟨a2, c2, rfl, ⟨hlc2, hm2, _⟩, hcase2⟩ := h2
  unfold maxLen at hm1 hm2
  have HD : Hid ((l = m → decide (l = m) = true) ∧ (l ≠ m → decide (l = m) = false)) := ⟨fun h => by simp [h], fun h => by simp [h]⟩
  generalize decide (l = m) = ans at HD
  by_cases h : l.length = m.length
  · have hl : ((l.length : Int) != (m.length : Int)) = false := by simp [h]
    have HL := hide h
    rw [← h] at hl hlc2 ⊢
    clear h
    go_enter Try.func26, Try.ntmps26
    go_wp2
    go_loopw [13] (fun i wr => ∃ (k : Nat), k ≤ l.length ∧ i = .int .i64 k ∧ (∀ j, j < k → l[j]? = m[j]?) ∧ ∃ q, wr = w.drewN q) (fun i _ => l.length - (intOf i).toNat)
    case atStart => exact ⟨0, by omega, rfl, fun j hj => by omega, 0, rfl⟩
    case round =>
      obtain ⟨k, hk, rfl, heq, q, rfl⟩ := hrel
      have HE := hide heq
      clear heq
      by_cases hlt : k < l.length
      · rcases hcase1 with h | ⟨p1, o1, rfl, hbs1, hcell1⟩
        · rw [h] at hlt; simp at hlt
        rcases hcase2 with h | ⟨p2, o2, rfl, hbs2, hcell2⟩
        · have h3 := HL.out
          rw [h, List.length_nil] at h3
          omega
        obtain ⟨x, hx⟩ : ∃ x, l[k]? = some x := ⟨_, List.getElem?_eq_getElem hlt⟩
        obtain ⟨y, hy⟩ : ∃ y, m[k]? = some y := ⟨_, List.getElem?_eq_getElem (by have := HL.out; omega)⟩
        obtain ⟨g1, g1', g1''⟩ := RowM.at hcell1 hx
        obtain ⟨g2, g2', g2''⟩ := RowM.at hcell2 hy
        have j0 : (0 : Int) ≤ (k : Int) := by omega
        have j1 : (k : Int) < (l.length : Int) := by omega
        have HX := hide hx
        have HY := hide hy
        clear hcell1 hcell2 hx hy
        obtain ⟨xk, x0, x1⟩ := x
        obtain ⟨yk, y0, y1⟩ := y
        simp only at g1 g1' g1'' g2 g2' g2''
        cases ek : (xk == yk) with
        | true =>
          cases e0 : (x0.toList == y0.toList) with
          | true =>
            cases e1 : (x1.toList == y1.toList) with
            | true =>
              have HS : Hid ((xk, x0, x1) = (yk, y0, y1)) := by
                show _ = _
                rw [toList_eq e0, toList_eq e1, eq_of_beq ek]
              go_wp2
              go_quiet (fail)
              go_wp2
              go_roundw
              case rel =>
                refine ⟨k + 1, by omega, by go_num, fun j hj => ?_, q + nq, rfl⟩
                rcases Nat.lt_or_ge j k with h | h
                · exact HE.out j h
                · obtain rfl : j = k := by omega
                  rw [HX.out, HY.out, HS.out]
              case measure => simp [intOf]; omega
            | false =>
              have HS : Hid (ans = false) := HD.out.2 (fun h => by
                have := HX.out
                rw [h, HY.out] at this
                simp at this
                rw [this.2.2] at e1
                simp at e1)
              go_wp2
              go_quiet (fail)
              go_wp2
              go_ret
              exact ⟨ret_bool HS.out.symm, below_dn (below_dn (Below.refl _ _) _) _⟩
          | false =>
            have HS : Hid (ans = false) := HD.out.2 (fun h => by
              have := HX.out
              rw [h, HY.out] at this
              simp at this
              rw [this.2.1] at e0
              simp at e0)
            go_wp2
            go_quiet (fail)
            go_wp2
            go_ret
            exact ⟨ret_bool HS.out.symm, below_dn (below_dn (Below.refl _ _) _) _⟩
        | false =>
          have HS : Hid (ans = false) := HD.out.2 (fun h => by
            have := HX.out
            rw [h, HY.out] at this
            simp at this
            rw [this.1] at ek
            simp at ek)
          go_wp2
          go_quiet (fail)
          go_wp2
          go_ret
          exact ⟨ret_bool HS.out.symm, below_dn (below_dn (Below.refl _ _) _) _⟩
      · have HS : Hid (ans = true) := HD.out.1 (List.ext_getElem? fun j => by
          rcases Nat.lt_or_ge j k with h | h
          · exact HE.out j h
          · rw [List.getElem?_eq_none (by omega), List.getElem?_eq_none (by have := HL.out; omega)])
        have hd : decide ((k : Int) < (l.length : Int)) = false := by simp; omega
        go_wp2
        go_ret
        exact ⟨ret_bool HS.out.symm, below_dn (Below.refl _ _) _⟩
  · have hl : ((l.length : Int) != (m.length : Int)) = true := by rw [bne_iff_ne]; omega
    have HS : Hid (ans = false) := HD.out.2 (fun e => h (by rw [e]))
    clear h
    go_enter Try.func26, Try.ntmps26
    go_wp2
    go_ret
    exact ⟨ret_bool HS.out.symm, Below.refl _ _⟩
theorem sameLabels_any (v1 v2 : Value) (l m : List P.Lb) (w : World) (h1 : RowL w v1 l) (h2 : RowL w v2 m) :
    Calls Try.prog 25 #[v1, v2] w fun e w' => e = .returned (.bool (decide (l = m))) ∧ Below w.heap.size w w' := by
  have HE := hide (equalL_any v1 v2 l m w h1 h2)
  go_enter Try.func25, Try.ntmps25
  go_wp2_with (go_at_call 39; go_must (refine HE.out.mono ?_); rintro e w' ⟨rfl, hb⟩)
  go_ret
  exact ⟨rfl, hb⟩
end Go.Proofs.Ythdccpgjiogiaaa
