/- Several texts in one. -/
import Derived.Test.YtcaidfffmllfeaaHeavyDAll
/- What Count answers. -/
namespace Go.Proofs.Ytcaidfffmllfeaa
open Go.RowKit
set_option linter.unusedVariables false
namespace P
open Classical in
/-- The error of a key that is asked for. -/
noncomputable def cnE (s : Hv) (key : ByteArray) : Int := if ¬ Good s then 4 else if 40 < key.size then 2 else 0
/-- What is told of a key. -/
noncomputable def cnN (s : Hv) (key : ByteArray) : Int := if cnE s key = 0 then look s.l key else 0
theorem look_take {l : List Ct} (ha : Asc l) {k : Nat} {x : Ct} (hx : l[k]? = some x) : look l x.1 = x.2 := look_mem ha (List.mem_of_getElem? hx)
theorem look_absent {l : List Ct} {key : ByteArray} (h : ∀ j x, j < l.length → l[j]? = some x → x.1 ≠ key) : look l key = 0 := look_none fun x hx => by
  obtain ⟨j, hj, e⟩ := List.getElem_of_mem hx
  exact h j x hj (by rw [List.getElem?_eq_getElem hj, e])
end P
set_option maxRecDepth 100000 in
set_option maxHeartbeats 2000000 in
theorem Count_any (v : Value) (s : P.Hv) (key : ByteArray) (w : World) (hr : RowC w v s.l) (hi : HvI s) (hs : key.size ≤ 9223372036854775807) :
    Calls Try.prog 11 #[aggH v s, .string key] w fun e w' => e = .returned (.tuple #[.int .i64 (P.cnN s key), .int .i64 (P.cnE s key)]) ∧ Below w.heap.size w w' := by
  have HK := hide (fun wx (hb : Below w.heap.size w wx) => check_any v s wx (hr.below hb (Nat.le_refl _)) hi)
  have HB : Hid (Below w.heap.size w (w.alloc (.cells #[.int .i64 s.k, v, .int .i64 s.n, .int .i64 s.off] 24))) := (Below.refl _ w).alloc (Nat.le_refl _) _
  have HX : Hid (BoxH (w.alloc (.cells #[.int .i64 s.k, v, .int .i64 s.n, .int .i64 s.off] 24)) w.heap.size v s) := BoxH.new w v s
  by_cases hg : P.Good s
  · rw [P.chkH_ok hg] at HK
    by_cases h1 : 40 < key.size
    · have hd1 : decide (40 < (key.size : Int)) = true := by simp; omega
      have hE : P.cnE s key = 2 := by unfold P.cnE; rw [if_neg (not_not_intro hg), if_pos h1]
      have hN : P.cnN s key = 0 := by unfold P.cnN; rw [hE]; rfl
      rw [hE, hN]
      clear hr hi hE hN hg h1
      go_enter Try.func11, Try.ntmps11
      go_wp2_with (go_at_call 14; go_must (refine (HK.out _ HB.out).mono ?_); rintro e w1 ⟨rfl, hb1⟩)
      go_ret2
      exact ⟨rfl, Below.next HB.out hb1⟩
    · have hd1 : decide (40 < (key.size : Int)) = false := by simp; omega
      have hE : P.cnE s key = 0 := by unfold P.cnE; rw [if_neg (not_not_intro hg), if_neg h1]
      have hN : P.cnN s key = P.look s.l key := by unfold P.cnN; rw [hE]; rfl
      rw [hE, hN]
      have HL : Hid (∀ (k : Nat) (x : P.Ct), s.l[k]? = some x → x.1 = key → P.look s.l key = x.2) := fun k x hx e => by rw [← e]; exact P.look_take hg.ok.2 hx
      have HA : Hid ((∀ (j : Nat) (x : P.Ct), j < s.l.length → s.l[j]? = some x → x.1 ≠ key) → P.look s.l key = 0) := fun h => P.look_absent h
      generalize P.look s.l key = A at *
      obtain ⟨a, cap, rfl, ⟨hlc, hmax, hnn⟩, hcase⟩ := hr
      unfold maxLen at hmax
      clear hi hE hN hg h1
      go_enter Try.func11, Try.ntmps11
      go_wp2_with (go_at_call 14; go_must (refine (HK.out _ HB.out).mono ?_); rintro e w1 ⟨rfl, hb1⟩; have x1 := HX.out.below hb1; obtain ⟨c0, c1, c2, c3⟩ := x1.cells; have HB1 := hide (Below.next HB.out hb1))
      clear HK HB HX x1 hb1 c0 c1 c2 c3
      go_loopw [20] (fun i wr => ∃ (k : Nat), k ≤ s.l.length ∧ i = .int .i64 k ∧ (∀ (j : Nat) (x : P.Ct), j < k → s.l[j]? = some x → x.1 ≠ key) ∧ Below w.heap.size w wr) (fun i _ => s.l.length - (intOf i).toNat)
      case atStart => exact ⟨0, by omega, rfl, fun j x hj => by omega, HB1.out⟩
      case round =>
        obtain ⟨k, hk, rfl, heq, hB⟩ := hrel
        have HE := hide heq
        clear heq
        by_cases hlt : k < s.l.length
        · rcases hcase with h | ⟨b, off, rfl, hbs, hcell⟩
          · rw [h] at hlt; simp at hlt
          have j0 : (0 : Int) ≤ (k : Int) := by omega
          have j1 : (k : Int) < (s.l.length : Int) := by omega
          obtain ⟨x, hx⟩ : ∃ x, s.l[k]? = some x := ⟨_, List.getElem?_eq_getElem hlt⟩
          obtain ⟨g0, g1⟩ := RowC.at hcell hx
          have q0 := (hB.cell (p := ⟨b, off + k * 2, none⟩) hbs).trans g0
          have q1 := (hB.cell (p := ⟨b, off + k * 2 + 1, none⟩) hbs).trans g1
          have HX := hide hx
          obtain ⟨xk, xn⟩ := x
          simp only at q0 q1
          clear hcell g0 g1 hx
          have hBW := hide (hB.alloc hB.size (.cells #[.string xk, .int .i64 xn] 50))
          cases hke : (xk.toList == key.toList) with
          | true =>
            have HV : Hid (A = xn) := HL.out k (xk, xn) HX.out (P.ba_ext (eq_of_beq hke))
            clear HL HA
            go_wp2
            go_ret2
            exact ⟨by rw [HV.out] <;> rfl, hBW.out⟩
          | false =>
            have HNe : Hid (xk ≠ key) := fun e => by subst e; simp at hke
            go_wp2
            go_roundw
            case rel =>
              refine ⟨k + 1, by omega, by go_num, fun j y hj hy => ?_, hBW.out⟩
              rcases Nat.lt_or_ge j k with h | h
              · exact HE.out j y h hy
              · obtain rfl : j = k := by omega
                rw [HX.out] at hy; simp at hy; subst hy
                exact HNe.out
            case measure => simp [intOf]; omega
        · have hd : decide ((k : Int) < (s.l.length : Int)) = false := by simp; omega
          have HV : Hid (A = 0) := HA.out fun j x hj hx => HE.out j x (by omega) hx
          go_wp2
          go_ret2
          exact ⟨by rw [HV.out] <;> rfl, hB⟩
  · rw [P.chkH_not hg] at HK
    have hE : P.cnE s key = 4 := by unfold P.cnE; rw [if_pos hg]
    have hN : P.cnN s key = 0 := by unfold P.cnN; rw [hE]; rfl
    rw [hE, hN]
    clear hr hi hE hN hg
    go_enter Try.func11, Try.ntmps11
    go_wp2_with (go_at_call 14; go_must (refine (HK.out _ HB.out).mono ?_); rintro e w1 ⟨rfl, hb1⟩)
    go_ret2
    exact ⟨rfl, Below.next HB.out hb1⟩
end Go.Proofs.Ytcaidfffmllfeaa
