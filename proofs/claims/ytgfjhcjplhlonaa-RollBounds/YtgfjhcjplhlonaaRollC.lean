/- What sound, alone, begin and both answer. -/
import Derived.Test.YtgfjhcjplhlonaaKitW
namespace Go.Proofs.Ytgfjhcjplhlonaa
open Go.RowKit
set_option linter.unusedVariables false
theorem ret_bool {a b : Bool} (h : a = b) : Ending.returned (.bool a) = .returned (.bool b) := by rw [h]
theorem ok_eq {x : P.Wn} {a : Bool} (h : a = true ↔ P.okW x) : a = P.okB x := by rw [Bool.eq_iff_iff, P.okB_iff, h]
theorem bel_a (w : World) (o : Obj) : Below w.heap.size w (w.alloc o) := (Below.refl _ _).alloc (Nat.le_refl _) o
set_option maxHeartbeats 1000000 in
theorem sound_any (x : P.Wn) (w : World) : Calls Try.prog 33 #[wnV x] w fun e w' => e = .returned (.bool (P.okB x)) ∧ Below w.heap.size w w' := by
  obtain ⟨t, n, s, mn, mx, f, l⟩ := x
  have HA := hide (fun a h => @ok_eq ⟨t, n, s, mn, mx, f, l⟩ a h)
  generalize P.okB ⟨t, n, s, mn, mx, f, l⟩ = ans at *
  go_enter Try.func33, Try.ntmps33
  go_wp2
  all_goals
    go_ret
    refine ⟨ret_bool (HA.out _ ?_), bel_a _ _⟩
    simp only [P.okW, P.mmOk, decide_eq_true_eq, Bool.false_eq_true, eq_self]
    first | omega | (rw [false_iff]; omega) | (rw [true_iff]; omega)
theorem ret_wn {a0 a1 a2 a3 a4 a5 a6 : Int} {x : P.Wn} (h0 : a0 = x.t) (h1 : a1 = x.n) (h2 : a2 = x.s) (h3 : a3 = x.mn) (h4 : a4 = x.mx) (h5 : a5 = x.f) (h6 : a6 = x.l) :
    Ending.returned (.agg #[.int .i64 a0, .int .i64 a1, .int .i64 a2, .int .i64 a3, .int .i64 a4, .int .i64 a5, .int .i64 a6]) = .returned (wnV x) := by subst h0 h1 h2 h3 h4 h5 h6; rfl
theorem rem_neg {t w : Int} (hw : 1 ≤ w) (h : t.tmod w < 0) : t % w = t.tmod w + w := by
  have h1 := Int.mul_tdiv_add_tmod t w
  have h2 := Int.lt_tmod_of_pos t (show 0 < w by omega)
  have h3 : (t.tmod w + w) % w = t.tmod w + w := Int.emod_eq_of_lt (by omega) (by omega)
  have h4 : t % w = t.tmod w % w := by conv => lhs; rw [← h1, Int.add_comm, Int.add_mul_emod_self_left]
  rw [h4, ← h3, Int.add_emod_right]
theorem rem_pos {t w : Int} (hw : 1 ≤ w) (h : 0 ≤ t.tmod w) : t % w = t.tmod w := by
  have h1 := Int.mul_tdiv_add_tmod t w
  have h2 := Int.tmod_lt_of_pos t (show 0 < w by omega)
  have h4 : t % w = t.tmod w % w := by conv => lhs; rw [← h1, Int.add_comm, Int.add_mul_emod_self_left]
  rw [h4]; exact Int.emod_eq_of_lt h h2
theorem begin_any (t w : Int) (W : World) (ht : -9223372036854775808 ≤ t ∧ t ≤ 9223372036854775807) (hw : 1 ≤ w ∧ w ≤ 1099511627776) : Calls Try.prog 34 #[.int .i64 t, .int .i64 w] W fun e w' => e = .returned (.int .i64 (IntKind.i64.wrap (P.beg w t))) ∧ w' = W := by
  have HN := hide (@rem_neg t w hw.1)
  have HP := hide (@rem_pos t w hw.1)
  go_enter Try.func34, Try.ntmps34
  go_wp2
  · rename_i h
    go_ret
    refine ⟨ret_int ?_, rfl⟩
    have := HN.out h
    simp only [P.beg, IntKind.wrap_i64, wrap64]; omega
  · rename_i h
    go_ret
    refine ⟨ret_int ?_, rfl⟩
    have := HP.out h
    simp only [P.beg, IntKind.wrap_i64, wrap64]; omega
theorem top2 (w : World) (a b : Obj) : ((w.alloc a).alloc b).heap[w.heap.size + 1]? = some b := by
  have h := heap_alloc_new (w.alloc a) b
  simpa using h
theorem top3 (w : World) (a b c : Obj) : (((w.alloc a).alloc b).alloc c).heap[w.heap.size + 1 + 1]? = some c := by
  have h := heap_alloc_new ((w.alloc a).alloc b) c
  simpa using h
theorem both_any (x y : P.Wn) (w : World) : Calls Try.prog 35 #[wnV x, wnV y] w fun e w' => e = .returned (wnV (P.bo x y)) ∧ Below w.heap.size w w' := by
  go_enter Try.func35, Try.ntmps35
  go_wp2
  all_goals
    refine bodyPost_ret (results_cell_row rfl _ _ _ _ _ _ _ rfl (top3 _ _ _ _) Try.underlying34 rfl (by kernel_rfl)) rfl ?_
    refine ⟨ret_wn rfl ?_ ?_ ?_ ?_ rfl rfl, ((bel_a _ _).alloc (by simp) _).alloc (by simp; omega) _⟩ <;> first | (simp only [P.bo, IntKind.wrap_i64, wrap64]; done) | (simp only [P.bo]; omega)
theorem alone_any (s0 s1 : Int) (w : World) : Calls Try.prog 23 #[.agg #[.int .i64 s0, .int .i64 s1]] w fun e w' => e = .returned (wnV (P.one (s0, s1))) ∧ Below w.heap.size w w' := by
  go_enter Try.func23, Try.ntmps23
  go_wp2
  refine bodyPost_ret (results_cell_row rfl _ _ _ _ _ _ _ rfl (top2 _ _ _) Try.underlying34 rfl (by kernel_rfl)) rfl ?_
  exact ⟨rfl, (bel_a _ _).alloc (by simp) _⟩
set_option maxHeartbeats 1000000 in
/-- crowded. -/
theorem crowded_any (v : Value) (l : List P.Wn) (w : World) (hr : RowW w v l) : Calls Try.prog 32 #[v] w fun e w' => e = .returned (.bool (P.crowd l)) ∧ Below w.heap.size w w' := by
  obtain ⟨a, cap, rfl, ⟨hlc, hmax, hnn⟩, hcase⟩ := hr
  unfold maxLen at hmax
  have HY := hide (fun (x : P.Wn) (k : Nat) (hx : l[k]? = some x) (h : 1000000000 < x.n) => show P.crowd l = true from by unfold P.crowd; exact List.any_eq_true.2 ⟨x, List.mem_of_getElem? hx, by simpa using h⟩)
  have HN := hide (fun (h : ∀ k x, k < l.length → l[k]? = some x → x.n ≤ 1000000000) => show P.crowd l = false from P.crowd_false fun x hx => by obtain ⟨k, hk, e⟩ := List.mem_iff_getElem.1 hx; exact h k x hk (by rw [List.getElem?_eq_getElem hk, e]))
  generalize P.crowd l = ans at *
  go_enter Try.func32, Try.ntmps32
  go_wp2
  go_loopw [7] (fun i wr => ∃ (k : Nat), k ≤ l.length ∧ i = .int .i64 k ∧ (∀ j x, j < k → l[j]? = some x → x.n ≤ 1000000000) ∧ Below w.heap.size w wr) (fun i _ => l.length - (intOf i).toNat)
  case atStart => exact ⟨0, by omega, rfl, fun j x hj => by omega, Below.refl _ _⟩
  case round =>
    obtain ⟨k, hk, rfl, heq, hB⟩ := hrel
    have HE := hide heq
    clear heq
    by_cases hlt : k < l.length
    · rcases hcase with h | ⟨b, off, rfl, hbs, hcell⟩
      · rw [h] at hlt; simp at hlt
      have j0 : (0 : Int) ≤ (k : Int) := by omega
      have j1 : (k : Int) < (l.length : Int) := by omega
      obtain ⟨x, hx⟩ : ∃ x, l[k]? = some x := ⟨_, List.getElem?_eq_getElem hlt⟩
      obtain ⟨q0, q1, q2, q3, q4, q5, q6⟩ := (RowW.at hcell hx).below hB hbs
      have HX := hide hx
      clear hcell hx
      obtain ⟨t, n, s, mn, mx, f, l'⟩ := x
      simp only at q0 q1 q2 q3 q4 q5 q6
      by_cases hn : 1000000000 < n
      · have HA := hide (HY.out _ k HX.out hn)
        go_wp2
        go_ret
        exact ⟨ret_bool HA.out.symm, hB.alloc hB.size _⟩
      · have hd : decide (1000000000 < n) = false := by simpa using hn
        have HM := hide hn
        clear hn
        go_wp2
        go_roundw
        case rel =>
          refine ⟨k + 1, by omega, by go_num, fun j y hj hy => ?_, hB.alloc hB.size _⟩
          rcases Nat.lt_or_ge j k with h | h
          · exact HE.out j y h hy
          · obtain rfl : j = k := by omega
            have := HX.out
            rw [hy] at this
            cases this
            have := HM.out
            simp only; omega
        case measure => simp [intOf]; omega
    · have hd : decide ((k : Int) < (l.length : Int)) = false := by simp; omega
      have HA := hide (HN.out fun j x hj hx => HE.out j x (by omega) hx)
      go_wp2
      go_ret
      exact ⟨ret_bool HA.out.symm, hB⟩
end Go.Proofs.Ytgfjhcjplhlonaa
