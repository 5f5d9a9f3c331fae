/- BitsOne holds: at all bytes the law answers true and changes nothing that was there. -/
import Derived.Test.YtimenpceegcboaaBitsBack
import Derived.Deep.RegionHeld3
namespace Go.Proofs.Ytimenpceegcboaa
open Go.ChangeShapes Go.WideShapes Go.ChangeAt Go.RowKit
set_option linter.unusedVariables false

theorem take_dich (l : List Int) (hb : Byt l) : (∃ e : Int, e ≠ 0 ∧ P.take l = (0, 0, e)) ∨
    ∃ (x : Int) (n : Nat), 1 ≤ n ∧ n ≤ l.length ∧ P.take l = (x, (n : Int), 0) ∧ P.put x = l.take n ∧ 0 ≤ x ∧ x ≤ 18446744073709551615 := by
  by_cases h : (P.take l).2.2 = 0
  · right
    obtain ⟨x, n, hn, hnl, e1, e2, e3, x0, xp, xb⟩ := P.takeL_ok l 0 0 (by omega) hb h
    have e128 : (128 : Int) ^ 9 = 9223372036854775808 := by decide
    refine ⟨x, n, hn, hnl, ?_, e3, x0, by simp at xb; omega⟩
    have e : P.take l = ((P.take l).1, (P.take l).2.1, (P.take l).2.2) := rfl
    rw [e, h]
    unfold P.take
    rw [e1, e2]; simp
  · left
    obtain ⟨e1, e2⟩ := P.takeL_err l 0 0 h
    refine ⟨(P.take l).2.2, h, ?_⟩
    have e : P.take l = ((P.take l).1, (P.take l).2.1, (P.take l).2.2) := rfl
    rw [e]
    unfold P.take
    rw [e1, e2]

set_option maxHeartbeats 4000000 in
theorem walk_BitsOne (v0 : Value) (l0 : List Int) (w : World) (hr : RowB w v0 l0) (hbt : Byt l0) (hlen : l0.length ≤ 140737488351232) :
    Calls Try.prog 6 #[v0] w fun e w' => e = .returned (.bool true) ∧ Below w.heap.size w w' := by
  rcases take_dich l0 hbt with ⟨er, her, ht⟩ | ⟨x, n, hn1, hnl, ht, hput, hx0, hx1⟩
  · have HT := hide ht
    clear ht
    have hne : (er != 0) = true := by simpa using her
    go_enter Try.func6, Try.ntmps6
    go_wp2_with (first
      | (go_at_call 27; refine (bitses_any _).mono ?_; rintro e w1 ⟨rfl, hb⟩)
      | (go_at_call 9; refine (take_any _ l0 _ (hr.below hb (Nat.le_refl _)) hbt).mono ?_; rw [HT.out]; rintro e w' ⟨rfl, rfl⟩))
    go_ret
    exact ⟨rfl, hb⟩
  · have HT := hide ht
    have HP := hide hput
    clear ht hput
    obtain ⟨a, cap, rfl, ⟨hlc, hmax, hnn⟩, hcase⟩ := hr
    rcases hcase with h | ⟨b, off, rfl, hbs, hcell⟩
    · rw [h] at hnl; simp at hnl; omega
    unfold maxLen at hmax
    have hr : RowB w (.slice (some ⟨b, off, none⟩) l0.length cap) l0 := ⟨_, cap, rfl, ⟨hlc, hmax, hnn⟩, .inr ⟨b, off, rfl, hbs, hcell⟩⟩
    have hrt := hr.front n hnl
    have hbx := byt_put x hx0 hx1
    have hbn : Byt (l0.take n) := fun y hy => hbt y (List.mem_of_mem_take hy)
    have hsame : Hid (sameL (P.put x) (l0.take n) = true) := by simp [Hid, sameL, HP.out]
    have k1 : (1 : Int) ≤ (n : Int) := by omega
    have k2 : (n : Int) ≤ (l0.length : Int) := by omega
    have k3 : (n : Int) ≤ (cap : Int) := by omega
    have k4 : (0 : Int) ≤ (n : Int) := by omega
    go_enter Try.func6, Try.ntmps6
    go_wp2_with (first
      | (go_at_call 27; refine (bitses_any _).mono ?_; rintro e w1 ⟨rfl, hb⟩)
      | (go_at_call 9; refine (take_any _ l0 _ (hr.below hb (Nat.le_refl _)) hbt).mono ?_; rw [HT.out]; rintro e w' ⟨rfl, rfl⟩))
    go_region_held3 (fun _ => True) (trivial) (first
      | (go_at_call 16; refine (put_any _ _ hx0 hx1).mono ?_; rintro e w2 ⟨v, rfl, hown, hb2⟩; replace hb := Below.next hb.drew hb2; clear hb2)
      | (go_at_call 15; refine (equal_any _ _ (P.put x) (l0.take n) _ hown.row (hrt.below hb (Nat.le_refl _)) hbx hbn).mono ?_; rw [hsame.out]; rintro e w4 ⟨rfl, rfl⟩))
    go_wp2
    go_ret
    exact ⟨rfl, hb⟩

set_option maxRecDepth 100000 in
theorem lifted_BitsOne (os : Os) (started : os.Started) (H : Type) (enc : TypeId × Value → H) :
    ReturnsInHanded {} Try.checked os 6 .any (Rows.bitsOneSpec.pre6 enc Try.prog Try.f6 Rows.bitsOneRow.domain false) (Rows.bitsOneSpec.post enc Try.prog Try.f6 false true false false) := by
  refine returnsInHanded_of_change_sized (C := Try.checked) own started (by kernel_rfl) Try.func6
    (ChangeSpec.witness6 (enc := enc) (C := Try.checked) false ⟨#[], #[.slice none 0 0], []⟩ 8 (by kernel_rfl) (by kernel_rfl) (by kernel_rfl) (by kernel_rfl)) ?_
  intro W base args ds gs before hval0 hW hcnd hsz0 _
  have hsz : (DataW.weightsEach Try.prog (Try.f6.params.toList ++ Rows.bitsOneSpec.plain.varTypes Try.prog) (ds ++ gs)).all (· ≤ reachBytes) = true := hsz0
  have hval : ∀ (j : Nat) t v, Try.f6.params[j]? = some t → args[j]? = some v → Value.okWide Try.prog W .any base t v := hval0
  have hW' := hW
  obtain ⟨p, q, hA0, hV, rfl, hfz, hnd⟩ := hW
  have hA : DataW.TrodAll enc Try.prog W 0 (fun _ => true) true Try.f6.params.toList args.toList ds p := hA0
  rw [Try.params6] at hA hval hsz
  obtain ⟨v0, vs0, d0, ds0, p0, q0, hargs, rfl, rfl, h0, r0⟩ := trodAll_cons hA
  obtain ⟨rfl, rfl, rfl⟩ := trodAll_nil r0
  obtain rfl : args = #[v0] := by cases args; simp_all
  obtain ⟨rfl, rfl⟩ := trodVars_none hV
  have k0 := h0
  have lt0 : ∀ x ∈ p0, x.block < W.heap.size := by obtain ⟨m, hm⟩ := k0; exact DataW.trod_lt m _ _ _ hm
  obtain ⟨s0, len0, cap0, rfl⟩ := okWide_slice Try.underlying23 (hval 0 23 v0 rfl rfl)
  obtain ⟨l0, row0, wf0, sh0⟩ := open_row Try.underlying23 Try.underlying5 cells5 h0
  have rc0 := row_reach hsz (j := 0) (t := 23) rfl rfl Try.underlying23 sh0
  rw [bytes5, Nat.mul_one] at rc0
  clear hA0 hval0
  refine (walk_BitsOne (.slice s0 len0 cap0) l0 W row0 (wf_bytes wf0) rc0).mono fun e W' ⟨he, bel⟩ => ?_
  subst he
  exact ⟨_, rfl, _, _, _, [], _, [], hW', trodAll_mk1 (shut_bool Try.underlying4 _), (trodAll_cons_mk (Below.trod laidOut (by kernel_rfl) (of_decide_eq_true (by kernel_rfl)) k0 bel lt0) trodAll_mk0), rfl, bel.frame _, fun h => by cases h⟩

theorem proved_BitsOne : Rows.BitsOneSaid :=
  OpenClaim.holds_of_wide 6 Try.f6 rfl rfl rfl rfl rfl rfl rfl ⟨rfl, rfl, rfl, rfl, rfl⟩ rfl rfl rfl rfl rfl (by kernel_rfl) Try.func6 (by kernel_rfl)
    (of_decide_eq_true (by kernel_rfl)) (by unfold Func.isWrapper; first | (rw [if_pos (by decide +kernel)]; kernel_rfl) | (rw [if_neg (by decide +kernel)]; exact ⟨rfl, rfl⟩))
    (fun os started H enc _ => lifted_BitsOne os started H enc)
#print axioms proved_BitsOne
end Go.Proofs.Ytimenpceegcboaa
