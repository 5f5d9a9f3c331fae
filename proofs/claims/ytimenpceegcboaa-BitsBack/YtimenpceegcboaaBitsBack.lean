/- BitsBack holds: at every two numbers and all bytes behind them the law answers true and changes nothing that was there. -/
import Derived.Test.YtimenpceegcboaaAlive
import Derived.Test.YtimenpceegcboaaTake
import Derived.Test.YtimenpceegcboaaEq
import Derived.Test.YtimenpceegcboaaBackP
namespace Go.Proofs.Ytimenpceegcboaa
open Go.ChangeShapes Go.WideShapes Go.ChangeAt Go.RowKit
set_option linter.unusedVariables false

theorem byt_put (u : Int) (h0 : 0 ≤ u) (h1 : u ≤ 18446744073709551615) : Byt (P.put u) := by
  have h : ∀ (f : Nat) (x : Int), 0 ≤ x → x < 2 * 128 ^ f → Byt (P.putL f x) := by
    intro f
    induction f with
    | zero => intro x h0 h1 y hy; simp [P.putL] at hy h1; omega
    | succ f ih =>
      intro x h0 h1
      by_cases hs : x < 128
      · rw [P.putL_small _ _ hs]; intro y hy; simp at hy; omega
      · obtain ⟨g, hg, hpl, hlt⟩ := P.putL_step (f + 1) x (by omega) h1
        obtain rfl : f = g := by omega
        rw [hpl]
        intro y hy
        rcases List.mem_cons.1 hy with rfl | hy
        · omega
        · exact ih _ (by omega) hlt y hy
  exact h 9 u h0 (by have : (128 : Int) ^ 9 = 9223372036854775808 := by decide
                     omega)
theorem Byt.app {l m : List Int} (h : Byt l) (k : Byt m) : Byt (l ++ m) := fun x hx => (List.mem_append.1 hx).elim (h x) (k x)

set_option maxHeartbeats 4000000 in
theorem walk_BitsBack (a0 a1 : Int) (v2 : Value) (l2 : List Int) (w : World) (h0 : -9223372036854775808 ≤ a0) (h0' : a0 ≤ 9223372036854775807) (h1 : 0 ≤ a1) (h1' : a1 ≤ 18446744073709551615)
    (hr : RowB w v2 l2) (hbt : Byt l2) (hlen : l2.length ≤ 140737488351232) :
    Calls Try.prog 5 #[.int .i64 a0, .int .u64 a1, v2] w fun e w' => e = .returned (.bool true) ∧ Below w.heap.size w w' := by
  have hpl := P.put_len a1
  have hbp := byt_put a1 h1 h1'
  have zr := P.zig_range a0 h0 h0'
  have zg := P.zag_range a1 h1 h1'
  have z1 := P.zag_zig a0
  have z2 := P.zig_zag a1 h1
  have ht := hide (P.take_put a1 l2 h1 h1')
  go_enter Try.func5, Try.ntmps5
  go_wp2_with (first
    | (go_at_call 27; refine (bitses_any _).mono ?_; rintro e w1 ⟨rfl, hb⟩)
    | (go_at_call 16; refine (put_any _ _ (by omega) (by omega)).mono ?_; rintro e w2 ⟨v, rfl, hown, hb2⟩; obtain ⟨a, cap, hv⟩ := hown.shape; rw [hv] at hown ⊢; clear hv; replace hb := Below.next hb hb2; clear hb2)
    | (go_at_call 28; refine (clone_any _ (P.put a1) _ hown.row (by omega)).mono ?_; rintro e w3 ⟨vc, rfl, hownc, hb3⟩; have hbz := hb.size; replace hb := Below.next hb hb3)
    | (at_builtin; go_must (refine wp_appRow rfl _ _ rfl w.heap.size _ w _ _ _ (P.put a1) l2 hownc (hr.below hb (Nat.le_refl _)) hb hbz rfl rfl (by omega) hb3.size ?_); intro vd w4 hownd hbd _ _)
    | (go_at_call 9; refine (take_any _ (P.put a1 ++ l2) _ hownd.row (hbp.app hbt)).mono ?_; rw [ht.out]; rintro e w' ⟨rfl, rfl⟩)
    | (go_at_call 11; refine (zig_any _ _ (by omega) (by omega)).mono ?_; rintro e w' ⟨rfl, rfl⟩)
    | (go_at_call 13; refine (zag_any _ _ (by omega) (by omega)).mono ?_; rintro e w' ⟨rfl, rfl⟩))
  go_ret
  exact ⟨rfl, hbd⟩

set_option maxRecDepth 100000 in
theorem lifted_BitsBack (os : Os) (started : os.Started) (H : Type) (enc : TypeId × Value → H) :
    ReturnsInHanded {} Try.checked os 5 .any (Rows.bitsBackSpec.pre6 enc Try.prog Try.f5 Rows.bitsBackRow.domain false) (Rows.bitsBackSpec.post enc Try.prog Try.f5 false true false false) := by
  refine returnsInHanded_of_change_sized (C := Try.checked) own started (by kernel_rfl) Try.func5
    (ChangeSpec.witness6 (enc := enc) (C := Try.checked) false ⟨#[], #[.int .i64 0, .int .u64 0, .slice none 0 0], []⟩ 8 (by kernel_rfl) (by kernel_rfl) (by kernel_rfl) (by kernel_rfl)) ?_
  intro W base args ds gs before hval0 hW hcnd hsz0 _
  have hsz : (DataW.weightsEach Try.prog (Try.f5.params.toList ++ Rows.bitsBackSpec.plain.varTypes Try.prog) (ds ++ gs)).all (· ≤ reachBytes) = true := hsz0
  have hval : ∀ (j : Nat) t v, Try.f5.params[j]? = some t → args[j]? = some v → Value.okWide Try.prog W .any base t v := hval0
  have hW' := hW
  obtain ⟨p, q, hA0, hV, rfl, hfz, hnd⟩ := hW
  have hA : DataW.TrodAll enc Try.prog W 0 (fun _ => true) true Try.f5.params.toList args.toList ds p := hA0
  rw [Try.params5] at hA hval hsz
  obtain ⟨v0, vs0, d0, ds0, p0, q0, hargs, rfl, rfl, h0, r0⟩ := trodAll_cons hA
  obtain ⟨v1, vs1, d1, ds1, p1, q1, rfl, rfl, rfl, h1, r1⟩ := trodAll_cons r0
  obtain ⟨v2, vs2, d2, ds2, p2, q2, rfl, rfl, rfl, h2, r2⟩ := trodAll_cons r1
  obtain ⟨rfl, rfl, rfl⟩ := trodAll_nil r2
  obtain rfl : args = #[v0, v1, v2] := by cases args; simp_all
  obtain ⟨rfl, rfl⟩ := trodVars_none hV
  have k0 := h0
  have lt0 : ∀ x ∈ p0, x.block < W.heap.size := by obtain ⟨m, hm⟩ := k0; exact DataW.trod_lt m _ _ _ hm
  obtain ⟨a0, rfl, rfl, rfl, w0⟩ := open_int Try.underlying2 (hval 0 2 v0 rfl rfl) h0
  have b0 := bounds_i64 w0
  have k1 := h1
  have lt1 : ∀ x ∈ p1, x.block < W.heap.size := by obtain ⟨m, hm⟩ := k1; exact DataW.trod_lt m _ _ _ hm
  obtain ⟨a1, rfl, rfl, rfl, w1⟩ := open_int Try.underlying22 (hval 1 22 v1 rfl rfl) h1
  have b1 := bounds_u64 w1
  have k2 := h2
  have lt2 : ∀ x ∈ p2, x.block < W.heap.size := by obtain ⟨m, hm⟩ := k2; exact DataW.trod_lt m _ _ _ hm
  obtain ⟨s2, len2, cap2, rfl⟩ := okWide_slice Try.underlying23 (hval 2 23 v2 rfl rfl)
  obtain ⟨l2, row2, wf2, sh2⟩ := open_row Try.underlying23 Try.underlying5 cells5 h2
  have rc2 := row_reach hsz (j := 2) (t := 23) rfl rfl Try.underlying23 sh2
  rw [bytes5, Nat.mul_one] at rc2
  clear hA0 hval0
  refine (walk_BitsBack a0 a1 (.slice s2 len2 cap2) l2 W b0.1 b0.2 b1.1 b1.2 row2 (wf_bytes wf2) rc2).mono fun e W' ⟨he, bel⟩ => ?_
  subst he
  exact ⟨_, rfl, _, _, _, [], _, [], hW', trodAll_mk1 (shut_bool Try.underlying4 _), (trodAll_cons_mk (Below.trod laidOut (by kernel_rfl) (of_decide_eq_true (by kernel_rfl)) k0 bel lt0) (trodAll_cons_mk (Below.trod laidOut (by kernel_rfl) (of_decide_eq_true (by kernel_rfl)) k1 bel lt1) (trodAll_cons_mk (Below.trod laidOut (by kernel_rfl) (of_decide_eq_true (by kernel_rfl)) k2 bel lt2) trodAll_mk0))), rfl, bel.frame _, fun h => by cases h⟩

theorem proved_BitsBack : Rows.BitsBackSaid :=
  OpenClaim.holds_of_wide 5 Try.f5 rfl rfl rfl rfl rfl rfl rfl ⟨rfl, rfl, rfl, rfl, rfl⟩ rfl rfl rfl rfl rfl (by kernel_rfl) Try.func5 (by kernel_rfl)
    (of_decide_eq_true (by kernel_rfl)) (by unfold Func.isWrapper; first | (rw [if_pos (by decide +kernel)]; kernel_rfl) | (rw [if_neg (by decide +kernel)]; exact ⟨rfl, rfl⟩))
    (fun os started H enc _ => lifted_BitsBack os started H enc)
#print axioms proved_BitsBack
end Go.Proofs.Ytimenpceegcboaa
