/- RollTells holds: at all samples and widths the law answers true and changes nothing that was there. -/
import Derived.Test.YtgfjhcjplhlonaaRefWe
namespace Go.Proofs.Ytgfjhcjplhlonaa
open Go.ChangeShapes Go.WideShapes Go.ChangeAt Go.RowKit
set_option linter.unusedVariables false
theorem walk_RollTells (v : Value) (l : List (Int × Int)) (wd : Int) (w : World) (hr : RowS w v l) (_ : P.I64s l) (_ : l.length * 16 ≤ 140737488351232) (_ : -9223372036854775808 ≤ wd) (_ : wd ≤ 9223372036854775807) :
    Calls Try.prog 3 #[v, .int .i64 wd] w fun e w' => e = .returned (.bool true) ∧ Below w.heap.size w w' := by
  have HR := hide (roll_any v l wd w hr)
  have HF := hide (fun (w' : World) (hb : Below w.heap.size w w') => samplesFault_any v l w' (hr.below hb (Nat.le_refl _)))
  by_cases hc : P.chk l = 0
  · rw [hc] at HF
    have hl := (P.chk_zero hc).1
    have HO := hide (fun (w' : World) (hb : Below w.heap.size w w') => onePer_any v l w' (hr.below hb (Nat.le_refl _)) hl)
    have HW := hide (fun v' w' (h : RowW w' v' (P.ones l)) => wider_any v' (P.ones l) wd w' h (by rw [P.ones_length]; exact hl) (fun x hx => by obtain ⟨s, _, rfl⟩ := List.mem_map.1 hx; simp [P.one]))
    rw [(P.rout_roout hc).1, (P.rout_roout hc).2] at HW
    obtain ⟨a, cap, rfl⟩ := hr.shp
    clear hr hc
    generalize P.roerr l wd = c at *
    generalize P.roout l wd = A at *
    generalize P.ones l = U at *
    have t2 : (c == c) = true := by simp
    go_enter Try.func3, Try.ntmps3
    go_wp2_with fail
    refine HR.out.mono ?_
    rintro e w1 ⟨va, rfl, owna, hb⟩
    obtain ⟨aa, ca, hva⟩ := OwnW.shp owna
    rw [hva] at owna ⊢
    clear hva
    go_wp2_with fail
    refine (HF.out _ hb).mono ?_
    rintro e w2 ⟨rfl, hb2⟩
    replace owna := OwnX.below owna hb2 (Nat.le_refl _)
    replace hb := Below.next hb hb2
    clear hb2
    go_wp2_with fail
    refine (HO.out _ hb).mono ?_
    rintro e w3 ⟨vo, rfl, owno, hb3⟩
    obtain ⟨ao, co, hvo⟩ := OwnW.shp owno
    rw [hvo] at owno ⊢
    replace owna := OwnX.below owna hb3 (Nat.le_refl _)
    replace hb := Below.next hb hb3
    clear hb3 hvo
    go_wp2_with fail
    refine (HW.out _ _ (OwnW.row owno)).mono ?_
    rintro e w4 ⟨vb, rfl, ownb, hb4⟩
    obtain ⟨ab, cb, hvb⟩ := OwnW.shp ownb
    rw [hvb] at ownb ⊢
    replace owna := OwnX.below owna hb4 (Nat.le_refl _)
    replace hb := Below.next hb hb4
    clear hb4 hvb
    go_wp2_with (go_at_call 13; go_must (refine (sameWin_self _ _ A _ (OwnW.row owna) (OwnW.row ownb)).mono ?_); rintro e w5 ⟨rfl, hb5⟩)
    go_ret
    exact ⟨rfl, Below.next hb hb5⟩
  · have h1 : P.roerr l wd = P.chk l := by unfold P.roerr; rw [if_pos hc]
    have h2 : P.roout l wd = [] := by unfold P.roout; rw [h1, if_neg hc]
    rw [h1, h2] at HR
    have ht : (P.chk l != 0) = true := by simpa using hc
    have t2 : (P.chk l == P.chk l) = true := by simp
    obtain ⟨a, cap, rfl⟩ := hr.shp
    clear hr hc h1 h2
    generalize P.chk l = c at *
    go_enter Try.func3, Try.ntmps3
    go_wp2_with fail
    refine HR.out.mono ?_
    rintro e w1 ⟨va, rfl, owna, hb⟩
    obtain ⟨aa, ca, hva⟩ := OwnW.shp owna
    rw [hva]
    clear hva owna
    go_wp2_with fail
    refine (HF.out _ hb).mono ?_
    rintro e w2 ⟨rfl, hb2⟩
    replace hb := Below.next hb hb2
    go_wp2_with fail
    go_ret
    exact ⟨rfl, hb⟩

set_option maxRecDepth 100000 in
theorem lifted_RollTells (os : Os) (started : os.Started) (H : Type) (enc : TypeId × Value → H) :
    ReturnsInHanded {} Try.checked os 3 .any (Rows.rollTellsSpec.pre6 enc Try.prog Try.f3 Rows.rollTellsRow.domain false) (Rows.rollTellsSpec.post enc Try.prog Try.f3 false true false false) := by
  refine returnsInHanded_of_change_sized (C := Try.checked) own started (by kernel_rfl) Try.func3
    (ChangeSpec.witness6 (enc := enc) (C := Try.checked) false ⟨#[], #[.slice none 0 0, .int .i64 0], []⟩ 8 (by kernel_rfl) (by kernel_rfl) (by kernel_rfl) (by kernel_rfl)) ?_
  intro W base args ds gs before hval0 hW hcnd hsz0  _
  have hsz : (DataW.weightsEach Try.prog (Try.f3.params.toList ++ Rows.rollTellsSpec.plain.varTypes Try.prog) (ds ++ gs)).all (· ≤ reachBytes) = true := hsz0
  have hval : ∀ (j : Nat) t v, Try.f3.params[j]? = some t → args[j]? = some v → Value.okWide Try.prog W .any base t v := hval0
  have hW' := hW
  obtain ⟨p, q, hA0, hV, rfl, hfz, hnd⟩ := hW
  have hA : DataW.TrodAll enc Try.prog W 0 (fun _ => true) true Try.f3.params.toList args.toList ds p := hA0
  rw [Try.params3] at hA hval hsz
  obtain ⟨v0, vs0, d0, ds0, p0, q0, hargs, rfl, rfl, h0, r0⟩ := trodAll_cons hA
  obtain ⟨v1, vs1, d1, ds1, p1, q1, rfl, rfl, rfl, h1, r1⟩ := trodAll_cons r0
  obtain ⟨rfl, rfl, rfl⟩ := trodAll_nil r1
  obtain rfl : args = #[v0, v1] := by cases args; simp_all
  obtain ⟨rfl, rfl⟩ := trodVars_none hV
  have k0 := h0
  have lt0 : ∀ x ∈ p0, x.block < W.heap.size := by obtain ⟨m, hm⟩ := k0; exact DataW.trod_lt m _ _ _ hm
  obtain ⟨s0, len0, cap0, rfl⟩ := okWide_slice Try.underlying22 (hval 0 22 v0 rfl rfl)
  obtain ⟨l0, row0, wf0, sh0⟩ := open_samples h0
  have rc0 := row_reachN hsz (j := 0) (t := 22) rfl rfl Try.underlying22 sh0
  rw [bytes40] at rc0
  have k1 := h1
  have lt1 : ∀ x ∈ p1, x.block < W.heap.size := by obtain ⟨m, hm⟩ := k1; exact DataW.trod_lt m _ _ _ hm
  obtain ⟨a1, rfl, rfl, rfl, w1⟩ := open_int Try.underlying2 (hval 1 2 v1 rfl rfl) h1
  have b1 := bounds_i64 w1
  clear hA0 hval0
  refine (walk_RollTells (.slice s0 len0 cap0) l0 a1 W row0 wf0 rc0 b1.1 b1.2).mono fun e W' ⟨he, bel⟩ => ?_
  subst he
  exact ⟨_, rfl, _, _, _, [], _, [], hW', trodAll_mk1 (shut_bool Try.underlying4 _), (trodAll_cons_mk (Below.trod laidOut (by kernel_rfl) (of_decide_eq_true (by kernel_rfl)) k0 bel lt0) (trodAll_cons_mk (Below.trod laidOut (by kernel_rfl) (of_decide_eq_true (by kernel_rfl)) k1 bel lt1) trodAll_mk0)), rfl, bel.frame _, fun h => by cases h⟩

theorem proved_RollTells : Rows.RollTellsSaid :=
  OpenClaim.holds_of_wide 3 Try.f3 rfl rfl rfl rfl rfl rfl rfl ⟨rfl, rfl, rfl, rfl, rfl⟩ rfl rfl rfl rfl rfl (by kernel_rfl) Try.func3 (by kernel_rfl)
    (of_decide_eq_true (by kernel_rfl)) (by unfold Func.isWrapper; first | (rw [if_pos (by decide +kernel)]; kernel_rfl) | (rw [if_neg (by decide +kernel)]; exact ⟨rfl, rfl⟩))
    (fun os started H enc _ => lifted_RollTells os started H enc)
#print axioms proved_RollTells

end Go.Proofs.Ytgfjhcjplhlonaa
