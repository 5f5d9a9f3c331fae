/- LabelFront: what is so, begins so; what begins so, has it. -/
import Derived.Test.YthdccpgjiogiaaaLabelX
namespace Go.Proofs.Ythdccpgjiogiaaa
open Go.RowKit Go.ChangeShapes Go.WideShapes Go.ChangeAt Go.Joins
set_option linter.unusedVariables false
set_option maxHeartbeats 2000000 in
theorem walk_LabelFront (v : Value) (l : List P.Lb) (n x : ByteArray) (w : World) (hr : RowL w v l) (hl : LbOk l) (hrc : l.length * 32 ≤ 140737488351232) (hn : n.size ≤ 140737488351232) (hx : x.size ≤ 140737488351232) (mx : Int) (hm : w.cell? ⟨0, 0, none⟩ = some (.int .i64 mx)) :
    Calls Try.prog 8 #[v, .string n, .string x] w fun e w' => e = .returned (.bool true) ∧ Below w.heap.size w w' := by
  have HL := hide (labels_any w)
  have HF := hide (fun (k : Int) (hk : P.Kd k) w' hb => fits_one v l (k, n, x) w w' hr hl ⟨⟨by have := hk.1; omega, by have := hk.2; omega⟩, by show n.size ≤ _; omega, by show x.size ≤ _; omega⟩ mx hm hb)
  have HF1 := hide (HF.out 1 (by decide))
  have HF3 := hide (HF.out 3 (by decide))
  have HF4 := hide (HF.out 4 (by decide))
  simp only at HF1 HF3 HF4
  rw [P.fitsE_kind (k := 3) (k' := 1) (by decide) (by decide)] at HF3
  rw [P.fitsE_kind (k := 4) (k' := 1) (by decide) (by decide)] at HF4
  have HT := hide (P.three l n x)
  generalize P.fitsE l [(1, n, x)] = er at HF1 HF3 HF4 HT
  generalize P.fitsB l [(1, n, x)] = b1 at HF1 HT
  generalize P.fitsB l [(3, n, x)] = b3 at HF3 HT
  generalize P.fitsB l [(4, n, x)] = b4 at HF4 HT
  clear HF
  obtain ⟨ca, cp, rfl, hrest⟩ := hr
  clear hrest
  by_cases he : er = 0
  · obtain ⟨t1, t2, t3⟩ := HT.out.2 he
    subst he
    have HG := hide (fun w => good_zeros (.slice (some ⟨w.heap.size, 0, none⟩) 2 2) 2 (w.alloc (.cells #[.int .i64 0, .int .i64 0] 23)) (row_two_zeros w _))
    have ht1 := hide t1
    have ht2 := hide t2
    have ht3 := hide t3
    clear t1 t2 t3 HT
    go_enter Try.func8, Try.ntmps8
    go_wp2_with fail
    refine HL.out.mono ?_
    rintro e w1 ⟨rfl, hb1⟩
    go_wp2_with fail
    refine (HF1.out _ hb1).mono ?_
    rintro e w2 ⟨rfl, hc2⟩
    have hb2 := Below.next hb1 hc2
    go_wp2_with fail
    refine (HF3.out _ hb2).mono ?_
    rintro e w3 ⟨rfl, hc3⟩
    have hb3 := Below.next hb2 hc3
    go_wp2_with fail
    refine (HF4.out _ hb3).mono ?_
    rintro e w4 ⟨rfl, hc4⟩
    have hb4 := Below.next hb3 hc4
    clear hc2 hc3 hc4 hb1 hb2 hb3 HF1 HF3 HF4 HL
    go_wp2_with (go_at_call 27; refine (HG.out _).mono ?_; rintro e w' ⟨rfl, rfl⟩)
    all_goals
      go_ret
      refine ⟨ret_bool ?_, hb4.alloc hb4.size _⟩
      have h1 := ht1.out
      have h2 := ht2.out
      have h3 := ht3.out
      cases b1 <;> cases b3 <;> cases b4 <;> first | rfl | contradiction | (exact absurd (h1 rfl) (by decide)) | (exact absurd (h2 rfl) (by decide)) | (exact absurd (h3 (by assumption)) (by decide)) | (exact h3 (List.isEmpty_iff.2 (by assumption)))
  · obtain ⟨rfl, rfl, rfl⟩ := HT.out.1 he
    have hen : (er == 0) = false := by simp [he]
    clear he HT
    go_enter Try.func8, Try.ntmps8
    go_wp2_with fail
    refine HL.out.mono ?_
    rintro e w1 ⟨rfl, hb1⟩
    go_wp2_with fail
    refine (HF1.out _ hb1).mono ?_
    rintro e w2 ⟨rfl, hc2⟩
    have hb2 := Below.next hb1 hc2
    go_wp2_with fail
    refine (HF3.out _ hb2).mono ?_
    rintro e w3 ⟨rfl, hc3⟩
    have hb3 := Below.next hb2 hc3
    go_wp2_with fail
    refine (HF4.out _ hb3).mono ?_
    rintro e w4 ⟨rfl, hc4⟩
    have hb4 := Below.next hb3 hc4
    clear hc2 hc3 hc4 hb1 hb2 hb3 HF1 HF3 HF4 HL
    go_wp2
    go_ret
    exact ⟨rfl, hb4⟩
set_option maxRecDepth 100000 in
theorem lifted_LabelFront (os : Os) (started : os.Started) (H : Type) (enc : TypeId × Value → H) :
    ReturnsInHanded {} Try.checked os 8 .any (Rows.labelFrontSpec.pre6 enc Try.prog Try.f8 Rows.labelFrontRow.domain false) (Rows.labelFrontSpec.post enc Try.prog Try.f8 false true false false) := by
  refine returnsInHanded_of_change_shaped (C := Try.checked) own started (by kernel_rfl) Try.func8
    (ChangeSpec.witness6 (enc := enc) (C := Try.checked) false ⟨#[], #[.slice none 0 0, .string ⟨#[]⟩, .string ⟨#[]⟩], []⟩ 8 (by kernel_rfl) (by kernel_rfl) (by kernel_rfl) (by kernel_rfl)) ?_
  intro W base args ds gs before hval0 hW hcnd hsz0 hsh _
  obtain ⟨mx, hmx0⟩ := Try.laysM144.s1_3 W hsh
  have hmx : W.cell? ⟨0, 0, none⟩ = some (.int .i64 mx) := hmx0
  have hsz : (DataW.weightsEach Try.prog (Try.f8.params.toList ++ Rows.labelFrontSpec.plain.varTypes Try.prog) (ds ++ gs)).all (· ≤ reachBytes) = true := hsz0
  have hval : ∀ (j : Nat) t v, Try.f8.params[j]? = some t → args[j]? = some v → Value.okWide Try.prog W .any base t v := hval0
  have hW' := hW
  obtain ⟨p, q, hA0, hV, rfl, hfz, hnd⟩ := hW
  have hA : DataW.TrodAll enc Try.prog W 0 (fun _ => true) true Try.f8.params.toList args.toList ds p := hA0
  rw [Try.params8] at hA hval hsz
  obtain ⟨v0, vs0, d0, ds0, p0, q0, hargs, rfl, rfl, h0, r0⟩ := trodAll_cons hA
  obtain ⟨v1, vs1, d1, ds1, p1, q1, rfl, rfl, rfl, h1, r1⟩ := trodAll_cons r0
  obtain ⟨v2, vs2, d2, ds2, p2, q2, rfl, rfl, rfl, h2, r2⟩ := trodAll_cons r1
  obtain ⟨rfl, rfl, rfl⟩ := trodAll_nil r2
  obtain rfl : args = #[v0, v1, v2] := by cases args; simp_all
  obtain ⟨rfl, rfl⟩ := trodVars_none hV
  have k0 := h0
  have lt0 : ∀ x ∈ p0, x.block < W.heap.size := by obtain ⟨m, hm⟩ := k0; exact DataW.trod_lt m _ _ _ hm
  obtain ⟨s0, len0, cap0, rfl⟩ := okWide_slice Try.underlying22 (hval 0 22 v0 rfl rfl)
  obtain ⟨l0, row0, wf0, sh0⟩ := open_labels h0
  have rc0 := row_reachN hsz (j := 0) (t := 22) rfl rfl Try.underlying22 sh0
  rw [bytes58] at rc0
  have k1 := h1
  have lt1 : ∀ x ∈ p1, x.block < W.heap.size := by obtain ⟨m, hm⟩ := k1; exact DataW.trod_lt m _ _ _ hm
  obtain ⟨x1, rfl, rfl, rfl, ws1⟩ := Go.ChangeMaps.open_string Try.underlying9 (hval 1 9 v1 rfl rfl) h1
  have rc1 : x1.size ≤ 140737488351232 := by rw [Lib.size_eq]; exact sized_string hsz (j := 1) (t := 9) rfl rfl
  have k2 := h2
  have lt2 : ∀ x ∈ p2, x.block < W.heap.size := by obtain ⟨m, hm⟩ := k2; exact DataW.trod_lt m _ _ _ hm
  obtain ⟨x2, rfl, rfl, rfl, ws2⟩ := Go.ChangeMaps.open_string Try.underlying9 (hval 2 9 v2 rfl rfl) h2
  have rc2 : x2.size ≤ 140737488351232 := by rw [Lib.size_eq]; exact sized_string hsz (j := 2) (t := 9) rfl rfl
  clear hA0 hval0
  refine (walk_LabelFront (.slice s0 len0 cap0) l0 x1 x2 W row0 wf0 rc0 rc1 rc2 mx hmx).mono fun e W' ⟨he, bel⟩ => ?_
  subst he
  exact ⟨_, rfl, _, _, _, [], _, [], hW', trodAll_mk1 (shut_bool Try.underlying4 _), (trodAll_cons_mk (Below.trod laidOut (by kernel_rfl) (of_decide_eq_true (by kernel_rfl)) k0 bel lt0) (trodAll_cons_mk (Below.trod laidOut (by kernel_rfl) (of_decide_eq_true (by kernel_rfl)) k1 bel lt1) (trodAll_cons_mk (Below.trod laidOut (by kernel_rfl) (of_decide_eq_true (by kernel_rfl)) k2 bel lt2) trodAll_mk0))), rfl, bel.frame _, fun h => by cases h⟩

theorem proved_LabelFront : Rows.LabelFrontSaid :=
  OpenClaim.holds_of_wide 8 Try.f8 rfl rfl rfl rfl rfl rfl rfl ⟨rfl, rfl, rfl, rfl, rfl⟩ rfl rfl rfl rfl rfl (by kernel_rfl) Try.func8 (by kernel_rfl)
    (of_decide_eq_true (by kernel_rfl)) (by unfold Func.isWrapper; first | (rw [if_pos (by decide +kernel)]; kernel_rfl) | (rw [if_neg (by decide +kernel)]; exact ⟨rfl, rfl⟩))
    (fun os started H enc _ => lifted_LabelFront os started H enc)
#print axioms proved_LabelFront
end Go.Proofs.Ythdccpgjiogiaaa
