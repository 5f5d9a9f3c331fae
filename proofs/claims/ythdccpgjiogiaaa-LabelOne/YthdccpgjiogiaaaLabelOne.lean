/- LabelOne: what is read tells the text that was read. -/
import Derived.Test.YthdccpgjiogiaaaEqLb
namespace Go.Proofs.Ythdccpgjiogiaaa
open Go.RowKit Go.ChangeShapes Go.WideShapes Go.ChangeAt Go.Joins
set_option linter.unusedVariables false
theorem P.txB_of {s : ByteArray} {m : List P.Mt} (h : P.dl s = P.txt m) : P.txB m = s := P.dl_inj h.symm
set_option maxHeartbeats 2000000 in
theorem walk_LabelOne (s : ByteArray) (w : World) (hs : s.size ≤ 140737488351232) :
    Calls Try.prog 6 #[.string s] w fun e w' => e = .returned (.bool true) ∧ Below w.heap.size w w' := by
  have HL := hide (labels_any w)
  have HRd := hide (fun w => read_any s w (by omega))
  have HRm := hide (fun w => readMatch_any s w (by omega))
  have HT := hide text_any
  have HM := hide matchText_any
  go_enter Try.func6, Try.ntmps6
  go_wp2_with fail
  refine HL.out.mono ?_
  rintro e w1 ⟨rfl, hb1⟩
  go_wp2_with fail
  refine (HRd.out _).mono ?_
  rintro e w2 ⟨v2, l, er, rfl, own2, hrd, hlo, hc2⟩
  have hb2 := Below.next hb1 hc2
  clear HL HRd hc2 hb1
  rcases hrd with ⟨rfl, h1, h2⟩ | ⟨rfl, rfl, h2⟩
  · have HTl := hide (HT.out v2 l w2 (OwnL.row own2) hlo)
    have ht : P.tell (P.chk l) (P.txB (P.asM l)) = s := by unfold P.tell; rw [if_pos h1]; exact P.txB_of h2
    have HN : Hid (∀ m er, P.Rm (P.dl s) m er → er = 0 ∧ P.chkM m = 0 ∧ P.txB m = s) := fun m er h => by
      rcases h with ⟨a, b, c⟩ | ⟨_, _, c⟩
      · exact ⟨a, b, P.txB_of c⟩
      · exact absurd h2 (c _ (P.chk_as h1))
    rw [ht, h1] at HTl
    clear ht h1 h2
    go_wp2_with (first
      | (go_at_call 9; refine HTl.out.mono ?_; rintro e w3 ⟨rfl, hc3⟩)
      | fail)
    have hb3 := Below.next hb2 hc3
    refine (HRm.out _).mono ?_
    rintro e w4 ⟨v4, m, er, rfl, own4, hrm, hmo, hc4⟩
    have hb4 := Below.next hb3 hc4
    obtain ⟨rfl, g1, g2⟩ := HN.out _ _ hrm
    have HMm := hide (HM.out v4 m w4 (OwnM.row own4) hmo)
    have ht : P.tell (P.chkM m) (P.txB m) = s := by unfold P.tell; rw [if_pos g1]; exact g2
    rw [ht, g1] at HMm
    clear ht g1 g2 hrm hc4 hb3 hc3 hb2
    go_wp2_with (go_at_call 17; refine HMm.out.mono ?_; rintro e w5 ⟨rfl, hc5⟩)
    go_ret
    exact ⟨rfl, Below.next hb4 hc5⟩
  · clear h2
    go_wp2_with fail
    refine (HRm.out _).mono ?_
    rintro e w4 ⟨v4, m, er, rfl, own4, hrm, hmo, hc4⟩
    have hb4 := Below.next hb2 hc4
    rcases hrm with ⟨rfl, g1, g2⟩ | ⟨rfl, rfl, _⟩
    · have HMm := hide (HM.out v4 m w4 (OwnM.row own4) hmo)
      have ht : P.tell (P.chkM m) (P.txB m) = s := by unfold P.tell; rw [if_pos g1]; exact P.txB_of g2
      rw [ht, g1] at HMm
      clear ht g1 g2 hc4 hb2
      go_wp2_with (go_at_call 17; refine HMm.out.mono ?_; rintro e w5 ⟨rfl, hc5⟩)
      go_ret
      exact ⟨rfl, Below.next hb4 hc5⟩
    · obtain ⟨va, vc, hv⟩ := OwnM.shp own4
      subst hv
      go_wp2
      go_ret
      exact ⟨rfl, hb4⟩
set_option maxRecDepth 100000 in
theorem lifted_LabelOne (os : Os) (started : os.Started) (H : Type) (enc : TypeId × Value → H) :
    ReturnsInHanded {} Try.checked os 6 .any (Rows.labelOneSpec.pre6 enc Try.prog Try.f6 Rows.labelOneRow.domain false) (Rows.labelOneSpec.post enc Try.prog Try.f6 false true false false) := by
  refine returnsInHanded_of_change_sized (C := Try.checked) own started (by kernel_rfl) Try.func6
    (ChangeSpec.witness6 (enc := enc) (C := Try.checked) false ⟨#[], #[.string ⟨#[]⟩], []⟩ 8 (by kernel_rfl) (by kernel_rfl) (by kernel_rfl) (by kernel_rfl)) ?_
  intro W base args ds gs before hval0 hW hcnd hsz0  _
  have hsz : (DataW.weightsEach Try.prog (Try.f6.params.toList ++ Rows.labelOneSpec.plain.varTypes Try.prog) (ds ++ gs)).all (· ≤ reachBytes) = true := hsz0
  have hval : ∀ (j : Nat) t v, Try.f6.params[j]? = some t → args[j]? = some v → Value.okWide Try.prog W .any base t v := hval0
  have hW' := hW
  obtain ⟨p, q, hA0, hV, rfl, hfz, hnd⟩ := hW
  have hA : DataW.TrodAll enc Try.prog W 0 (fun _ => true) true Try.f6.params.toList args.toList ds p := hA0
  rw [Try.params6] at hA hval hsz
  obtain ⟨v0, vs0, d0, ds0, p0, q0, hargs, rfl, rfl, h0, r0⟩ := trodAll_cons hA
  obtain ⟨rfl, rfl, rfl⟩ := trodAll_nil r0
  obtain rfl : args = #[v0] := by cases args; simp_all
  obtain ⟨rfl, rfl⟩ := trodVars_none hV
  have k0 := h0
  have lt0 : ∀ x ∈ p0, x.block < W.heap.size := by obtain ⟨m, hm⟩ := k0; exact DataW.trod_lt m _ _ _ hm
  obtain ⟨x0, rfl, rfl, rfl, ws0⟩ := Go.ChangeMaps.open_string Try.underlying9 (hval 0 9 v0 rfl rfl) h0
  have rc0 : x0.size ≤ 140737488351232 := by rw [Lib.size_eq]; exact sized_string hsz (j := 0) (t := 9) rfl rfl
  clear hA0 hval0
  refine (walk_LabelOne x0 W rc0).mono fun e W' ⟨he, bel⟩ => ?_
  subst he
  exact ⟨_, rfl, _, _, _, [], _, [], hW', trodAll_mk1 (shut_bool Try.underlying4 _), (trodAll_cons_mk (Below.trod laidOut (by kernel_rfl) (of_decide_eq_true (by kernel_rfl)) k0 bel lt0) trodAll_mk0), rfl, bel.frame _, fun h => by cases h⟩

theorem proved_LabelOne : Rows.LabelOneSaid :=
  OpenClaim.holds_of_wide 6 Try.f6 rfl rfl rfl rfl rfl rfl rfl ⟨rfl, rfl, rfl, rfl, rfl⟩ rfl rfl rfl rfl rfl (by kernel_rfl) Try.func6 (by kernel_rfl)
    (of_decide_eq_true (by kernel_rfl)) (by unfold Func.isWrapper; first | (rw [if_pos (by decide +kernel)]; kernel_rfl) | (rw [if_neg (by decide +kernel)]; exact ⟨rfl, rfl⟩))
    (fun os started H enc _ => lifted_LabelOne os started H enc)
#print axioms proved_LabelOne
end Go.Proofs.Ythdccpgjiogiaaa
