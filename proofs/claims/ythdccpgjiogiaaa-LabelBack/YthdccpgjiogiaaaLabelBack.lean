/- LabelBack: labels, and matches, are read as they were told. -/
import Derived.Test.YthdccpgjiogiaaaEqLb
namespace Go.Proofs.Ythdccpgjiogiaaa
open Go.RowKit Go.ChangeShapes Go.WideShapes Go.ChangeAt Go.Joins
set_option linter.unusedVariables false
theorem P.Rm_back {m n : List P.Mt} {er : Int} (hc : P.chkM m = 0) (h : P.Rm (P.txt m) n er) : er = 0 ∧ n = m := by
  rcases h with ⟨h0, h1, h2⟩ | ⟨_, _, h2⟩
  · exact ⟨h0, P.txt_inj (P.chkM_wf h1) (P.chkM_wf hc) h2.symm⟩
  · exact absurd rfl (h2 m hc)
theorem P.Rd_back {l k : List P.Lb} {er : Int} (hc : P.chk l = 0) (h : P.Rd (P.txt (P.asM l)) k er) : er = 0 ∧ k = l := by
  rcases h with ⟨h0, h1, h2⟩ | ⟨_, _, h2⟩
  · exact ⟨h0, P.asM_inj (P.txt_inj (P.chk_wf h1) (P.chk_wf hc) h2.symm)⟩
  · exact absurd rfl (h2 l hc)
set_option maxHeartbeats 2000000 in
theorem walk_LabelBack (v : Value) (l : List P.Lb) (vm : Value) (m : List P.Mt) (w : World) (hr : RowL w v l) (hl : LbOk l) (hrc : l.length * 32 ≤ 140737488351232) (hr2 : RowM w vm m) (hl2 : MtOk m) (hrc2 : m.length * 40 ≤ 140737488351232) :
    Calls Try.prog 5 #[v, vm] w fun e w' => e = .returned (.bool true) ∧ Below w.heap.size w w' := by
  have HL := hide (labels_any w)
  have HT := hide (fun w' (hb : Below w.heap.size w w') => text_any v l w' (hr.below hb (Nat.le_refl _)) hl)
  have HM := hide (fun w' (hb : Below w.heap.size w w') => matchText_any vm m w' (hr2.below hb (Nat.le_refl _)) hl2)
  have HRw := hide (fun w' (hb : Below w.heap.size w w') => hr2.below hb (Nat.le_refl _))
  have HRl := hide (fun w' (hb : Below w.heap.size w w') => hr.below hb (Nat.le_refl _))
  obtain ⟨ca, cp, rfl, hrest⟩ := hr
  obtain ⟨cb, cq, rfl, hrest2⟩ := hr2
  clear hrest hrest2
  go_enter Try.func5, Try.ntmps5
  go_wp2_with fail
  refine HL.out.mono ?_
  rintro e w1 ⟨rfl, hb1⟩
  go_wp2_with fail
  refine (HT.out _ hb1).mono ?_
  rintro e w2 ⟨rfl, hc2⟩
  have hb2 := Below.next hb1 hc2
  clear HL HT hc2 hb1
  by_cases h1 : P.chk l = 0
  · have ht : P.tell (P.chk l) (P.txB (P.asM l)) = P.txB (P.asM l) := by unfold P.tell; rw [if_pos h1]
    have HB := hide (fun k er (h : P.Rd (P.dl (P.txB (P.asM l))) k er) => P.Rd_back h1 h)
    have hsz : (P.txB (P.asM l)).size ≤ 140737488355328 := by have := P.txt_len (P.chkM_shrt (P.chk_as h1)); rw [P.dl_size]; show (P.txt (P.asM l)).length ≤ _; omega
    have HRd := hide (fun w => read_any (P.txB (P.asM l)) w hsz)
    rw [ht, h1]
    generalize P.txB (P.asM l) = sl at HB HRd hsz
    clear h1 ht
    go_wp2_with fail
    refine (HRd.out _).mono ?_
    rintro e w3 ⟨v3, k, er, rfl, own3, hrd, hlo, hc3⟩
    obtain ⟨rfl, rfl⟩ := HB.out _ _ hrd
    have hb3 := Below.next hb2 hc3
    have HEq := hide (sameLabels_any _ v3 k k w3 (HRl.out _ hb3) (OwnL.row own3))
    rw [show decide (k = k) = true by simp] at HEq
    clear hrd hlo hc3 hb2
    go_wp2_with (first | (go_at_call 25; refine HEq.out.mono ?_; rintro e w4 ⟨rfl, hc4⟩) | fail)
    have hbX := Below.next hb3 hc4
    clear hb3 hc4 HEq own3 HB HRd
    refine (HM.out _ hbX).mono ?_
    rintro e w5 ⟨rfl, hc5⟩
    have hb5 := Below.next hbX hc5
    by_cases h2 : P.chkM m = 0
    · have ht : P.tell (P.chkM m) (P.txB m) = P.txB m := by unfold P.tell; rw [if_pos h2]
      have HB := hide (fun n er (h : P.Rm (P.dl (P.txB m)) n er) => P.Rm_back h2 h)
      have hsz : (P.txB m).size ≤ 140737488355328 := by have := P.txt_len (P.chkM_shrt h2); rw [P.dl_size]; show (P.txt m).length ≤ _; omega
      have HRm := hide (fun w => readMatch_any (P.txB m) w hsz)
      rw [ht, h2]
      generalize P.txB m = sm at HB HRm hsz
      clear h2 ht
      go_wp2_with fail
      refine (HRm.out _).mono ?_
      rintro e w6 ⟨v6, n, er, rfl, own6, hrm, hmo, hc6⟩
      obtain ⟨rfl, rfl⟩ := HB.out _ _ hrm
      have hb6 := Below.next hb5 hc6
      have HEq := hide (equalM_any _ v6 n n w6 (HRw.out _ hb6) (OwnM.row own6))
      rw [show decide (n = n) = true by simp] at HEq
      clear hrm hmo hc6
      go_wp2_with (go_at_call 26; refine HEq.out.mono ?_; rintro e w7 ⟨rfl, hc7⟩)
      go_ret
      exact ⟨rfl, Below.next hb6 hc7⟩
    · have ht : P.tell (P.chkM m) (P.txB m) = ⟨#[]⟩ := by unfold P.tell; rw [if_neg h2]
      have hz : (P.chkM m == 0) = false := by simp [h2]
      rw [ht]
      generalize P.chkM m = cm at hz
      clear h2 ht
      go_wp2
      go_ret
      exact ⟨rfl, hb5⟩
  · have ht : P.tell (P.chk l) (P.txB (P.asM l)) = ⟨#[]⟩ := by unfold P.tell; rw [if_neg h1]
    have hz : (P.chk l == 0) = false := by simp [h1]
    rw [ht]
    generalize P.chk l = cl at hz
    clear h1 ht
    have hbX := hb2
    clear hb2
    go_wp2_with fail
    refine (HM.out _ hbX).mono ?_
    rintro e w5 ⟨rfl, hc5⟩
    have hb5 := Below.next hbX hc5
    by_cases h2 : P.chkM m = 0
    · have ht : P.tell (P.chkM m) (P.txB m) = P.txB m := by unfold P.tell; rw [if_pos h2]
      have HB := hide (fun n er (h : P.Rm (P.dl (P.txB m)) n er) => P.Rm_back h2 h)
      have hsz : (P.txB m).size ≤ 140737488355328 := by have := P.txt_len (P.chkM_shrt h2); rw [P.dl_size]; show (P.txt m).length ≤ _; omega
      have HRm := hide (fun w => readMatch_any (P.txB m) w hsz)
      rw [ht, h2]
      generalize P.txB m = sm at HB HRm hsz
      clear h2 ht
      go_wp2_with fail
      refine (HRm.out _).mono ?_
      rintro e w6 ⟨v6, n, er, rfl, own6, hrm, hmo, hc6⟩
      obtain ⟨rfl, rfl⟩ := HB.out _ _ hrm
      have hb6 := Below.next hb5 hc6
      have HEq := hide (equalM_any _ v6 n n w6 (HRw.out _ hb6) (OwnM.row own6))
      rw [show decide (n = n) = true by simp] at HEq
      clear hrm hmo hc6
      go_wp2_with (go_at_call 26; refine HEq.out.mono ?_; rintro e w7 ⟨rfl, hc7⟩)
      go_ret
      exact ⟨rfl, Below.next hb6 hc7⟩
    · have ht : P.tell (P.chkM m) (P.txB m) = ⟨#[]⟩ := by unfold P.tell; rw [if_neg h2]
      have hz : (P.chkM m == 0) = false := by simp [h2]
      rw [ht]
      generalize P.chkM m = cm at hz
      clear h2 ht
      go_wp2
      go_ret
      exact ⟨rfl, hb5⟩
set_option maxRecDepth 100000 in
theorem lifted_LabelBack (os : Os) (started : os.Started) (H : Type) (enc : TypeId × Value → H) :
    ReturnsInHanded {} Try.checked os 5 .any (Rows.labelBackSpec.pre6 enc Try.prog Try.f5 Rows.labelBackRow.domain false) (Rows.labelBackSpec.post enc Try.prog Try.f5 false true false false) := by
  refine returnsInHanded_of_change_sized (C := Try.checked) own started (by kernel_rfl) Try.func5
    (ChangeSpec.witness6 (enc := enc) (C := Try.checked) false ⟨#[], #[.slice none 0 0, .slice none 0 0], []⟩ 8 (by kernel_rfl) (by kernel_rfl) (by kernel_rfl) (by kernel_rfl)) ?_
  intro W base args ds gs before hval0 hW hcnd hsz0  _
  have hsz : (DataW.weightsEach Try.prog (Try.f5.params.toList ++ Rows.labelBackSpec.plain.varTypes Try.prog) (ds ++ gs)).all (· ≤ reachBytes) = true := hsz0
  have hval : ∀ (j : Nat) t v, Try.f5.params[j]? = some t → args[j]? = some v → Value.okWide Try.prog W .any base t v := hval0
  have hW' := hW
  obtain ⟨p, q, hA0, hV, rfl, hfz, hnd⟩ := hW
  have hA : DataW.TrodAll enc Try.prog W 0 (fun _ => true) true Try.f5.params.toList args.toList ds p := hA0
  rw [Try.params5] at hA hval hsz
  obtain ⟨v0, vs0, d0, ds0, p0, q0, hargs, rfl, rfl, h0, r0⟩ := trodAll_cons hA
  obtain ⟨v1, vs1, d1, ds1, p1, q1, rfl, rfl, rfl, h1, r1⟩ := trodAll_cons r0
  obtain ⟨rfl, rfl, rfl⟩ := trodAll_nil r1
  obtain rfl : args = #[v0, v1] := by cases args; simp_all
  obtain ⟨rfl, rfl⟩ := trodVars_none hV
  have k0 := h0
  have lt0 : ∀ x ∈ p0, x.block < W.heap.size := by obtain ⟨m, hm⟩ := k0; exact DataW.trod_lt m _ _ _ hm
  obtain ⟨s0, len0, cap0, rfl⟩ := okWide_slice Try.underlying22 (hval 0 22 v0 rfl rfl)
  obtain ⟨l0, row0, wf0, sh0⟩ := open_labels h0
  have rc0 := row_reachN hsz (j := 0) (t := 22) rfl rfl Try.underlying22 sh0
  rw [bytes58] at rc0
  have k1 := h1
  have lt1 : ∀ x ∈ p1, x.block < W.heap.size := by obtain ⟨m, hm⟩ := k1; exact DataW.trod_lt m _ _ _ hm
  obtain ⟨s1, len1, cap1, rfl⟩ := okWide_slice Try.underlying34 (hval 1 34 v1 rfl rfl)
  obtain ⟨l1, row1, wf1, sh1⟩ := open_matches h1
  have rc1 := row_reachN hsz (j := 1) (t := 34) rfl rfl Try.underlying34 sh1
  rw [bytes49] at rc1
  clear hA0 hval0
  refine (walk_LabelBack (.slice s0 len0 cap0) l0 (.slice s1 len1 cap1) l1 W row0 wf0 rc0 row1 wf1 rc1).mono fun e W' ⟨he, bel⟩ => ?_
  subst he
  exact ⟨_, rfl, _, _, _, [], _, [], hW', trodAll_mk1 (shut_bool Try.underlying4 _), (trodAll_cons_mk (Below.trod laidOut (by kernel_rfl) (of_decide_eq_true (by kernel_rfl)) k0 bel lt0) (trodAll_cons_mk (Below.trod laidOut (by kernel_rfl) (of_decide_eq_true (by kernel_rfl)) k1 bel lt1) trodAll_mk0)), rfl, bel.frame _, fun h => by cases h⟩

theorem proved_LabelBack : Rows.LabelBackSaid :=
  OpenClaim.holds_of_wide 5 Try.f5 rfl rfl rfl rfl rfl rfl rfl ⟨rfl, rfl, rfl, rfl, rfl⟩ rfl rfl rfl rfl rfl (by kernel_rfl) Try.func5 (by kernel_rfl)
    (of_decide_eq_true (by kernel_rfl)) (by unfold Func.isWrapper; first | (rw [if_pos (by decide +kernel)]; kernel_rfl) | (rw [if_neg (by decide +kernel)]; exact ⟨rfl, rfl⟩))
    (fun os started H enc _ => lifted_LabelBack os started H enc)
#print axioms proved_LabelBack
end Go.Proofs.Ythdccpgjiogiaaa
