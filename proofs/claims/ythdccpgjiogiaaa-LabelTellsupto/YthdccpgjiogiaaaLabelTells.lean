/- LabelTells: Check, Text and Read answer what the document says. -/
import Derived.Test.YthdccpgjiogiaaaRefLo
import Derived.Test.YthdccpgjiogiaaaRefEqLb
import Derived.Deep.CondSized
namespace Go.Proofs.Ythdccpgjiogiaaa
open Go.RowKit Go.ChangeShapes Go.WideShapes Go.ChangeAt Go.Joins
set_option linter.unusedVariables false
theorem P.tells_ok {s : List UInt8} {m n : List P.Lb} {f : Int} (h : P.Rd s m f) (h2 : P.Lo s n true) : f = 0 ∧ m = n := by
  rcases h2 with ⟨_, hc, hs⟩ | ⟨h2, _⟩
  · rcases h with ⟨h0, h1, h3⟩ | ⟨_, _, h3⟩
    · exact ⟨h0, P.asM_inj (P.txt_inj (P.chk_wf h1) (P.chk_wf hc) (h3.symm.trans hs))⟩
    · exact absurd hs (h3 n hc)
  · cases h2
theorem P.tells_no {s : List UInt8} {m n : List P.Lb} {f : Int} (h : P.Rd s m f) (h2 : P.Lo s n false) : f = 4 ∧ m = [] := by
  rcases h2 with ⟨h2, _⟩ | ⟨_, h2⟩
  · cases h2
  · rcases h with ⟨_, h1, h3⟩ | ⟨h0, h1, _⟩
    · exact absurd h3 (h2 m h1)
    · exact ⟨h0, h1⟩
theorem OwnL.shp {w : World} {base : Nat} {v : Value} {m : List P.Lb} (h : OwnL w base v m) : ∃ a c, v = .slice a m.length c := by
  obtain ⟨a, c, e, _⟩ := OwnL.row h
  exact ⟨a, c, e⟩
set_option maxHeartbeats 4000000 in
theorem walk_LabelTells (v : Value) (l : List P.Lb) (s : ByteArray) (w : World) (hr : RowL w v l) (hl : LbOk l) (hrc : l.length * 32 ≤ 140737488351232) (hs : s.size ≤ 140737488351232) (hsb : s.size ≤ 1048576) :
    Calls Try.prog 3 #[v, .string s] w fun e w' => e = .returned (.bool true) ∧ Below w.heap.size w w' := by
  have HT := hide (text_any v l w hr hl)
  have HRd := hide (fun w => read_any s w (by omega))
  have HFa := hide (fun w' (hb : Below w.heap.size w w') => labelsFault_any v l w' (hr.below hb (Nat.le_refl _)) hl)
  have HCk := hide (fun w' (hb : Below w.heap.size w w') => check_any v l w' (hr.below hb (Nat.le_refl _)) hl)
  have HLT := hide (fun w' (hb : Below w.heap.size w w') (hc : P.chk l = 0) => labelsText_any v l w' (hr.below hb (Nat.le_refl _)) hc)
  have HLo := hide (fun w => labelsOf_any s w hsb)
  have HSm := hide sameL_any
  obtain ⟨ca, cp, rfl, hrest⟩ := hr
  clear hrest
  by_cases hc : P.chk l = 0
  · have ht : P.tell (P.chk l) (P.txB (P.asM l)) = P.txB (P.asM l) := by unfold P.tell; rw [if_pos hc]
    have HLT2 := hide (fun w' hb => HLT.out w' hb hc)
    rw [ht, hc] at HT
    rw [hc] at HFa HCk
    generalize P.txB (P.asM l) = T at HT HLT2
    clear ht HLT hc
    go_enter Try.func3, Try.ntmps3
    go_wp2_with fail
    refine HT.out.mono ?_
    rintro e w1 ⟨rfl, hb1⟩
    go_wp2_with fail
    refine (HRd.out _).mono ?_
    rintro e w2 ⟨v2, m, f, rfl, own2, hrd, hlo, hc2⟩
    have hb2 := Below.next hb1 hc2
    clear hb1 hc2 HT HRd
    obtain ⟨ma, mc, hv2⟩ := OwnL.shp own2
    subst hv2
    have HRD := hide hrd
    clear hrd hlo
    go_wp2_with fail
    refine (HFa.out _ hb2).mono ?_
    rintro e w3 ⟨rfl, hc3⟩
    have hb3 := Below.next hb2 hc3
    have own3 := own2.below hc3 (Nat.le_refl _)
    clear hb2 hc3 own2
    go_wp2_with fail
    refine (HCk.out _ hb3).mono ?_
    rintro e w4 ⟨rfl, hc4⟩
    have hb4 := Below.next hb3 hc4
    have own4 := own3.below hc4 (Nat.le_refl _)
    clear hb3 hc4 own3
    go_wp2_with fail
    refine (HLT2.out _ hb4).mono ?_
    rintro e w5 ⟨rfl, hc5⟩
    have hb5 := Below.next hb4 hc5
    have own5 := own4.below hc5 (Nat.le_refl _)
    clear hb4 hc5 own4
    go_wp2_with fail
    refine (HLo.out _).mono ?_
    rintro e w6 ⟨v6, n, ok, rfl, own6, hlo6, hc6⟩
    have hb6 := Below.next hb5 hc6
    have own7 := own5.below hc6 (Nat.le_refl _)
    clear hb5 hc6 own5
    cases ok with
    | false =>
      obtain ⟨rfl, rfl⟩ := P.tells_no HRD.out hlo6
      clear hlo6
      go_wp2
      go_ret
      exact ⟨rfl, hb6⟩
    | true =>
      obtain ⟨rfl, rfl⟩ := P.tells_ok HRD.out hlo6
      have HSame := hide (HSm.out _ _ m m w6 (OwnL.row own7) (OwnL.row own6))
      rw [show decide (m = m) = true by simp] at HSame
      clear hlo6
      go_wp2_with (go_at_call 15; refine HSame.out.mono ?_; rintro e w8 ⟨rfl, hc8⟩)
      go_ret
      exact ⟨rfl, Below.next hb6 hc8⟩
  · have ht : P.tell (P.chk l) (P.txB (P.asM l)) = ⟨#[]⟩ := by unfold P.tell; rw [if_neg hc]
    have hz1 : (P.chk l == 0) = false := by simp [hc]
    have hz2 : (P.chk l != 0) = true := by simp [hc]
    rw [ht] at HT
    generalize P.chk l = c at HT HFa HCk hz1 hz2
    clear ht HLT hc
    go_enter Try.func3, Try.ntmps3
    go_wp2_with fail
    refine HT.out.mono ?_
    rintro e w1 ⟨rfl, hb1⟩
    go_wp2_with fail
    refine (HRd.out _).mono ?_
    rintro e w2 ⟨v2, m, f, rfl, own2, hrd, hlo, hc2⟩
    have hb2 := Below.next hb1 hc2
    clear hb1 hc2 HT HRd
    obtain ⟨ma, mc, hv2⟩ := OwnL.shp own2
    subst hv2
    have HRD := hide hrd
    clear hrd hlo
    go_wp2_with fail
    refine (HFa.out _ hb2).mono ?_
    rintro e w3 ⟨rfl, hc3⟩
    have hb3 := Below.next hb2 hc3
    have own3 := own2.below hc3 (Nat.le_refl _)
    clear hb2 hc3 own2
    go_wp2_with fail
    refine (HCk.out _ hb3).mono ?_
    rintro e w4 ⟨rfl, hc4⟩
    have hb4 := Below.next hb3 hc4
    have own4 := own3.below hc4 (Nat.le_refl _)
    clear hb3 hc4 own3
    have hb5 := hb4
    have own5 := own4
    clear hb4 own4
    go_wp2_with fail
    refine (HLo.out _).mono ?_
    rintro e w6 ⟨v6, n, ok, rfl, own6, hlo6, hc6⟩
    have hb6 := Below.next hb5 hc6
    have own7 := own5.below hc6 (Nat.le_refl _)
    clear hb5 hc6 own5
    cases ok with
    | false =>
      obtain ⟨rfl, rfl⟩ := P.tells_no HRD.out hlo6
      clear hlo6
      go_wp2
      go_ret
      exact ⟨rfl, hb6⟩
    | true =>
      obtain ⟨rfl, rfl⟩ := P.tells_ok HRD.out hlo6
      have HSame := hide (HSm.out _ _ m m w6 (OwnL.row own7) (OwnL.row own6))
      rw [show decide (m = m) = true by simp] at HSame
      clear hlo6
      go_wp2_with (go_at_call 15; refine HSame.out.mono ?_; rintro e w8 ⟨rfl, hc8⟩)
      go_ret
      exact ⟨rfl, Below.next hb6 hc8⟩
set_option maxRecDepth 100000 in
theorem lifted_LabelTells (os : Os) (started : os.Started) (H : Type) (enc : TypeId × Value → H) (F : Stop.Interp) :
    ReturnsInHanded {} Try.checked os 3 .any ((Rows.OpenSpec.upto Rows.labelTellsSpec).pre6 enc Try.prog Try.f3 Rows.labelTellsUptoRow.domain false) (((Rows.OpenSpec.upto Rows.labelTellsSpec).at F).post enc Try.prog Try.f3 false true false false) := by
  refine returnsInHanded_of_cond_sized (C := Try.checked) (s := Rows.OpenSpec.upto Rows.labelTellsSpec) (k := Rows.uptoSmall) rfl own started (by kernel_rfl) Try.func3
    (OpenSpec.witness (enc := enc) (C := Try.checked) (s := Rows.OpenSpec.upto Rows.labelTellsSpec) (k := Rows.uptoSmall) rfl false ⟨#[], #[.slice none 0 0, .string ⟨#[]⟩], []⟩ 8 (by kernel_rfl) (by kernel_rfl) (by kernel_rfl)
      (x := ([.nil, .lit (.string [])], [], [])) (by kernel_rfl) rfl (by kernel_rfl)) ?_
  intro W base args ds gs before hval0 hW hcnd hk0 hsz0  _
  have hsz : (DataW.weightsEach Try.prog (Try.f3.params.toList ++ Rows.labelTellsSpec.plain.varTypes Try.prog) (ds ++ gs)).all (· ≤ reachBytes) = true := hsz0
  have hval : ∀ (j : Nat) t v, Try.f3.params[j]? = some t → args[j]? = some v → Value.okWide Try.prog W .any base t v := hval0
  have hW' := hW
  obtain ⟨p, q, hA0, hV, rfl, hfz, hnd⟩ := hW
  have hA : DataW.TrodAll enc Try.prog W 0 (fun _ => true) true Try.f3.params.toList args.toList ds p := hA0
  rw [Try.params3] at hA hval hsz
  obtain ⟨v0, vs0, d0, ds0, p0, q0, hargs, rfl, rfl, h0, r0⟩ := trodAll_cons hA
  obtain ⟨v1, vs1, d1, ds1, p1, q1, rfl, rfl, rfl, h1, r1⟩ := trodAll_cons r0
  obtain ⟨rfl, rfl, rfl⟩ := trodAll_nil r1
  obtain rfl : args = #[v0, v1] := by cases args; simp_all
  obtain ⟨rfl, rfl⟩ := trodVars_none hV
  have k0 := h0
  have lt0 : ∀ x ∈ p0, x.block < W.heap.size := by obtain ⟨m, hm⟩ := k0; exact DataW.trod_lt m _ _ _ hm
  obtain ⟨s0, len0, cap0, rfl⟩ := okWide_slice Try.underlying22 (hval 0 22 v0 rfl rfl)
  obtain ⟨l0, row0, wf0, sh0⟩ := open_labels h0
  have rc0 := row_reachN hsz (j := 0) (t := 22) rfl rfl Try.underlying22 sh0
  rw [bytes58] at rc0
  have k1 := h1
  have lt1 : ∀ x ∈ p1, x.block < W.heap.size := by obtain ⟨m, hm⟩ := k1; exact DataW.trod_lt m _ _ _ hm
  obtain ⟨x1, rfl, rfl, rfl, ws1⟩ := Go.ChangeMaps.open_string Try.underlying9 (hval 1 9 v1 rfl rfl) h1
  have rc1 : x1.size ≤ 140737488351232 := by rw [Lib.size_eq]; exact sized_string hsz (j := 1) (t := 9) rfl rfl
  clear hA0 hval0
  have bk1 := bulk_string (s := x1) hk0 (by simp)
  refine (walk_LabelTells (.slice s0 len0 cap0) l0 x1 W row0 wf0 rc0 rc1 bk1).mono fun e W' ⟨he, bel⟩ => ?_
  subst he
  exact ⟨_, rfl, _, _, _, [], _, [], hW', trodAll_mk1 (shut_bool Try.underlying4 _), (trodAll_cons_mk (Below.trod laidOut (by kernel_rfl) (of_decide_eq_true (by kernel_rfl)) k0 bel lt0) (trodAll_cons_mk (Below.trod laidOut (by kernel_rfl) (of_decide_eq_true (by kernel_rfl)) k1 bel lt1) trodAll_mk0)), rfl, bel.frame _, fun h => by cases h⟩

theorem proved_LabelTells : Rows.LabelTellsUptoSaid :=
  OpenClaim.holds_of_cond 3 Try.f3 rfl rfl rfl rfl rfl rfl rfl ⟨rfl, rfl, rfl, rfl, rfl⟩ rfl rfl rfl rfl rfl (by kernel_rfl) Try.func3 (by kernel_rfl)
    (of_decide_eq_true (by kernel_rfl)) (by unfold Func.isWrapper; first | (rw [if_pos (by decide +kernel)]; kernel_rfl) | (rw [if_neg (by decide +kernel)]; exact ⟨rfl, rfl⟩))
    (fun os started H enc _ F => lifted_LabelTells os started H enc F)
#print axioms proved_LabelTells
end Go.Proofs.Ythdccpgjiogiaaa
