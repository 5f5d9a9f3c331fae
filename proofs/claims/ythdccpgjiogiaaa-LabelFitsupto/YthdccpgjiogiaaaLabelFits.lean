/- LabelFits: Fits, MatchText and ReadMatch answer what the document says. -/
import Derived.Test.YthdccpgjiogiaaaRefFa
import Derived.Test.YthdccpgjiogiaaaRefMa
import Derived.Test.YthdccpgjiogiaaaRefEqLb
import Derived.Test.YthdccpgjiogiaaaLabelX
import Derived.Deep.CondSized
import Derived.HandedShaped
namespace Go
/-- The second form's wrap, the world's shape kept. -/
theorem returnsInHanded_of_cond_shaped {H : Type} {enc : TypeId × Value → H} {a : Assume} {C : Checked} {os : Os} {f : FuncId} {fn : Func} {s : OpenSpec} {k : (H : Type) → List (DataW H) → Bool} (hk : s.cond = some k) {F : Stop.Interp} {conds : List PathCond} {apart fresh handsOn again : Bool}
    (own : ownKnob C.prog.godebug = none) (started : os.Started) (noInit : C.prog.inits.idxOf? f = none) (hfn : C.prog.funcs[f]? = some fn)
    (witness : ∃ (w : World) (tape : Tape) (i : Input), w.os = os ∧ (w.forCall tape i).Shaped C.prog ∧ i.vars = [] ∧ Input.okWide C.prog (w.forCall tape i) .any w.heap.size f i ∧
      s.pre6 enc C.prog fn conds apart (w.forCall tape i).memory i.args ∧ a.holds C.prog (lone (Frame.enter C.prog f i.args .normal) [] (w.forCall tape i)))
    (contract : ∀ (W : World) (base : Nat) (args : Array Value) (ds gs : List (DataW H)) (before : List MemPlace),
      (∀ (j : Nat) t v, fn.params[j]? = some t → args[j]? = some v → Value.okWide C.prog W .any base t v) →
      DataW.Whole enc C.prog fn.params.toList s.vars apart W args.toList ds gs before →
      conds.all (PathCond.test C.prog ⟨fn.params.toList, ds, s.bare.plain.varTypes C.prog, gs⟩) = true → k H (ds ++ gs) = true →
      (DataW.weightsEach C.prog (fn.params.toList ++ s.bare.plain.varTypes C.prog) (ds ++ gs)).all (· ≤ reachBytes) = true →
      W.ShapedOpen C.prog →
      a.holds C.prog (lone (Frame.enter C.prog f args .normal) [] W) →
      Calls C.prog f args W fun e W' => ∃ v, e = .returned v ∧ (s.at F).post enc C.prog fn apart fresh handsOn again W args v W') :
    ReturnsInHanded a C os f .any (s.pre6 enc C.prog fn conds apart) ((s.at F).post enc C.prog fn apart fresh handsOn again) := by
  refine returnsInHanded_of_calls own started noInit witness ?_
  intro w tape i _ hsh _ hok hpre hholds
  obtain ⟨_, _, _, fn', hfn', _, _, _, _, hval⟩ := hok
  have e : fn' = fn := Option.some.inj (hfn'.symm.trans hfn)
  subst e
  obtain ⟨ds, gs, before, hw, hc, hkk⟩ := (OpenSpec.pre_some hk conds apart _ _).1 hpre.1
  have hw' := DataW.Whole.of_heap (w' := w.forCall tape i) (by rfl) hw
  refine (contract (w.forCall tape i) w.heap.size i.args ds gs before hval hw' hc hkk (hpre.2.weights hw) hsh hholds).mono fun e W' ⟨v, he, hp⟩ => ?_
  subst he
  exact ChangeSpec.post_blind hp
end Go
namespace Go.Proofs.Ythdccpgjiogiaaa
open Go.RowKit Go.ChangeShapes Go.WideShapes Go.ChangeAt Go.Joins
set_option linter.unusedVariables false
theorem P.fits_ok {s : List UInt8} {m n : List P.Mt} {f : Int} (h : P.Rm s m f) (h2 : P.Ma s n [] true) : f = 0 ∧ m = n := by
  rcases h2 with ⟨_, hc, hs, _⟩ | ⟨h2, _⟩
  · rw [List.append_nil] at hs
    rcases h with ⟨h0, h1, h3⟩ | ⟨_, _, h3⟩
    · exact ⟨h0, P.txt_inj (P.chkM_wf h1) (P.chkM_wf hc) (h3.symm.trans hs)⟩
    · exact absurd hs (h3 n hc)
  · cases h2
theorem P.fits_no {s r : List UInt8} {m n : List P.Mt} {f : Int} {ok : Bool} (h : P.Rm s m f) (h2 : P.Ma s n r ok) (hn : ¬ (ok = true ∧ r = [])) : f = 4 ∧ m = [] := by
  rcases h with ⟨_, h1, h3⟩ | ⟨h0, h1, _⟩
  · exfalso
    rcases h2 with ⟨h4, _, _, h5⟩ | ⟨_, _, _, h5⟩
    · exact hn ⟨h4, (h5 m [] h1 (by rw [List.append_nil]; exact h3)).2.symm⟩
    · exact h5 m [] h1 (by rw [List.append_nil]; exact h3)
  · exact ⟨h0, h1⟩
set_option maxHeartbeats 8000000 in
theorem walk_LabelFits (v : Value) (l : List P.Lb) (vm : Value) (m : List P.Mt) (s : ByteArray) (w : World) (hr : RowL w v l) (hl : LbOk l) (hrc : l.length * 32 ≤ 140737488351232) (hr2 : RowM w vm m) (hl2 : MtOk m) (hrc2 : m.length * 40 ≤ 140737488351232) (hs : s.size ≤ 140737488351232) (hsb : s.size ≤ 1048576) (mx : Int) (hm : w.cell? ⟨0, 0, none⟩ = some (.int .i64 mx)) :
    Calls Try.prog 4 #[v, vm, .string s] w fun e w' => e = .returned (.bool true) ∧ Below w.heap.size w w' := by
  have HFi := hide (fits_any v vm l m w hr hl hr2 hl2 mx hm)
  have HMt := hide (fun w' (hb : Below w.heap.size w w') => matchText_any vm m w' (hr2.below hb (Nat.le_refl _)) hl2)
  have HRm := hide (fun w => readMatch_any s w (by omega))
  have HMf := hide (fun w' (hb : Below w.heap.size w w') => matchFault_any vm m w' (hr2.below hb (Nat.le_refl _)) hl2)
  have HMT := hide (fun w' (hb : Below w.heap.size w w') (hc : P.chkM m = 0) => matchesText_any vm m w' (hr2.below hb (Nat.le_refl _)) (P.chkM_shrt hc) (fun x hx => (P.chkM_wf hc x hx).2.1))
  have HMa := hide (fun w => matchesAt_any s w hsb)
  have HFl := hide (fun w' (hb : Below w.heap.size w w') => labelsFault_any v l w' (hr.below hb (Nat.le_refl _)) hl)
  have HAll := hide (fun w' (hb : Below w.heap.size w w') (hc : P.chk l = 0) (hc2 : P.chkM m = 0) => fitsAll_any v vm l m w' (hr.below hb (Nat.le_refl _)) (hr2.below hb (Nat.le_refl _)) hc hc2)
  have HSm := hide sameM_any
  obtain ⟨ca, cp, rfl, hrest⟩ := hr
  obtain ⟨cb, cq, rfl, hrest2⟩ := hr2
  clear hrest hrest2
  by_cases hcl : P.chk l = 0
  · by_cases hcm : P.chkM m = 0
    · skip
      rw [hcl] at HFl
      have ht : P.tell (P.chkM m) (P.txB m) = P.txB m := by unfold P.tell; rw [if_pos hcm]
      rw [ht, hcm] at HMt
      rw [hcm] at HMf
      have HMT2 := hide (fun w' hb => HMT.out w' hb hcm)
      have hfe : P.fitsE l m = 0 := P.fitsE_of hcl hcm
      have hfb : P.fitsB l m = m.all (P.fit1 l) := P.fitsB_ok hfe
      rw [hfe, hfb] at HFi
      have HFA := hide (fun w' hb => HAll.out w' hb hcl hcm)
      generalize m.all (P.fit1 l) = al at HFi HFA
      generalize P.txB m = T at HMt HMT2
      clear ht hfe hfb HMT HAll hcl hcm
      go_enter Try.func4, Try.ntmps4
      go_wp2_with fail
      refine HFi.out.mono ?_
      rintro e w1 ⟨rfl, hb1⟩
      go_wp2_with fail
      refine (HMt.out _ hb1).mono ?_
      rintro e w2 ⟨rfl, hc2⟩
      have hb2 := Below.next hb1 hc2
      go_wp2_with fail
      refine (HRm.out _).mono ?_
      rintro e w3 ⟨v3, n, g, rfl, own3, hrm, hmo, hc3⟩
      have hb3 := Below.next hb2 hc3
      obtain ⟨na, nc, hv3⟩ := OwnM.shp own3
      subst hv3
      have HRM := hide hrm
      clear hrm hmo hb1 hb2 hc2 hc3 HFi HMt HRm
      go_wp2_with fail
      refine (HMf.out _ hb3).mono ?_
      rintro e w4 ⟨rfl, hc4⟩
      have hb4 := Below.next hb3 hc4
      have own4 := own3.below hc4 (Nat.le_refl _)
      clear hb3 hc4 own3 HMf
      go_wp2_with fail
      refine (HMT2.out _ hb4).mono ?_
      rintro e w5 ⟨rfl, hc5⟩
      have hb5 := Below.next hb4 hc5
      have own5 := own4.below hc5 (Nat.le_refl _)
      clear hb4 hc5 own4 HMT2
      go_wp2_with fail
      refine (HMa.out _).mono ?_
      rintro e w6 ⟨v6, k, r, ok, rfl, own6, hma, hmk, hc6⟩
      have hb6 := Below.next hb5 hc6
      have own7 := own5.below hc6 (Nat.le_refl _)
      clear hb5 hc6 own5 hmk HMa
      cases ok with
      | false =>
        obtain ⟨rfl, rfl⟩ := P.fits_no HRM.out hma (fun h => by cases h.1)
        clear hma HRM
        go_wp2_with fail
        refine (HFl.out _ hb6).mono ?_
        rintro e w8 ⟨rfl, hc8⟩
        have hb8 := Below.next hb6 hc8
        go_wp2_with (go_at_call 23; refine (HFA.out _ hb8).mono ?_; rintro e w9 ⟨rfl, hc9⟩)
        go_ret
        refine ⟨ret_bool ?_, Below.next hb8 hc9⟩
        cases al <;> rfl
      | true =>
        cases hre : r.toList.isEmpty with
        | false =>
          obtain ⟨rfl, rfl⟩ := P.fits_no HRM.out hma (fun h => by rw [List.isEmpty_eq_false_iff, Lib.toList_data] at hre; exact hre h.2)
          clear hma HRM
          go_wp2_with fail
          refine (HFl.out _ hb6).mono ?_
          rintro e w8 ⟨rfl, hc8⟩
          have hb8 := Below.next hb6 hc8
          go_wp2_with (go_at_call 23; refine (HFA.out _ hb8).mono ?_; rintro e w9 ⟨rfl, hc9⟩)
          go_ret
          refine ⟨ret_bool ?_, Below.next hb8 hc9⟩
          cases al <;> rfl
        | true =>
          have hr0 : P.dl r = [] := by rw [List.isEmpty_iff, Lib.toList_data] at hre; exact hre
          rw [hr0] at hma
          obtain ⟨rfl, rfl⟩ := P.fits_ok HRM.out hma
          have HSame := hide (HSm.out _ _ n n w6 (OwnM.row own7) (OwnM.row own6))
          rw [show decide (n = n) = true by simp] at HSame
          clear hma hr0 HRM
          go_wp2_with fail
          refine HSame.out.mono ?_
          rintro e w7 ⟨rfl, hc7⟩
          have hb7 := Below.next hb6 hc7
          go_wp2_with fail
          refine (HFl.out _ hb7).mono ?_
          rintro e w8 ⟨rfl, hc8⟩
          have hb8 := Below.next hb7 hc8
          go_wp2_with (go_at_call 23; refine (HFA.out _ hb8).mono ?_; rintro e w9 ⟨rfl, hc9⟩)
          go_ret
          refine ⟨ret_bool ?_, Below.next hb8 hc9⟩
          cases al <;> rfl
    · skip
      rw [hcl] at HFl
      have ht : P.tell (P.chkM m) (P.txB m) = ⟨#[]⟩ := by unfold P.tell; rw [if_neg hcm]
      rw [ht] at HMt
      have z1 : (P.chkM m == 0) = false := by simp [hcm]
      have z2 : (P.chkM m != 0) = true := by simp [hcm]
      have hfe : P.fitsE l m = P.chkM m := by unfold P.fitsE; rw [if_pos hcl]
      have hfb : P.fitsB l m = false := P.fitsB_err (by rw [hfe]; exact hcm)
      rw [hfe, hfb] at HFi
      generalize P.chkM m = cm at HMt HMf z1 z2 HFi
      clear ht hfe hfb HMT HAll hcl hcm
      go_enter Try.func4, Try.ntmps4
      go_wp2_with fail
      refine HFi.out.mono ?_
      rintro e w1 ⟨rfl, hb1⟩
      go_wp2_with fail
      refine (HMt.out _ hb1).mono ?_
      rintro e w2 ⟨rfl, hc2⟩
      have hb2 := Below.next hb1 hc2
      go_wp2_with fail
      refine (HRm.out _).mono ?_
      rintro e w3 ⟨v3, n, g, rfl, own3, hrm, hmo, hc3⟩
      have hb3 := Below.next hb2 hc3
      obtain ⟨na, nc, hv3⟩ := OwnM.shp own3
      subst hv3
      have HRM := hide hrm
      clear hrm hmo hb1 hb2 hc2 hc3 HFi HMt HRm
      go_wp2_with fail
      refine (HMf.out _ hb3).mono ?_
      rintro e w4 ⟨rfl, hc4⟩
      have hb4 := Below.next hb3 hc4
      have own4 := own3.below hc4 (Nat.le_refl _)
      clear hb3 hc4 own3 HMf
      have hb5 := hb4
      have own5 := own4
      clear hb4 own4
      go_wp2_with fail
      refine (HMa.out _).mono ?_
      rintro e w6 ⟨v6, k, r, ok, rfl, own6, hma, hmk, hc6⟩
      have hb6 := Below.next hb5 hc6
      have own7 := own5.below hc6 (Nat.le_refl _)
      clear hb5 hc6 own5 hmk HMa
      cases ok with
      | false =>
        obtain ⟨rfl, rfl⟩ := P.fits_no HRM.out hma (fun h => by cases h.1)
        clear hma HRM
        go_wp2_with fail
        refine (HFl.out _ hb6).mono ?_
        rintro e w8 ⟨rfl, hc8⟩
        have hb8 := Below.next hb6 hc8
        go_wp2
        go_ret
        refine ⟨ret_bool ?_, hb8⟩
        first | rfl | simp
      | true =>
        cases hre : r.toList.isEmpty with
        | false =>
          obtain ⟨rfl, rfl⟩ := P.fits_no HRM.out hma (fun h => by rw [List.isEmpty_eq_false_iff, Lib.toList_data] at hre; exact hre h.2)
          clear hma HRM
          go_wp2_with fail
          refine (HFl.out _ hb6).mono ?_
          rintro e w8 ⟨rfl, hc8⟩
          have hb8 := Below.next hb6 hc8
          go_wp2
          go_ret
          refine ⟨ret_bool ?_, hb8⟩
          first | rfl | simp
        | true =>
          have hr0 : P.dl r = [] := by rw [List.isEmpty_iff, Lib.toList_data] at hre; exact hre
          rw [hr0] at hma
          obtain ⟨rfl, rfl⟩ := P.fits_ok HRM.out hma
          have HSame := hide (HSm.out _ _ n n w6 (OwnM.row own7) (OwnM.row own6))
          rw [show decide (n = n) = true by simp] at HSame
          clear hma hr0 HRM
          go_wp2_with fail
          refine HSame.out.mono ?_
          rintro e w7 ⟨rfl, hc7⟩
          have hb7 := Below.next hb6 hc7
          go_wp2_with fail
          refine (HFl.out _ hb7).mono ?_
          rintro e w8 ⟨rfl, hc8⟩
          have hb8 := Below.next hb7 hc8
          go_wp2
          go_ret
          refine ⟨ret_bool ?_, hb8⟩
          first | rfl | simp
  · by_cases hcm : P.chkM m = 0
    · skip
      have y1 : (P.chk l == 0) = false := by simp [hcl]
      have y2 : (P.chk l != 0) = true := by simp [hcl]
      have ht : P.tell (P.chkM m) (P.txB m) = P.txB m := by unfold P.tell; rw [if_pos hcm]
      rw [ht, hcm] at HMt
      rw [hcm] at HMf
      have HMT2 := hide (fun w' hb => HMT.out w' hb hcm)
      have hfe : P.fitsE l m = P.chk l := by unfold P.fitsE; rw [if_neg hcl]
      have hfb : P.fitsB l m = false := P.fitsB_err (by rw [hfe]; exact hcl)
      rw [hfe, hfb] at HFi
      generalize P.txB m = T at HMt HMT2
      generalize P.chk l = cl at HFl y1 y2 HFi
      clear ht hfe hfb HMT HAll hcl hcm
      go_enter Try.func4, Try.ntmps4
      go_wp2_with fail
      refine HFi.out.mono ?_
      rintro e w1 ⟨rfl, hb1⟩
      go_wp2_with fail
      refine (HMt.out _ hb1).mono ?_
      rintro e w2 ⟨rfl, hc2⟩
      have hb2 := Below.next hb1 hc2
      go_wp2_with fail
      refine (HRm.out _).mono ?_
      rintro e w3 ⟨v3, n, g, rfl, own3, hrm, hmo, hc3⟩
      have hb3 := Below.next hb2 hc3
      obtain ⟨na, nc, hv3⟩ := OwnM.shp own3
      subst hv3
      have HRM := hide hrm
      clear hrm hmo hb1 hb2 hc2 hc3 HFi HMt HRm
      go_wp2_with fail
      refine (HMf.out _ hb3).mono ?_
      rintro e w4 ⟨rfl, hc4⟩
      have hb4 := Below.next hb3 hc4
      have own4 := own3.below hc4 (Nat.le_refl _)
      clear hb3 hc4 own3 HMf
      go_wp2_with fail
      refine (HMT2.out _ hb4).mono ?_
      rintro e w5 ⟨rfl, hc5⟩
      have hb5 := Below.next hb4 hc5
      have own5 := own4.below hc5 (Nat.le_refl _)
      clear hb4 hc5 own4 HMT2
      go_wp2_with fail
      refine (HMa.out _).mono ?_
      rintro e w6 ⟨v6, k, r, ok, rfl, own6, hma, hmk, hc6⟩
      have hb6 := Below.next hb5 hc6
      have own7 := own5.below hc6 (Nat.le_refl _)
      clear hb5 hc6 own5 hmk HMa
      cases ok with
      | false =>
        obtain ⟨rfl, rfl⟩ := P.fits_no HRM.out hma (fun h => by cases h.1)
        clear hma HRM
        go_wp2_with fail
        refine (HFl.out _ hb6).mono ?_
        rintro e w8 ⟨rfl, hc8⟩
        have hb8 := Below.next hb6 hc8
        go_wp2
        go_ret
        refine ⟨ret_bool ?_, hb8⟩
        first | rfl | simp
      | true =>
        cases hre : r.toList.isEmpty with
        | false =>
          obtain ⟨rfl, rfl⟩ := P.fits_no HRM.out hma (fun h => by rw [List.isEmpty_eq_false_iff, Lib.toList_data] at hre; exact hre h.2)
          clear hma HRM
          go_wp2_with fail
          refine (HFl.out _ hb6).mono ?_
          rintro e w8 ⟨rfl, hc8⟩
          have hb8 := Below.next hb6 hc8
          go_wp2
          go_ret
          refine ⟨ret_bool ?_, hb8⟩
          first | rfl | simp
        | true =>
          have hr0 : P.dl r = [] := by rw [List.isEmpty_iff, Lib.toList_data] at hre; exact hre
          rw [hr0] at hma
          obtain ⟨rfl, rfl⟩ := P.fits_ok HRM.out hma
          have HSame := hide (HSm.out _ _ n n w6 (OwnM.row own7) (OwnM.row own6))
          rw [show decide (n = n) = true by simp] at HSame
          clear hma hr0 HRM
          go_wp2_with fail
          refine HSame.out.mono ?_
          rintro e w7 ⟨rfl, hc7⟩
          have hb7 := Below.next hb6 hc7
          go_wp2_with fail
          refine (HFl.out _ hb7).mono ?_
          rintro e w8 ⟨rfl, hc8⟩
          have hb8 := Below.next hb7 hc8
          go_wp2
          go_ret
          refine ⟨ret_bool ?_, hb8⟩
          first | rfl | simp
    · skip
      have y1 : (P.chk l == 0) = false := by simp [hcl]
      have y2 : (P.chk l != 0) = true := by simp [hcl]
      have ht : P.tell (P.chkM m) (P.txB m) = ⟨#[]⟩ := by unfold P.tell; rw [if_neg hcm]
      rw [ht] at HMt
      have z1 : (P.chkM m == 0) = false := by simp [hcm]
      have z2 : (P.chkM m != 0) = true := by simp [hcm]
      have hfe : P.fitsE l m = P.chk l := by unfold P.fitsE; rw [if_neg hcl]
      have hfb : P.fitsB l m = false := P.fitsB_err (by rw [hfe]; exact hcl)
      rw [hfe, hfb] at HFi
      generalize P.chkM m = cm at HMt HMf z1 z2
      generalize P.chk l = cl at HFl y1 y2 HFi
      clear ht hfe hfb HMT HAll hcl hcm
      go_enter Try.func4, Try.ntmps4
      go_wp2_with fail
      refine HFi.out.mono ?_
      rintro e w1 ⟨rfl, hb1⟩
      go_wp2_with fail
      refine (HMt.out _ hb1).mono ?_
      rintro e w2 ⟨rfl, hc2⟩
      have hb2 := Below.next hb1 hc2
      go_wp2_with fail
      refine (HRm.out _).mono ?_
      rintro e w3 ⟨v3, n, g, rfl, own3, hrm, hmo, hc3⟩
      have hb3 := Below.next hb2 hc3
      obtain ⟨na, nc, hv3⟩ := OwnM.shp own3
      subst hv3
      have HRM := hide hrm
      clear hrm hmo hb1 hb2 hc2 hc3 HFi HMt HRm
      go_wp2_with fail
      refine (HMf.out _ hb3).mono ?_
      rintro e w4 ⟨rfl, hc4⟩
      have hb4 := Below.next hb3 hc4
      have own4 := own3.below hc4 (Nat.le_refl _)
      clear hb3 hc4 own3 HMf
      have hb5 := hb4
      have own5 := own4
      clear hb4 own4
      go_wp2_with fail
      refine (HMa.out _).mono ?_
      rintro e w6 ⟨v6, k, r, ok, rfl, own6, hma, hmk, hc6⟩
      have hb6 := Below.next hb5 hc6
      have own7 := own5.below hc6 (Nat.le_refl _)
      clear hb5 hc6 own5 hmk HMa
      cases ok with
      | false =>
        obtain ⟨rfl, rfl⟩ := P.fits_no HRM.out hma (fun h => by cases h.1)
        clear hma HRM
        go_wp2_with fail
        refine (HFl.out _ hb6).mono ?_
        rintro e w8 ⟨rfl, hc8⟩
        have hb8 := Below.next hb6 hc8
        go_wp2
        go_ret
        refine ⟨ret_bool ?_, hb8⟩
        first | rfl | simp
      | true =>
        cases hre : r.toList.isEmpty with
        | false =>
          obtain ⟨rfl, rfl⟩ := P.fits_no HRM.out hma (fun h => by rw [List.isEmpty_eq_false_iff, Lib.toList_data] at hre; exact hre h.2)
          clear hma HRM
          go_wp2_with fail
          refine (HFl.out _ hb6).mono ?_
          rintro e w8 ⟨rfl, hc8⟩
          have hb8 := Below.next hb6 hc8
          go_wp2
          go_ret
          refine ⟨ret_bool ?_, hb8⟩
          first | rfl | simp
        | true =>
          have hr0 : P.dl r = [] := by rw [List.isEmpty_iff, Lib.toList_data] at hre; exact hre
          rw [hr0] at hma
          obtain ⟨rfl, rfl⟩ := P.fits_ok HRM.out hma
          have HSame := hide (HSm.out _ _ n n w6 (OwnM.row own7) (OwnM.row own6))
          rw [show decide (n = n) = true by simp] at HSame
          clear hma hr0 HRM
          go_wp2_with fail
          refine HSame.out.mono ?_
          rintro e w7 ⟨rfl, hc7⟩
          have hb7 := Below.next hb6 hc7
          go_wp2_with fail
          refine (HFl.out _ hb7).mono ?_
          rintro e w8 ⟨rfl, hc8⟩
          have hb8 := Below.next hb7 hc8
          go_wp2
          go_ret
          refine ⟨ret_bool ?_, hb8⟩
          first | rfl | simp
set_option maxRecDepth 100000 in
theorem lifted_LabelFits (os : Os) (started : os.Started) (H : Type) (enc : TypeId × Value → H) (F : Stop.Interp) :
    ReturnsInHanded {} Try.checked os 4 .any ((Rows.OpenSpec.upto Rows.labelFitsSpec).pre6 enc Try.prog Try.f4 Rows.labelFitsUptoRow.domain false) (((Rows.OpenSpec.upto Rows.labelFitsSpec).at F).post enc Try.prog Try.f4 false true false false) := by
  refine returnsInHanded_of_cond_shaped (C := Try.checked) (s := Rows.OpenSpec.upto Rows.labelFitsSpec) (k := Rows.uptoSmall) rfl own started (by kernel_rfl) Try.func4
    (OpenSpec.witness (enc := enc) (C := Try.checked) (s := Rows.OpenSpec.upto Rows.labelFitsSpec) (k := Rows.uptoSmall) rfl false ⟨#[], #[.slice none 0 0, .slice none 0 0, .string ⟨#[]⟩], []⟩ 8 (by kernel_rfl) (by kernel_rfl) (by kernel_rfl)
      (x := ([.nil, .nil, .lit (.string [])], [], [])) (by kernel_rfl) rfl (by kernel_rfl)) ?_
  intro W base args ds gs before hval0 hW hcnd hk0 hsz0 hsh _
  obtain ⟨mx, hmx0⟩ := Try.laysM144.s1_3 W hsh
  have hmx : W.cell? ⟨0, 0, none⟩ = some (.int .i64 mx) := hmx0
  have hsz : (DataW.weightsEach Try.prog (Try.f4.params.toList ++ Rows.labelFitsSpec.plain.varTypes Try.prog) (ds ++ gs)).all (· ≤ reachBytes) = true := hsz0
  have hval : ∀ (j : Nat) t v, Try.f4.params[j]? = some t → args[j]? = some v → Value.okWide Try.prog W .any base t v := hval0
  have hW' := hW
  obtain ⟨p, q, hA0, hV, rfl, hfz, hnd⟩ := hW
  have hA : DataW.TrodAll enc Try.prog W 0 (fun _ => true) true Try.f4.params.toList args.toList ds p := hA0
  rw [Try.params4] at hA hval hsz
  obtain ⟨v0, vs0, d0, ds0, p0, q0, hargs, rfl, rfl, h0, r0⟩ := trodAll_cons hA
  obtain ⟨v1, vs1, d1, ds1, p1, q1, rfl, rfl, rfl, h1, r1⟩ := trodAll_cons r0
  obtain ⟨v2, vs2, d2, ds2, p2, q2, rfl, rfl, rfl, h2, r2⟩ := trodAll_cons r1
  obtain ⟨rfl, rfl, rfl⟩ := trodAll_nil r2
  obtain rfl : args = #[v0, v1, v2] := by cases args; simp_all
  obtain ⟨rfl, rfl⟩ := trodVars_none hV
  have k0 := h0
  have lt0 : ∀ x ∈ p0, x.block < W.heap.size := by obtain ⟨m, hm⟩ := k0; exact DataW.trod_lt m _ _ _ hm
  obtain ⟨s0, len0, cap0, rfl⟩ := okWide_slice Try.underlying22 (hval 0 22 v0 rfl rfl)
  obtain ⟨l0, row0, wf0, sh0⟩ := open_labels h0
  have rc0 := row_reachN hsz (j := 0) (t := 22) rfl rfl Try.underlying22 sh0
  rw [bytes58] at rc0
  have k1 := h1
  have lt1 : ∀ x ∈ p1, x.block < W.heap.size := by obtain ⟨m, hm⟩ := k1; exact DataW.trod_lt m _ _ _ hm
  obtain ⟨s1, len1, cap1, rfl⟩ := okWide_slice Try.underlying34 (hval 1 34 v1 rfl rfl)
  obtain ⟨l1, row1, wf1, sh1⟩ := open_matches h1
  have rc1 := row_reachN hsz (j := 1) (t := 34) rfl rfl Try.underlying34 sh1
  rw [bytes49] at rc1
  have k2 := h2
  have lt2 : ∀ x ∈ p2, x.block < W.heap.size := by obtain ⟨m, hm⟩ := k2; exact DataW.trod_lt m _ _ _ hm
  obtain ⟨x2, rfl, rfl, rfl, ws2⟩ := Go.ChangeMaps.open_string Try.underlying9 (hval 2 9 v2 rfl rfl) h2
  have rc2 : x2.size ≤ 140737488351232 := by rw [Lib.size_eq]; exact sized_string hsz (j := 2) (t := 9) rfl rfl
  clear hA0 hval0
  have bk2 := bulk_string (s := x2) hk0 (by simp)
  refine (walk_LabelFits (.slice s0 len0 cap0) l0 (.slice s1 len1 cap1) l1 x2 W row0 wf0 rc0 row1 wf1 rc1 rc2 bk2 mx hmx).mono fun e W' ⟨he, bel⟩ => ?_
  subst he
  exact ⟨_, rfl, _, _, _, [], _, [], hW', trodAll_mk1 (shut_bool Try.underlying4 _), (trodAll_cons_mk (Below.trod laidOut (by kernel_rfl) (of_decide_eq_true (by kernel_rfl)) k0 bel lt0) (trodAll_cons_mk (Below.trod laidOut (by kernel_rfl) (of_decide_eq_true (by kernel_rfl)) k1 bel lt1) (trodAll_cons_mk (Below.trod laidOut (by kernel_rfl) (of_decide_eq_true (by kernel_rfl)) k2 bel lt2) trodAll_mk0))), rfl, bel.frame _, fun h => by cases h⟩

theorem proved_LabelFits : Rows.LabelFitsUptoSaid :=
  OpenClaim.holds_of_cond 4 Try.f4 rfl rfl rfl rfl rfl rfl rfl ⟨rfl, rfl, rfl, rfl, rfl⟩ rfl rfl rfl rfl rfl (by kernel_rfl) Try.func4 (by kernel_rfl)
    (of_decide_eq_true (by kernel_rfl)) (by unfold Func.isWrapper; first | (rw [if_pos (by decide +kernel)]; kernel_rfl) | (rw [if_neg (by decide +kernel)]; exact ⟨rfl, rfl⟩))
    (fun os started H enc _ F => lifted_LabelFits os started H enc F)
#print axioms proved_LabelFits
end Go.Proofs.Ythdccpgjiogiaaa
