/- Several texts in one. -/
import Derived.Test.YtfjbdgkdkbcnhaaDoorRefOpenRAll
import Derived.Test.YtfjbdgkdkbcnhaaDoorCtakeAll
import Derived.Test.YtfjbdgkdkbcnhaaDoorRefSealAll
import Derived.Test.YtfjbdgkdkbcnhaaDoorEqAll
import Derived.Test.YtfjbdgkdkbcnhaaDoorLaid2All
/- ChunkOpens holds: at all bytes the law answers true and changes nothing that was there. -/
namespace Go.Proofs.YtfjbdgkdkbcnhaaDoor
open Go.ChangeShapes Go.WideShapes Go.ChangeAt Go.RowKit Go.Joins
set_option linter.unusedVariables false
theorem opens_large (v : Value) (b : List Int) (w : World) (hr : RowB w v b) (h1 : 400 < b.length) :
    Calls Tryd.prog 4 #[v] w fun e w' => e = .returned (.bool true) ∧ Below w.heap.size w w' := by
  obtain ⟨a, c, rfl, _, _⟩ := hr
  have t1 : decide ((400 : Int) < (b.length : Int)) = true := by rw [decide_eq_true_eq]; omega
  go_enter Tryd.func4, Tryd.ntmps4
  go_wp2
  go_ret
  exact ⟨rfl, Below.refl _ _⟩
set_option maxHeartbeats 1000000 in
theorem opens_small (v : Value) (b : List Int) (w : World) (hr : RowB w v b) (hbt : Byt b) (h1 : b.length ≤ 400) (hs : D.Shp w) (ht : X.Tab w) :
    Calls Tryd.prog 4 #[v] w fun e w' => e = .returned (.bool true) ∧ Below w.heap.size w w' := by
  have HO := hide (open_any v b w hr hbt hs ht)
  have HD := hide (fun (w' : World) (h : Below w.heap.size w w') => opened_any v b w' (RowK.below hr h (Nat.le_refl _)) hbt h1)
  have HRw := hide (fun (w' : World) (h : Below w.heap.size w w') => RowK.below hr h (Nat.le_refl _))
  have HB := hide hbt
  obtain ⟨a, c, hv⟩ : ∃ a c, v = .slice a b.length c := by obtain ⟨a, c, h, _⟩ := hr; exact ⟨a, c, h⟩
  rw [hv] at HO HD HRw ⊢
  have t1 : decide ((400 : Int) < (b.length : Int)) = false := by rw [decide_eq_false_iff_not]; omega
  clear hr hbt hv
  go_enter Tryd.func4, Tryd.ntmps4
  go_wp2_with fail
  refine HO.out.mono ?_
  rintro e w1 ⟨hb, ⟨l, v1, hsd, huq, own1, rfl⟩ | ⟨hno, rfl⟩⟩
  · obtain ⟨x1, c1, hv1⟩ := own1.shp
    rw [hv1] at own1 ⊢
    clear hv1
    go_wp2_with fail
    refine (HD.out _ hb).mono ?_
    rintro e w2 ⟨hb2, v2, m, ok, own2, rfl, hI, hml, hyes, hno⟩
    have hok : ok = true := by
      cases ok with
      | true => rfl
      | false => exact absurd hsd (hno rfl l)
    subst hok
    obtain rfl := huq m (hyes rfl)
    replace own1 := own1.below hb2 (Nat.le_refl _)
    replace hb := Below.next hb hb2
    have HSl := hide (sealed_any v2 m w2 own2.row hI hml)
    rw [← hsd.2.2] at HSl
    clear hb2 hno hyes huq hsd HD HO
    go_wp2_with fail
    refine HSl.out.mono ?_
    rintro e w3 ⟨v3, rfl, own3, hb3⟩
    replace own1 := own1.below hb3 (Nat.le_refl _)
    replace own2 := own2.below hb3 (Nat.le_refl _)
    replace hb := Below.next hb hb3
    have HQ := hide (equal_any _ _ b b _ (OwnB.row own3) (HRw.out _ hb) HB.out HB.out)
    rw [show sameL b b = true by unfold sameL; simp] at HQ
    have HQ2 := hide (sameSamples_any _ _ m m _ own1.row own2.row)
    rw [sameS_self] at HQ2
    clear hb3 HSl
    go_wp2_with (first
      | (go_at_call 10; go_must (refine HQ.out.mono ?_); rintro e w4 ⟨rfl, rfl⟩)
      | (go_at_call 14; go_must (refine HQ2.out.mono ?_); rintro e w5 ⟨rfl, hb5⟩))
    go_ret
    exact ⟨rfl, Below.next hb hb5⟩
  · go_wp2_with fail
    refine (HD.out _ hb).mono ?_
    rintro e w2 ⟨hb2, v2, m, ok, own2, rfl, hI, hml, hyes, _⟩
    have hok : ok = false := by
      cases ok with
      | true => exact absurd (hyes rfl) (hno m)
      | false => rfl
    subst hok
    replace hb := Below.next hb hb2
    clear hb2 hyes hno HD HO
    go_wp2
    go_ret
    exact ⟨rfl, hb⟩
theorem walk_ChunkOpens (v : Value) (b : List Int) (w : World) (hr : RowB w v b) (hbt : Byt b) (hlen : b.length ≤ 140737488351232) (hl : D.Shp w ∧ X.Tab w) :
    Calls Tryd.prog 4 #[v] w fun e w' => e = .returned (.bool true) ∧ Below w.heap.size w w' := by
  by_cases h1 : 400 < b.length
  · exact opens_large v b w hr h1
  · exact opens_small v b w hr hbt (by omega) hl.1 hl.2

theorem laid_met_ChunkOpens (os : Os) : laidMet Tryd.prog Rows.chunkOpensRow.laid ((laidWorld os).forCall (fun _ _ => 0) ⟨#[], #[.slice none 0 0], []⟩).memory := laidMet_of_run' 8 (by kernel_rfl) (by kernel_rfl)
theorem reads_ChunkOpens (os : Os) {H : Type} (enc : TypeId × Value → H) : ∃ places, DataW.whole enc Tryd.prog ((laidWorld os).forCall (fun _ _ => 0) ⟨#[], #[.slice none 0 0], []⟩).memory Tryd.f4.params.toList Rows.chunkOpensSpec.vars false (#[.slice none 0 0] : Array Value).toList 8 = some ([.nil], [], places) := ⟨[], by kernel_rfl⟩
set_option maxRecDepth 100000 in
theorem lifted_ChunkOpens (os : Os) (started : os.Started) (H : Type) (enc : TypeId × Value → H) (F : Stop.Interp) :
    ReturnsInHanded {} Tryd.checked os 4 .any ((OpenSpec.ofChange Rows.chunkOpensSpec).preRow enc Tryd.prog Tryd.f4 Rows.chunkOpensRow.domain false Rows.chunkOpensRow.laid) (((OpenSpec.ofChange Rows.chunkOpensSpec).at F).post enc Tryd.prog Tryd.f4 false true false false) := by
  obtain ⟨places, hx⟩ := reads_ChunkOpens os enc
  refine returnsInHanded_of_row (C := Tryd.checked) (s := (OpenSpec.ofChange Rows.chunkOpensSpec)) own started (by kernel_rfl) Tryd.func4
    (witness_row_at (enc := enc) (C := Tryd.checked) false (laidWorld os) #[.slice none 0 0] rfl (by kernel_rfl) (by kernel_rfl) (by kernel_rfl)
      (OpenSpec.preRow_of_cond 8 hx (by kernel_rfl) (fun k hk => by cases hk) (by kernel_rfl) (laid_met_ChunkOpens os))) ?_
  intro W base args ds gs before hval0 hW hcnd hk00 hsz0 hL _ _
  have hLd := laid_of hL
  have hsz : (DataW.weightsEach Tryd.prog (Tryd.f4.params.toList ++ Rows.chunkOpensSpec.plain.varTypes Tryd.prog) (ds ++ gs)).all (· ≤ reachBytes) = true := hsz0
  have hval : ∀ (j : Nat) t v, Tryd.f4.params[j]? = some t → args[j]? = some v → Value.okWide Tryd.prog W .any base t v := hval0
  have hW' := hW
  obtain ⟨p, q, hA0, hV, rfl, hfz, hnd⟩ := hW
  have hA : DataW.TrodAll enc Tryd.prog W 0 (fun _ => true) true Tryd.f4.params.toList args.toList ds p := hA0
  rw [Tryd.params4] at hA hval hsz
  obtain ⟨v0, vs0, d0, ds0, p0, q0, hargs, rfl, rfl, h0, r0⟩ := trodAll_cons hA
  obtain ⟨rfl, rfl, rfl⟩ := trodAll_nil r0
  obtain rfl : args = #[v0] := by cases args; simp_all
  obtain ⟨rfl, rfl⟩ := trodVars_none hV
  have k0 := h0
  have lt0 : ∀ x ∈ p0, x.block < W.heap.size := by obtain ⟨m, hm⟩ := k0; exact DataW.trod_lt m _ _ _ hm
  obtain ⟨s0, len0, cap0, rfl⟩ := okWide_slice Tryd.underlying23 (hval 0 23 v0 rfl rfl)
  obtain ⟨l0, row0, wf0, sh0⟩ := open_row Tryd.underlying23 Tryd.underlying5 cells5 h0
  have rc0 := row_reach hsz (j := 0) (t := 23) rfl rfl Tryd.underlying23 sh0
  rw [bytes5, Nat.mul_one] at rc0
  clear hA0 hval0
  refine (walk_ChunkOpens (.slice s0 len0 cap0) l0 W row0 (wf_bytes wf0) rc0 hLd).mono fun e W' ⟨he, bel⟩ => ?_
  subst he
  exact ⟨_, rfl, _, _, _, [], _, [], hW', trodAll_mk1 (shut_bool Tryd.underlying4 _), (trodAll_cons_mk (Below.trod laidOut (by kernel_rfl) (of_decide_eq_true (by kernel_rfl)) k0 bel lt0) trodAll_mk0), rfl, bel.frame _, fun h => by cases h⟩

theorem said_ChunkOpens : Rows.ChunkOpensSaid :=
  OpenClaim.holds_of_cond 4 Tryd.f4 rfl rfl rfl rfl rfl rfl rfl ⟨rfl, rfl, rfl, rfl, rfl⟩ rfl rfl rfl rfl rfl (by kernel_rfl) Tryd.func4 (by kernel_rfl)
    (of_decide_eq_true (by kernel_rfl)) (by unfold Func.isWrapper; first | (rw [if_pos (by decide +kernel)]; kernel_rfl) | (rw [if_neg (by decide +kernel)]; exact ⟨rfl, rfl⟩))
    (fun os started H enc _ F => by rw [OpenClaim.pre_eq_preRow]; exact lifted_ChunkOpens os started H enc F)
theorem plain_ChunkOpens (f : FuncId) (fn : Func) (hf : Tryd.pinned.checked.prog.funcNamed "gaugehouse/gaugehouselaw.ChunkOpens" = some f) (hfn : Tryd.pinned.checked.prog.funcs[f]? = some fn) :
    false = Tryd.pinned.checked.prog.looks [] ∧ ∀ (j : Nat) t, fn.params[j]? = some t → Tryd.pinned.checked.prog.wantsStandIn t = false := by
  obtain rfl : f = 4 := Option.some.inj ((show Tryd.prog.funcNamed "gaugehouse/gaugehouselaw.ChunkOpens" = some 4 by kernel_rfl).symm.trans hf) |>.symm
  obtain rfl : fn = Tryd.f4 := (Option.some.inj (Tryd.func4.symm.trans hfn)).symm
  refine ⟨by kernel_rfl, fun j t ht => ?_⟩
  rw [Tryd.params4] at ht
  have hm : t ∈ [23] := by simpa using Array.mem_of_getElem? ht
  have hall : ([23].all fun u => !Tryd.prog.wantsStandIn u) = true := by kernel_rfl
  exact (show Tryd.prog.wantsStandIn t = false by simpa using List.all_eq_true.1 hall t hm)
theorem proved_ChunkOpens : Rows.ChunkOpensCardSaid :=
  Claim7.holds_tied_plain_at .later [] _ _ _ _ said_ChunkOpens (fun _ h => by cases h) (by kernel_rfl) (fun _ h => by cases h) chunkOpens_row_tie rfl ⟨rfl, rfl⟩ (by kernel_rfl) rfl plain_ChunkOpens (by kernel_rfl)
#print axioms proved_ChunkOpens
end Go.Proofs.YtfjbdgkdkbcnhaaDoor
