/- ChunkSeals holds: at all samples the law answers true and changes nothing that was there. -/
import Derived.Test.YtfjbdgkdkbcnhaaDoorRefSealAll
import Derived.Test.YtfjbdgkdkbcnhaaDoorSealByt
import Derived.Test.YtfjbdgkdkbcnhaaDoorEq
import Derived.Test.YtfjbdgkdkbcnhaaDoorLaid2
namespace Go.Proofs.YtfjbdgkdkbcnhaaDoor
open Go.ChangeShapes Go.WideShapes Go.ChangeAt Go.RowKit Go.Joins
set_option linter.unusedVariables false
theorem seals_some (v : Value) (l : List (Int × Int)) (w : World) (hr : RowS w v l) (h1 : 40 < l.length) (h2 : l.length ≤ 1000) :
    Calls Tryd.prog 3 #[v] w fun e w' => e = .returned (.bool true) ∧ Below w.heap.size w w' := by
  obtain ⟨x, cap, rfl⟩ := hr.shp
  have t1 : (40 : Int) < (l.length : Int) := by omega
  have t2 : (l.length : Int) ≤ 1000 := by omega
  clear hr
  go_enter Tryd.func3, Tryd.ntmps3
  go_wp2
  go_ret
  exact ⟨rfl, Below.refl _ _⟩
theorem seals_bad (v : Value) (l : List (Int × Int)) (w : World) (hr : RowS w v l) (hq : ¬ (40 < l.length ∧ l.length ≤ 1000)) (hc : P.chk l ≠ 0) :
    Calls Tryd.prog 3 #[v] w fun e w' => e = .returned (.bool true) ∧ Below w.heap.size w w' := by
  have HS := hide (fun (w' : World) (h : Below w.heap.size w w') => seal_bad v l w' (hr.below h (Nat.le_refl _)) hc)
  have HF := hide (fun (w' : World) (h : Below w.heap.size w w') => samplesFault_any v l w' (hr.below h (Nat.le_refl _)))
  have HC := hide (fun (w' : World) (h : Below w.heap.size w w') => check_any v l w' (hr.below h (Nat.le_refl _)))
  obtain ⟨x, cap, rfl⟩ := hr.shp
  generalize P.chk l = c at *
  have ht : (c != 0) = true := by simpa using hc
  have ht2 : (c != c) = false := by simp
  have ht3 : (c == c) = true := by simp
  clear hc hr
  by_cases h1 : 40 < l.length
  · have t1 : (40 : Int) < (l.length : Int) := by omega
    have t2 : decide ((l.length : Int) ≤ 1000) = false := by rw [decide_eq_false_iff_not]; omega
    clear hq
    go_enter Tryd.func3, Tryd.ntmps3
    go_wp2_with (first
      | (go_at_call 7; go_must (refine (HS.out _ (Below.refl _ _)).mono ?_); rintro e w1 ⟨rfl, hb⟩)
      | (go_at_call 8; go_must (refine (HF.out _ hb).mono ?_); rintro e w2 ⟨rfl, hb2⟩; replace hb := Below.next hb hb2; clear hb2)
      | (go_at_call 9; go_must (refine (HC.out _ hb).mono ?_); rintro e w2 ⟨rfl, hb2⟩; replace hb := Below.next hb hb2; clear hb2))
    go_ret
    exact ⟨rfl, hb⟩
  · have t1 : decide ((40 : Int) < (l.length : Int)) = false := by rw [decide_eq_false_iff_not]; omega
    clear hq
    go_enter Tryd.func3, Tryd.ntmps3
    go_wp2_with (first
      | (go_at_call 7; go_must (refine (HS.out _ (Below.refl _ _)).mono ?_); rintro e w1 ⟨rfl, hb⟩)
      | (go_at_call 8; go_must (refine (HF.out _ hb).mono ?_); rintro e w2 ⟨rfl, hb2⟩; replace hb := Below.next hb hb2; clear hb2)
      | (go_at_call 9; go_must (refine (HC.out _ hb).mono ?_); rintro e w2 ⟨rfl, hb2⟩; replace hb := Below.next hb hb2; clear hb2))
    go_ret
    exact ⟨rfl, hb⟩
theorem seals_ok (v : Value) (l : List (Int × Int)) (w : World) (hr : RowS w v l) (hi : P.I64s l) (hq : l.length ≤ 40) (hc : P.chk l = 0) (hs : D.Shp w) (ht : X.Tab w) :
    Calls Tryd.prog 3 #[v] w fun e w' => e = .returned (.bool true) ∧ Below w.heap.size w w' := by
  have HS := hide (seal_ok v l w hr hi hc hs ht)
  have HF := hide (fun (w' : World) (h : Below w.heap.size w w') => samplesFault_any v l w' (hr.below h (Nat.le_refl _)))
  have HC := hide (fun (w' : World) (h : Below w.heap.size w w') => check_any v l w' (hr.below h (Nat.le_refl _)))
  have HD := hide (fun (w' : World) (h : Below w.heap.size w w') => sealed_any v l w' (hr.below h (Nat.le_refl _)) hi (by omega))
  have HB := hide (P.sealB_byt l hc)
  rw [hc] at HF HC
  obtain ⟨x, cap, rfl⟩ := hr.shp
  have t1 : decide ((40 : Int) < (l.length : Int)) = false := by rw [decide_eq_false_iff_not]; omega
  clear hr hi hc
  generalize P.sealB l = z at *
  go_enter Tryd.func3, Tryd.ntmps3
  go_wp2_with fail
  refine HS.out.mono ?_
  rintro e w1 ⟨v1, rfl, own1, hb⟩
  go_wp2_with fail
  refine (HF.out _ hb).mono ?_
  rintro e w2 ⟨rfl, hb2⟩
  replace own1 := OwnB.below own1 hb2 (Nat.le_refl _)
  replace hb := Below.next hb hb2
  clear hb2
  go_wp2_with fail
  refine (HC.out _ hb).mono ?_
  rintro e w3 ⟨rfl, hb2⟩
  replace own1 := OwnB.below own1 hb2 (Nat.le_refl _)
  replace hb := Below.next hb hb2
  clear hb2
  go_wp2_with fail
  refine (HD.out _ hb).mono ?_
  rintro e w4 ⟨v4, rfl, own4, hb2⟩
  replace own1 := OwnB.below own1 hb2 (Nat.le_refl _)
  replace hb := Below.next hb hb2
  clear hb2
  have HQ := hide (equal_any _ _ z z _ (OwnB.row own1) (OwnB.row own4) HB.out HB.out)
  rw [show sameL z z = true by unfold sameL; simp] at HQ
  go_wp2_with (go_at_call 10; go_must (refine HQ.out.mono ?_); rintro e w5 ⟨rfl, rfl⟩)
  go_ret
  exact ⟨rfl, hb⟩
theorem walk_ChunkSeals (v : Value) (l : List (Int × Int)) (w : World) (hr : RowS w v l) (hi : P.I64s l) (hlen : l.length * 16 ≤ 140737488351232) (hl : D.Shp w ∧ X.Tab w) :
    Calls Tryd.prog 3 #[v] w fun e w' => e = .returned (.bool true) ∧ Below w.heap.size w w' := by
  by_cases hq : 40 < l.length ∧ l.length ≤ 1000
  · exact seals_some v l w hr hq.1 hq.2
  · by_cases hc : P.chk l = 0
    · have := (P.chk_zero hc).1
      exact seals_ok v l w hr hi (by omega) hc hl.1 hl.2
    · exact seals_bad v l w hr hq hc

theorem laid_met_ChunkSeals (os : Os) : laidMet Tryd.prog Rows.chunkSealsRow.laid ((laidWorld os).forCall (fun _ _ => 0) ⟨#[], #[.slice none 0 0], []⟩).memory := laidMet_of_run' 8 (by kernel_rfl) (by kernel_rfl)
theorem reads_ChunkSeals (os : Os) {H : Type} (enc : TypeId × Value → H) : ∃ places, DataW.whole enc Tryd.prog ((laidWorld os).forCall (fun _ _ => 0) ⟨#[], #[.slice none 0 0], []⟩).memory Tryd.f3.params.toList Rows.chunkSealsSpec.vars false (#[.slice none 0 0] : Array Value).toList 8 = some ([.nil], [], places) := ⟨[], by kernel_rfl⟩
set_option maxRecDepth 100000 in
theorem lifted_ChunkSeals (os : Os) (started : os.Started) (H : Type) (enc : TypeId × Value → H) (F : Stop.Interp) :
    ReturnsInHanded {} Tryd.checked os 3 .any ((OpenSpec.ofChange Rows.chunkSealsSpec).preRow enc Tryd.prog Tryd.f3 Rows.chunkSealsRow.domain false Rows.chunkSealsRow.laid) (((OpenSpec.ofChange Rows.chunkSealsSpec).at F).post enc Tryd.prog Tryd.f3 false true false false) := by
  obtain ⟨places, hx⟩ := reads_ChunkSeals os enc
  refine returnsInHanded_of_row (C := Tryd.checked) (s := (OpenSpec.ofChange Rows.chunkSealsSpec)) own started (by kernel_rfl) Tryd.func3
    (witness_row_at (enc := enc) (C := Tryd.checked) false (laidWorld os) #[.slice none 0 0] rfl (by kernel_rfl) (by kernel_rfl) (by kernel_rfl)
      (OpenSpec.preRow_of_cond 8 hx (by kernel_rfl) (fun k hk => by cases hk) (by kernel_rfl) (laid_met_ChunkSeals os))) ?_
  intro W base args ds gs before hval0 hW hcnd hk00 hsz0 hL _ _
  have hLd := laid_of hL
  have hsz : (DataW.weightsEach Tryd.prog (Tryd.f3.params.toList ++ Rows.chunkSealsSpec.plain.varTypes Tryd.prog) (ds ++ gs)).all (· ≤ reachBytes) = true := hsz0
  have hval : ∀ (j : Nat) t v, Tryd.f3.params[j]? = some t → args[j]? = some v → Value.okWide Tryd.prog W .any base t v := hval0
  have hW' := hW
  obtain ⟨p, q, hA0, hV, rfl, hfz, hnd⟩ := hW
  have hA : DataW.TrodAll enc Tryd.prog W 0 (fun _ => true) true Tryd.f3.params.toList args.toList ds p := hA0
  rw [Tryd.params3] at hA hval hsz
  obtain ⟨v0, vs0, d0, ds0, p0, q0, hargs, rfl, rfl, h0, r0⟩ := trodAll_cons hA
  obtain ⟨rfl, rfl, rfl⟩ := trodAll_nil r0
  obtain rfl : args = #[v0] := by cases args; simp_all
  obtain ⟨rfl, rfl⟩ := trodVars_none hV
  have k0 := h0
  have lt0 : ∀ x ∈ p0, x.block < W.heap.size := by obtain ⟨m, hm⟩ := k0; exact DataW.trod_lt m _ _ _ hm
  obtain ⟨s0, len0, cap0, rfl⟩ := okWide_slice Tryd.underlying22 (hval 0 22 v0 rfl rfl)
  obtain ⟨l0, row0, wf0, sh0⟩ := open_samples h0
  have rc0 := row_reachN hsz (j := 0) (t := 22) rfl rfl Tryd.underlying22 sh0
  rw [bytes49] at rc0
  clear hA0 hval0
  refine (walk_ChunkSeals (.slice s0 len0 cap0) l0 W row0 wf0 rc0 hLd).mono fun e W' ⟨he, bel⟩ => ?_
  subst he
  exact ⟨_, rfl, _, _, _, [], _, [], hW', trodAll_mk1 (shut_bool Tryd.underlying4 _), (trodAll_cons_mk (Below.trod laidOut (by kernel_rfl) (of_decide_eq_true (by kernel_rfl)) k0 bel lt0) trodAll_mk0), rfl, bel.frame _, fun h => by cases h⟩

theorem said_ChunkSeals : Rows.ChunkSealsSaid :=
  OpenClaim.holds_of_cond 3 Tryd.f3 rfl rfl rfl rfl rfl rfl rfl ⟨rfl, rfl, rfl, rfl, rfl⟩ rfl rfl rfl rfl rfl (by kernel_rfl) Tryd.func3 (by kernel_rfl)
    (of_decide_eq_true (by kernel_rfl)) (by unfold Func.isWrapper; first | (rw [if_pos (by decide +kernel)]; kernel_rfl) | (rw [if_neg (by decide +kernel)]; exact ⟨rfl, rfl⟩))
    (fun os started H enc _ F => by rw [OpenClaim.pre_eq_preRow]; exact lifted_ChunkSeals os started H enc F)
theorem plain_ChunkSeals (f : FuncId) (fn : Func) (hf : Tryd.pinned.checked.prog.funcNamed "gaugehouse/gaugehouselaw.ChunkSeals" = some f) (hfn : Tryd.pinned.checked.prog.funcs[f]? = some fn) :
    false = Tryd.pinned.checked.prog.looks [] ∧ ∀ (j : Nat) t, fn.params[j]? = some t → Tryd.pinned.checked.prog.wantsStandIn t = false := by
  obtain rfl : f = 3 := Option.some.inj ((show Tryd.prog.funcNamed "gaugehouse/gaugehouselaw.ChunkSeals" = some 3 by kernel_rfl).symm.trans hf) |>.symm
  obtain rfl : fn = Tryd.f3 := (Option.some.inj (Tryd.func3.symm.trans hfn)).symm
  refine ⟨by kernel_rfl, fun j t ht => ?_⟩
  rw [Tryd.params3] at ht
  have hm : t ∈ [22] := by simpa using Array.mem_of_getElem? ht
  have hall : ([22].all fun u => !Tryd.prog.wantsStandIn u) = true := by kernel_rfl
  exact (show Tryd.prog.wantsStandIn t = false by simpa using List.all_eq_true.1 hall t hm)
theorem proved_ChunkSeals : Rows.ChunkSealsCardSaid :=
  Claim7.holds_tied_plain_at .later [] _ _ _ _ said_ChunkSeals (fun _ h => by cases h) (by kernel_rfl) (fun _ h => by cases h) chunkSeals_row_tie rfl ⟨rfl, rfl⟩ (by kernel_rfl) rfl plain_ChunkSeals (by kernel_rfl)
#print axioms proved_ChunkSeals
end Go.Proofs.YtfjbdgkdkbcnhaaDoor
