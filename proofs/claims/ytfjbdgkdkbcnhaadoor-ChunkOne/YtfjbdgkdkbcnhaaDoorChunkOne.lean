/- ChunkOne holds: at all bytes the law answers true and changes nothing that was there. -/
import Derived.Test.YtfjbdgkdkbcnhaaDoorCsplitAll
import Derived.Test.YtfjbdgkdkbcnhaaDoorCtakeAll
import Derived.Test.YtfjbdgkdkbcnhaaDoorChunkRAll
import Derived.Test.YtfjbdgkdkbcnhaaDoorEq
import Derived.Test.YtfjbdgkdkbcnhaaDoorLaid2
namespace Go.Proofs.YtfjbdgkdkbcnhaaDoor
open Go.ChangeShapes Go.WideShapes Go.ChangeAt Go.RowKit Go.Joins
set_option linter.unusedVariables false
theorem walk_ChunkOne (v : Value) (b : List Int) (w : World) (hr : RowB w v b) (hbt : Byt b) (hlen : b.length ≤ 140737488351232) (hl : D.Shp w ∧ X.Tab w) :
    Calls Tryd.prog 6 #[v] w fun e w' => e = .returned (.bool true) ∧ Below w.heap.size w w' := by
  have hs := hl.1
  have ht := hl.2
  have HO := hide (fun (w' : World) (h : Below w.heap.size w w') => open_any v b w' (hr.below h (Nat.le_refl _)) hbt (hs.next h) (ht.next h))
  have HSl := hide (fun (l : List (Int × Int)) (hsd : P.Sd b l) (v : Value) (w' : World) (hr : RowS w' v l) (h : Below w.heap.size w w') => seal_ok v l w' hr hsd.2.1 hsd.1 (hs.next h) (ht.next h))
  have HRw := hide (fun (w' : World) (h : Below w.heap.size w w') => RowK.below hr h (Nat.le_refl _))
  have HB := hide hbt
  clear hr hbt hl
  go_enter Tryd.func6, Tryd.ntmps6
  go_wp2_with (go_at_call 15; go_must (refine (chunks_any _).mono ?_); rintro e w1 ⟨rfl, hb⟩)
  refine (HO.out _ hb).mono ?_
  rintro e w2 ⟨hb2, ⟨l, v2, hsd, huq, own2, rfl⟩ | ⟨hno, rfl⟩⟩
  · replace hb := Below.next hb hb2
    have HS2 := hide (HSl.out l hsd v2 w2 own2.row hb)
    rw [← hsd.2.2] at HS2
    clear hb2 hsd huq HO HSl
    go_wp2_with fail
    refine HS2.out.mono ?_
    rintro e w3 ⟨v3, rfl, own3, hb3⟩
    replace hb := Below.next hb hb3
    have HQ := hide (equal_any _ _ b b _ (HRw.out _ hb) (OwnB.row own3) HB.out HB.out)
    rw [show sameL b b = true by unfold sameL; simp] at HQ
    clear hb3 HS2 own2
    go_wp2_with (go_at_call 10; go_must (refine HQ.out.mono ?_); rintro e w4 ⟨rfl, rfl⟩)
    go_ret
    exact ⟨rfl, hb⟩
  · replace hb := Below.next hb hb2
    clear hb2 hno HO HSl
    go_wp2
    go_ret
    exact ⟨rfl, hb⟩

theorem laid_met_ChunkOne (os : Os) : laidMet Tryd.prog Rows.chunkOneRow.laid ((laidWorld os).forCall (fun _ _ => 0) ⟨#[], #[.slice none 0 0], []⟩).memory := laidMet_of_run' 8 (by kernel_rfl) (by kernel_rfl)
theorem reads_ChunkOne (os : Os) {H : Type} (enc : TypeId × Value → H) : ∃ places, DataW.whole enc Tryd.prog ((laidWorld os).forCall (fun _ _ => 0) ⟨#[], #[.slice none 0 0], []⟩).memory Tryd.f6.params.toList Rows.chunkOneSpec.vars false (#[.slice none 0 0] : Array Value).toList 8 = some ([.nil], [], places) := ⟨[], by kernel_rfl⟩
set_option maxRecDepth 100000 in
theorem lifted_ChunkOne (os : Os) (started : os.Started) (H : Type) (enc : TypeId × Value → H) (F : Stop.Interp) :
    ReturnsInHanded {} Tryd.checked os 6 .any ((OpenSpec.ofChange Rows.chunkOneSpec).preRow enc Tryd.prog Tryd.f6 Rows.chunkOneRow.domain false Rows.chunkOneRow.laid) (((OpenSpec.ofChange Rows.chunkOneSpec).at F).post enc Tryd.prog Tryd.f6 false true false false) := by
  obtain ⟨places, hx⟩ := reads_ChunkOne os enc
  refine returnsInHanded_of_row (C := Tryd.checked) (s := (OpenSpec.ofChange Rows.chunkOneSpec)) own started (by kernel_rfl) Tryd.func6
    (witness_row_at (enc := enc) (C := Tryd.checked) false (laidWorld os) #[.slice none 0 0] rfl (by kernel_rfl) (by kernel_rfl) (by kernel_rfl)
      (OpenSpec.preRow_of_cond 8 hx (by kernel_rfl) (fun k hk => by cases hk) (by kernel_rfl) (laid_met_ChunkOne os))) ?_
  intro W base args ds gs before hval0 hW hcnd hk00 hsz0 hL _ _
  have hLd := laid_of hL
  have hsz : (DataW.weightsEach Tryd.prog (Tryd.f6.params.toList ++ Rows.chunkOneSpec.plain.varTypes Tryd.prog) (ds ++ gs)).all (· ≤ reachBytes) = true := hsz0
  have hval : ∀ (j : Nat) t v, Tryd.f6.params[j]? = some t → args[j]? = some v → Value.okWide Tryd.prog W .any base t v := hval0
  have hW' := hW
  obtain ⟨p, q, hA0, hV, rfl, hfz, hnd⟩ := hW
  have hA : DataW.TrodAll enc Tryd.prog W 0 (fun _ => true) true Tryd.f6.params.toList args.toList ds p := hA0
  rw [Tryd.params6] at hA hval hsz
  obtain ⟨v0, vs0, d0, ds0, p0, q0, hargs, rfl, rfl, h0, r0⟩ := trodAll_cons hA
  obtain ⟨rfl, rfl, rfl⟩ := trodAll_nil r0
  obtain rfl : args = #[v0] := by cases args; simp_all
  obtain ⟨rfl, rfl⟩ := trodVars_none hV
  have k0 := h0
  have lt0 : ∀ x ∈ p0, x.block < W.heap.size := by obtain ⟨m, hm⟩ := k0; exact DataW.trod_lt m _ _ _ hm
  obtain ⟨s0, len0, cap0, rfl⟩ := okWide_slice Tryd.underlying23 (hval 0 23 v0 rfl rfl)
  obtain ⟨l0, row0, wf0, sh0⟩ := open_row Tryd.underlying23 Tryd.underlying5 cells5 h0
  have rc0 := row_reach hsz (j := 0) (t := 23) rfl rfl Tryd.underlying23 sh0
  rw [bytes5, Nat.mul_one] at rc0
  clear hA0 hval0
  refine (walk_ChunkOne (.slice s0 len0 cap0) l0 W row0 (wf_bytes wf0) rc0 hLd).mono fun e W' ⟨he, bel⟩ => ?_
  subst he
  exact ⟨_, rfl, _, _, _, [], _, [], hW', trodAll_mk1 (shut_bool Tryd.underlying4 _), (trodAll_cons_mk (Below.trod laidOut (by kernel_rfl) (of_decide_eq_true (by kernel_rfl)) k0 bel lt0) trodAll_mk0), rfl, bel.frame _, fun h => by cases h⟩

theorem said_ChunkOne : Rows.ChunkOneSaid :=
  OpenClaim.holds_of_cond 6 Tryd.f6 rfl rfl rfl rfl rfl rfl rfl ⟨rfl, rfl, rfl, rfl, rfl⟩ rfl rfl rfl rfl rfl (by kernel_rfl) Tryd.func6 (by kernel_rfl)
    (of_decide_eq_true (by kernel_rfl)) (by unfold Func.isWrapper; first | (rw [if_pos (by decide +kernel)]; kernel_rfl) | (rw [if_neg (by decide +kernel)]; exact ⟨rfl, rfl⟩))
    (fun os started H enc _ F => by rw [OpenClaim.pre_eq_preRow]; exact lifted_ChunkOne os started H enc F)
theorem plain_ChunkOne (f : FuncId) (fn : Func) (hf : Tryd.pinned.checked.prog.funcNamed "gaugehouse/gaugehousekeep.ChunkOne" = some f) (hfn : Tryd.pinned.checked.prog.funcs[f]? = some fn) :
    false = Tryd.pinned.checked.prog.looks [] ∧ ∀ (j : Nat) t, fn.params[j]? = some t → Tryd.pinned.checked.prog.wantsStandIn t = false := by
  obtain rfl : f = 6 := Option.some.inj ((show Tryd.prog.funcNamed "gaugehouse/gaugehousekeep.ChunkOne" = some 6 by kernel_rfl).symm.trans hf) |>.symm
  obtain rfl : fn = Tryd.f6 := (Option.some.inj (Tryd.func6.symm.trans hfn)).symm
  refine ⟨by kernel_rfl, fun j t ht => ?_⟩
  rw [Tryd.params6] at ht
  have hm : t ∈ [23] := by simpa using Array.mem_of_getElem? ht
  have hall : ([23].all fun u => !Tryd.prog.wantsStandIn u) = true := by kernel_rfl
  exact (show Tryd.prog.wantsStandIn t = false by simpa using List.all_eq_true.1 hall t hm)
theorem proved_ChunkOne : Rows.ChunkOneCardSaid :=
  Claim7.holds_tied_plain_at .later [] _ _ _ _ said_ChunkOne (fun _ h => by cases h) (by kernel_rfl) (fun _ h => by cases h) chunkOne_row_tie rfl ⟨rfl, rfl⟩ (by kernel_rfl) rfl plain_ChunkOne (by kernel_rfl)
#print axioms proved_ChunkOne
end Go.Proofs.YtfjbdgkdkbcnhaaDoor
