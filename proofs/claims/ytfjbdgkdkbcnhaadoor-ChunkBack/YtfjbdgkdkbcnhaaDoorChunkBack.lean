/- ChunkBack holds: at all samples the law answers true and changes nothing that was there. -/
import Derived.Test.YtfjbdgkdkbcnhaaDoorCsplitAll
import Derived.Test.YtfjbdgkdkbcnhaaDoorCtakeAll
import Derived.Test.YtfjbdgkdkbcnhaaDoorChunkRAll
import Derived.Test.YtfjbdgkdkbcnhaaDoorEqS
import Derived.Test.YtfjbdgkdkbcnhaaDoorLaid2
import Derived.Test.YtfjbdgkdkbcnhaaDoorSealByt
namespace Go.Proofs.YtfjbdgkdkbcnhaaDoor
open Go.ChangeShapes Go.WideShapes Go.ChangeAt Go.RowKit Go.Joins
set_option linter.unusedVariables false
theorem back_bad (v : Value) (l : List (Int × Int)) (w : World) (hr : RowS w v l) (hc : P.chk l ≠ 0) :
    Calls Tryd.prog 5 #[v] w fun e w' => e = .returned (.bool true) ∧ Below w.heap.size w w' := by
  have HS := hide (fun (w' : World) (h : Below w.heap.size w w') => seal_bad v l w' (hr.below h (Nat.le_refl _)) hc)
  generalize P.chk l = c at *
  have ht : (c != 0) = true := by simpa using hc
  clear hc hr
  go_enter Tryd.func5, Tryd.ntmps5
  go_wp2_with (first
    | (go_at_call 15; go_must (refine (chunks_any _).mono ?_); rintro e w1 ⟨rfl, hb⟩)
    | (go_at_call 7; go_must (refine (HS.out _ hb).mono ?_); rintro e w2 ⟨rfl, hb2⟩; replace hb := Below.next hb hb2; clear hb2))
  go_ret
  exact ⟨rfl, hb⟩
theorem back_ok (v : Value) (l : List (Int × Int)) (w : World) (hr : RowS w v l) (hi : P.I64s l) (hc : P.chk l = 0) (hs : D.Shp w) (ht : X.Tab w) :
    Calls Tryd.prog 5 #[v] w fun e w' => e = .returned (.bool true) ∧ Below w.heap.size w w' := by
  have HS := hide (fun (w' : World) (h : Below w.heap.size w w') => seal_ok v l w' (hr.below h (Nat.le_refl _)) hi hc (hs.next h) (ht.next h))
  have HO := hide (fun (v : Value) (w' : World) (hr : RowB w' v (P.sealB l)) (h : Below w.heap.size w w') => open_any v (P.sealB l) w' hr (P.sealB_byt l hc) (hs.next h) (ht.next h))
  have HSd : Hid (P.Sd (P.sealB l) l) := ⟨hc, hi, rfl⟩
  have HRw := hide (fun (w' : World) (h : Below w.heap.size w w') => hr.below h (Nat.le_refl _))
  clear hr hi hc
  generalize P.sealB l = z at *
  go_enter Tryd.func5, Tryd.ntmps5
  go_wp2_with (go_at_call 15; go_must (refine (chunks_any _).mono ?_); rintro e w1 ⟨rfl, hb⟩)
  refine (HS.out _ hb).mono ?_
  rintro e w2 ⟨v2, rfl, own2, hb2⟩
  replace hb := Below.next hb hb2
  clear hb2
  go_wp2_with fail
  refine (HO.out _ _ (OwnB.row own2) hb).mono ?_
  rintro e w3 ⟨hb3, ⟨l', v3, hsd, huq, own3, rfl⟩ | ⟨hno, rfl⟩⟩
  · obtain rfl := huq _ HSd.out
    replace hb := Below.next hb hb3
    have HQ := hide (same_any _ _ l l _ (HRw.out _ hb) own3.row)
    rw [sameS_self] at HQ
    clear hb3 hsd huq HO HS
    go_wp2_with (go_at_call 16; go_must (refine HQ.out.mono ?_); rintro e w4 ⟨rfl, hb4⟩)
    go_ret
    exact ⟨rfl, Below.next hb hb4⟩
  · exact absurd HSd.out (hno l)
theorem walk_ChunkBack (v : Value) (l : List (Int × Int)) (w : World) (hr : RowS w v l) (hi : P.I64s l) (hlen : l.length * 16 ≤ 140737488351232) (hl : D.Shp w ∧ X.Tab w) :
    Calls Tryd.prog 5 #[v] w fun e w' => e = .returned (.bool true) ∧ Below w.heap.size w w' := by
  by_cases hc : P.chk l = 0
  · exact back_ok v l w hr hi hc hl.1 hl.2
  · exact back_bad v l w hr hc

theorem laid_met_ChunkBack (os : Os) : laidMet Tryd.prog Rows.chunkBackRow.laid ((laidWorld os).forCall (fun _ _ => 0) ⟨#[], #[.slice none 0 0], []⟩).memory := laidMet_of_run' 8 (by kernel_rfl) (by kernel_rfl)
theorem reads_ChunkBack (os : Os) {H : Type} (enc : TypeId × Value → H) : ∃ places, DataW.whole enc Tryd.prog ((laidWorld os).forCall (fun _ _ => 0) ⟨#[], #[.slice none 0 0], []⟩).memory Tryd.f5.params.toList Rows.chunkBackSpec.vars false (#[.slice none 0 0] : Array Value).toList 8 = some ([.nil], [], places) := ⟨[], by kernel_rfl⟩
set_option maxRecDepth 100000 in
theorem lifted_ChunkBack (os : Os) (started : os.Started) (H : Type) (enc : TypeId × Value → H) (F : Stop.Interp) :
    ReturnsInHanded {} Tryd.checked os 5 .any ((OpenSpec.ofChange Rows.chunkBackSpec).preRow enc Tryd.prog Tryd.f5 Rows.chunkBackRow.domain false Rows.chunkBackRow.laid) (((OpenSpec.ofChange Rows.chunkBackSpec).at F).post enc Tryd.prog Tryd.f5 false true false false) := by
  obtain ⟨places, hx⟩ := reads_ChunkBack os enc
  refine returnsInHanded_of_row (C := Tryd.checked) (s := (OpenSpec.ofChange Rows.chunkBackSpec)) own started (by kernel_rfl) Tryd.func5
    (witness_row_at (enc := enc) (C := Tryd.checked) false (laidWorld os) #[.slice none 0 0] rfl (by kernel_rfl) (by kernel_rfl) (by kernel_rfl)
      (OpenSpec.preRow_of_cond 8 hx (by kernel_rfl) (fun k hk => by cases hk) (by kernel_rfl) (laid_met_ChunkBack os))) ?_
  intro W base args ds gs before hval0 hW hcnd hk00 hsz0 hL _ _
  have hLd := laid_of hL
  have hsz : (DataW.weightsEach Tryd.prog (Tryd.f5.params.toList ++ Rows.chunkBackSpec.plain.varTypes Tryd.prog) (ds ++ gs)).all (· ≤ reachBytes) = true := hsz0
  have hval : ∀ (j : Nat) t v, Tryd.f5.params[j]? = some t → args[j]? = some v → Value.okWide Tryd.prog W .any base t v := hval0
  have hW' := hW
  obtain ⟨p, q, hA0, hV, rfl, hfz, hnd⟩ := hW
  have hA : DataW.TrodAll enc Tryd.prog W 0 (fun _ => true) true Tryd.f5.params.toList args.toList ds p := hA0
  rw [Tryd.params5] at hA hval hsz
  obtain ⟨v0, vs0, d0, ds0, p0, q0, hargs, rfl, rfl, h0, r0⟩ := trodAll_cons hA
  obtain ⟨rfl, rfl, rfl⟩ := trodAll_nil r0
  obtain rfl : args = #[v0] := by cases args; simp_all
  obtain ⟨rfl, rfl⟩ := trodVars_none hV
  have k0 := h0
  have lt0 : ∀ x ∈ p0, x.block < W.heap.size := by obtain ⟨m, hm⟩ := k0; exact DataW.trod_lt m _ _ _ hm
  obtain ⟨s0, len0, cap0, rfl⟩ := okWide_slice Tryd.underlying22 (hval 0 22 v0 rfl rfl)
  obtain ⟨l0, row0, wf0, sh0⟩ := open_samples h0
  have rc0 := row_reachN hsz (j := 0) (t := 22) rfl rfl Tryd.underlying22 sh0
  rw [bytes49] at rc0
  clear hA0 hval0
  refine (walk_ChunkBack (.slice s0 len0 cap0) l0 W row0 wf0 rc0 hLd).mono fun e W' ⟨he, bel⟩ => ?_
  subst he
  exact ⟨_, rfl, _, _, _, [], _, [], hW', trodAll_mk1 (shut_bool Tryd.underlying4 _), (trodAll_cons_mk (Below.trod laidOut (by kernel_rfl) (of_decide_eq_true (by kernel_rfl)) k0 bel lt0) trodAll_mk0), rfl, bel.frame _, fun h => by cases h⟩

theorem said_ChunkBack : Rows.ChunkBackSaid :=
  OpenClaim.holds_of_cond 5 Tryd.f5 rfl rfl rfl rfl rfl rfl rfl ⟨rfl, rfl, rfl, rfl, rfl⟩ rfl rfl rfl rfl rfl (by kernel_rfl) Tryd.func5 (by kernel_rfl)
    (of_decide_eq_true (by kernel_rfl)) (by unfold Func.isWrapper; first | (rw [if_pos (by decide +kernel)]; kernel_rfl) | (rw [if_neg (by decide +kernel)]; exact ⟨rfl, rfl⟩))
    (fun os started H enc _ F => by rw [OpenClaim.pre_eq_preRow]; exact lifted_ChunkBack os started H enc F)
theorem plain_ChunkBack (f : FuncId) (fn : Func) (hf : Tryd.pinned.checked.prog.funcNamed "gaugehouse/gaugehousekeep.ChunkBack" = some f) (hfn : Tryd.pinned.checked.prog.funcs[f]? = some fn) :
    false = Tryd.pinned.checked.prog.looks [] ∧ ∀ (j : Nat) t, fn.params[j]? = some t → Tryd.pinned.checked.prog.wantsStandIn t = false := by
  obtain rfl : f = 5 := Option.some.inj ((show Tryd.prog.funcNamed "gaugehouse/gaugehousekeep.ChunkBack" = some 5 by kernel_rfl).symm.trans hf) |>.symm
  obtain rfl : fn = Tryd.f5 := (Option.some.inj (Tryd.func5.symm.trans hfn)).symm
  refine ⟨by kernel_rfl, fun j t ht => ?_⟩
  rw [Tryd.params5] at ht
  have hm : t ∈ [22] := by simpa using Array.mem_of_getElem? ht
  have hall : ([22].all fun u => !Tryd.prog.wantsStandIn u) = true := by kernel_rfl
  exact (show Tryd.prog.wantsStandIn t = false by simpa using List.all_eq_true.1 hall t hm)
theorem proved_ChunkBack : Rows.ChunkBackCardSaid :=
  Claim7.holds_tied_plain_at .later [] _ _ _ _ said_ChunkBack (fun _ h => by cases h) (by kernel_rfl) (fun _ h => by cases h) chunkBack_row_tie rfl ⟨rfl, rfl⟩ (by kernel_rfl) rfl plain_ChunkBack (by kernel_rfl)
#print axioms proved_ChunkBack
end Go.Proofs.YtfjbdgkdkbcnhaaDoor
