/- XorOne holds: at all bits the law answers true and changes nothing that was there. -/
import Derived.Test.YteohlkpejdjenaaDoorXorBack
namespace Go.Proofs.YteohlkpejdjenaaDoor
open Go.ChangeShapes Go.WideShapes Go.ChangeAt Go.RowKit
set_option linter.unusedVariables false
theorem one_bad (v : Value) (l : List Int) (n : Int) (w : World) (hr : RowB w v l) (hbt : Byt l) (n0 : -9223372036854775808 ≤ n) (n1 : n ≤ 9223372036854775807) (hok : ¬ P.OkB l n) (hs : Tab w) :
    Calls Tryd.prog 6 #[.agg #[v, .int .i64 n]] w fun e w' => e = .returned (.bool true) ∧ Below w.heap.size w w' := by
  have hs1 := hs.next ((Below.refl _ _).alloc (Nat.le_refl _) (.cells #[v, .int .i64 n] 25))
  go_enter Tryd.func6, Tryd.ntmps6
  go_wp2_with (first
    | (go_at_call 18; go_must (refine (xors_any _ hs1).mono ?_); rintro e w1 ⟨rfl, hb1⟩; obtain ⟨x0, x1, hb, hsz⟩ := box2 hb1; clear hb1)
    | (go_at_call 13; go_must (refine (unpack_bad _ l n _ (hr.below hb (Nat.le_refl _)) hbt n0 n1 hok).mono ?_); rintro e w2 ⟨hb2, rfl⟩; replace hb := Below.next hb hb2; clear hb2))
  go_ret
  exact ⟨rfl, hb⟩
set_option maxHeartbeats 1000000 in
theorem one_ok (v : Value) (bs : List Bool) (w : World) (hr : RowB w v (P.pack bs)) (n1 : (bs.length : Int) ≤ 9223372036854775000) (hs : Tab w) :
    Calls Tryd.prog 6 #[.agg #[v, .int .i64 bs.length]] w fun e w' => e = .returned (.bool true) ∧ Below w.heap.size w w' := by
  have hs1 := hs.next ((Below.refl _ _).alloc (Nat.le_refl _) (.cells #[v, .int .i64 bs.length] 25))
  have HU := hide (fun (w : World) (hr : RowB w v (P.pack bs)) (hs : Tab w) => unpack_ok v bs w hr n1 hs)
  go_enter Tryd.func6, Tryd.ntmps6
  go_wp2_with (go_at_call 18; go_must (refine (xors_any _ hs1).mono ?_); rintro e w1 ⟨rfl, hb1⟩; obtain ⟨x0, x1, hb, hsz⟩ := box2 hb1; clear hb1)
  refine (HU.out _ (hr.below hb (Nat.le_refl _)) (hs.next hb)).mono ?_
  rintro e w3 ⟨hb3, ⟨m, am, cm, hm, huni, hownm, rfl⟩ | ⟨hno, rfl⟩⟩
  · have HP := hide (fun (v : Value) (w : World) (hr : RowK .u64 w v m) (hs : Tab w) => pack_any v m w hr hm.2.1 hm.1 hs)
    rw [← hm.2.2] at HP
    have y0 := keep_cell x0 hb3
    have y1 := keep_cell x1 hb3
    have hb4 := Below.next hb hb3
    have hs4 := hs.next hb4
    have hq : sameL (P.pack bs) (P.pack bs) = true := sameL_self _
    have HSm : Hid (∀ (v1 v2 : Value) (w : World), RowB w v1 (P.pack bs) → RowB w v2 (P.pack bs) → Calls Tryd.prog 19 #[.agg #[v1, .int .i64 bs.length], .agg #[v2, .int .i64 bs.length]] w fun e w' => e = .returned (.bool true) ∧ Below w.heap.size w w') := fun v1 v2 w h1 h2 =>
      (sameBits_any v1 v2 _ _ _ _ w h1 h2 (P.pack_byt _ bs) (P.pack_byt _ bs)).mono fun e w' h => ⟨by rw [h.1, hq]; simp, h.2⟩
    clear hb3 hm huni HU hq
    go_wp2_with (go_at_call 9; go_must (refine (HP.out _ _ hownm.row hs4).mono ?_); rintro e w5 ⟨vy, rfl, hown, hb5⟩; obtain ⟨ay, capy, hvy⟩ := hown.shp; rw [hvy] at hown ⊢; clear hvy; have z0 := keep_cell y0 hb5; have z1 := keep_cell y1 hb5; have hb6 := Below.next hb4 hb5; clear hb5; have hsz5 : w.heap.size < w5.heap.size := World.block_lt_of_cell? _ _ z0)
    have hown7 := fun o => OwnB.below hown ((Below.refl _ _).alloc (Nat.le_refl _) o) (Nat.le_refl _)
    have hrow7 := fun o => (hr.below hb6 (Nat.le_refl _)).below ((Below.refl _ _).alloc (Nat.le_refl _) o) (Nat.le_refl _)
    refine (HSm.out _ _ _ (hrow7 _) (hown7 _).row).mono ?_
    rintro e w8 ⟨rfl, hb8⟩
    have hb9 := Below.next (below_alloc hb6 _) hb8
    go_wp2
    go_ret
    exact ⟨rfl, hb9⟩
  · have hb4 := Below.next hb hb3
    clear hno HU
    go_wp2
    go_ret
    exact ⟨rfl, hb4⟩
theorem walk_XorOne (y : Value) (l : List Int) (n : Int) (w : World) (hr : RowB w y l) (hbt : Byt l) (hlen : l.length ≤ 140737488351232) (h0 : -9223372036854775808 ≤ n) (h0' : n ≤ 9223372036854775807) (hs : Tab w) :
    Calls Tryd.prog 6 #[.agg #[y, .int .i64 n]] w fun e w' => e = .returned (.bool true) ∧ Below w.heap.size w w' := by
  by_cases hok : P.OkB l n
  · have h2 := hok.2.1
    obtain ⟨bs, rfl, rfl⟩ := P.ok_pack l n hbt hok
    exact one_ok y bs w hr (by omega) hs
  · exact one_bad y l n w hr hbt h0 h0' hok hs

theorem laid_met_XorOne (os : Os) : laidMet Tryd.prog Rows.xorOneRow.laid ((laidWorld os).forCall (fun _ _ => 0) ⟨#[], #[.agg #[.slice none 0 0, .int .i64 0]], []⟩).memory := laidMet_of_run' 8 (by kernel_rfl) (by kernel_rfl)
theorem reads_XorOne (os : Os) {H : Type} (enc : TypeId × Value → H) : ∃ places, DataW.whole enc Tryd.prog ((laidWorld os).forCall (fun _ _ => 0) ⟨#[], #[.agg #[.slice none 0 0, .int .i64 0]], []⟩).memory Tryd.f6.params.toList Rows.xorOneSpec.vars false (#[.agg #[.slice none 0 0, .int .i64 0]] : Array Value).toList 8 = some ([.agg [.nil, .lit (.int .i64 0)]], [], places) := ⟨[], by kernel_rfl⟩
set_option maxRecDepth 100000 in
theorem lifted_XorOne (os : Os) (started : os.Started) (H : Type) (enc : TypeId × Value → H) (F : Stop.Interp) :
    ReturnsInHanded {} Tryd.checked os 6 .any ((OpenSpec.ofChange Rows.xorOneSpec).preRow enc Tryd.prog Tryd.f6 Rows.xorOneRow.domain false Rows.xorOneRow.laid) (((OpenSpec.ofChange Rows.xorOneSpec).at F).post enc Tryd.prog Tryd.f6 false true false false) := by
  obtain ⟨places, hx⟩ := reads_XorOne os enc
  refine returnsInHanded_of_row (C := Tryd.checked) (s := (OpenSpec.ofChange Rows.xorOneSpec)) own started (by kernel_rfl) Tryd.func6
    (witness_row_at (enc := enc) (C := Tryd.checked) false (laidWorld os) #[.agg #[.slice none 0 0, .int .i64 0]] rfl (by kernel_rfl) (by kernel_rfl) (by kernel_rfl)
      (OpenSpec.preRow_of_cond 8 hx (by kernel_rfl) (fun k hk => by cases hk) (by kernel_rfl) (laid_met_XorOne os))) ?_
  intro W base args ds gs before hval0 hW hcnd hk00 hsz0 hL _ _
  have hLd := laid_of hL
  have hsz : (DataW.weightsEach Tryd.prog (Tryd.f6.params.toList ++ Rows.xorOneSpec.plain.varTypes Tryd.prog) (ds ++ gs)).all (· ≤ reachBytes) = true := hsz0
  have hval : ∀ (j : Nat) t v, Tryd.f6.params[j]? = some t → args[j]? = some v → Value.okWide Tryd.prog W .any base t v := hval0
  have hW' := hW
  obtain ⟨p, q, hA0, hV, rfl, hfz, hnd⟩ := hW
  have hA : DataW.TrodAll enc Tryd.prog W 0 (fun _ => true) true Tryd.f6.params.toList args.toList ds p := hA0
  rw [Tryd.params6] at hA hval hsz
  obtain ⟨v0, vs0, d0, ds0, p0, q0, hargs, rfl, rfl, h0, r0⟩ := trodAll_cons hA
  obtain ⟨rfl, rfl, rfl⟩ := trodAll_nil r0
  obtain rfl : args = #[v0] := by cases args; simp_all
  obtain ⟨rfl, rfl⟩ := trodVars_none hV
  have k0 := h0
  have lt0 : ∀ x ∈ p0, x.block < W.heap.size := by obtain ⟨m, hm⟩ := k0; exact DataW.trod_lt m _ _ _ hm
  obtain ⟨y0, l0, n0, rfl, row0, wf0, rc0, b0, es0, sp0, sh0⟩ := open_bits (hval 0 25 v0 rfl rfl) h0 hsz (j := 0) rfl rfl
  clear hA0 hval0
  refine (walk_XorOne y0 l0 n0 W row0 wf0 rc0 b0.1 b0.2 hLd).mono fun e W' ⟨he, bel⟩ => ?_
  subst he
  exact ⟨_, rfl, _, _, _, [], _, [], hW', trodAll_mk1 (shut_bool Tryd.underlying4 _), (trodAll_cons_mk (Below.trod laidOut (by kernel_rfl) (of_decide_eq_true (by kernel_rfl)) k0 bel lt0) trodAll_mk0), rfl, bel.frame _, fun h => by cases h⟩

theorem said_XorOne : Rows.XorOneSaid :=
  OpenClaim.holds_of_cond 6 Tryd.f6 rfl rfl rfl rfl rfl rfl rfl ⟨rfl, rfl, rfl, rfl, rfl⟩ rfl rfl rfl rfl rfl (by kernel_rfl) Tryd.func6 (by kernel_rfl)
    (of_decide_eq_true (by kernel_rfl)) (by unfold Func.isWrapper; first | (rw [if_pos (by decide +kernel)]; kernel_rfl) | (rw [if_neg (by decide +kernel)]; exact ⟨rfl, rfl⟩))
    (fun os started H enc _ F => by rw [OpenClaim.pre_eq_preRow]; exact lifted_XorOne os started H enc F)
theorem plain_XorOne (f : FuncId) (fn : Func) (hf : Tryd.pinned.checked.prog.funcNamed "gaugehouse/gaugehousekeep.XorOne" = some f) (hfn : Tryd.pinned.checked.prog.funcs[f]? = some fn) :
    false = Tryd.pinned.checked.prog.looks [] ∧ ∀ (j : Nat) t, fn.params[j]? = some t → Tryd.pinned.checked.prog.wantsStandIn t = false := by
  obtain rfl : f = 6 := Option.some.inj ((show Tryd.prog.funcNamed "gaugehouse/gaugehousekeep.XorOne" = some 6 by kernel_rfl).symm.trans hf) |>.symm
  obtain rfl : fn = Tryd.f6 := (Option.some.inj (Tryd.func6.symm.trans hfn)).symm
  refine ⟨by kernel_rfl, fun j t ht => ?_⟩
  rw [Tryd.params6] at ht
  have hm : t ∈ [25] := by simpa using Array.mem_of_getElem? ht
  have hall : ([25].all fun u => !Tryd.prog.wantsStandIn u) = true := by kernel_rfl
  exact (show Tryd.prog.wantsStandIn t = false by simpa using List.all_eq_true.1 hall t hm)
theorem proved_XorOne : Rows.XorOneCardSaid :=
  Claim7.holds_tied_plain_at .later [] _ _ _ _ said_XorOne (fun _ h => by cases h) (by kernel_rfl) (fun _ h => by cases h) xorOne_row_tie rfl ⟨rfl, rfl⟩ (by kernel_rfl) rfl plain_XorOne (by kernel_rfl)
#print axioms proved_XorOne
end Go.Proofs.YteohlkpejdjenaaDoor
