/- XorOpens holds: at all bits the law answers true and changes nothing that was there. -/
import Derived.Test.YteohlkpejdjenaaDoorMofW
import Derived.Test.YteohlkpejdjenaaDoorEqU
namespace Go.Proofs.YteohlkpejdjenaaDoor
open Go.ChangeShapes Go.WideShapes Go.ChangeAt Go.RowKit
set_option linter.unusedVariables false
theorem sameL_selfO (l : List Int) : sameL l l = true := by unfold sameL; simp
theorem opens_big (v : Value) (n : Int) (w : World) (h : 2000 < n) :
    Calls Tryd.prog 4 #[.agg #[v, .int .i64 n]] w fun e w' => e = .returned (.bool true) ∧ Below w.heap.size w w' := by
  have hd : decide (2000 < n) = true := by rw [decide_eq_true_eq]; omega
  go_enter Tryd.func4, Tryd.ntmps4
  go_wp2
  go_ret
  exact ⟨rfl, (Below.refl _ _).alloc (Nat.le_refl _) _⟩
theorem opens_bad (v : Value) (l : List Int) (n : Int) (w : World) (hr : RowB w v l) (hbt : Byt l) (hlen : l.length ≤ 140737488351232) (n0 : -9223372036854775808 ≤ n) (h : n ≤ 2000) (hok : ¬ P.OkB l n) :
    Calls Tryd.prog 4 #[.agg #[v, .int .i64 n]] w fun e w' => e = .returned (.bool true) ∧ Below w.heap.size w w' := by
  have hd : decide (2000 < n) = false := by rw [decide_eq_false_iff_not]; omega
  have hr1 := hr.below ((Below.refl _ _).alloc (Nat.le_refl _) (.cells #[v, .int .i64 n] 25)) (Nat.le_refl _)
  have HU := hide (fun (w : World) (hr : RowB w v l) => unpack_bad v l n w hr hbt n0 (by omega) hok)
  have HF := hide (fun (w : World) (hr : RowB w v l) => fault_bad v l n w hr hbt hlen n0 (by omega) hok)
  go_enter Tryd.func4, Tryd.ntmps4
  go_wp2_with (first
    | (go_at_call 13; go_must (refine (HU.out _ hr1).mono ?_); rintro e w2 ⟨hb2, rfl⟩; obtain ⟨x0, x1, hb, hsz⟩ := box2 hb2; clear hb2)
    | (go_at_call 14; go_must (refine (HF.out _ (hr.below hb (Nat.le_refl _))).mono ?_); rintro e w3 ⟨rfl, hb3⟩; have hb4 := Below.next hb hb3; clear hb3))
  go_ret
  exact ⟨rfl, hb4⟩
set_option maxHeartbeats 1000000 in
theorem opens_ok (v : Value) (bs : List Bool) (w : World) (hr : RowB w v (P.pack bs)) (hn : bs.length ≤ 2000) (hs : Tab w) :
    Calls Tryd.prog 4 #[.agg #[v, .int .i64 bs.length]] w fun e w' => e = .returned (.bool true) ∧ Below w.heap.size w w' := by
  have hd : decide (2000 < (bs.length : Int)) = false := by rw [decide_eq_false_iff_not]; omega
  have hlen : (P.pack bs).length ≤ 140737488351232 := by rw [P.pack_len]; unfold P.bytesN; omega
  have hr1 := hr.below ((Below.refl _ _).alloc (Nat.le_refl _) (.cells #[v, .int .i64 bs.length] 25)) (Nat.le_refl _)
  have hs1 := hs.next ((Below.refl _ _).alloc (Nat.le_refl _) (.cells #[v, .int .i64 bs.length] 25))
  have HU := hide (fun (w : World) (hr : RowB w v (P.pack bs)) (hs : Tab w) => unpack_ok v bs w hr (by omega) hs)
  have HF := hide (fun (w : World) (hr : RowB w v (P.pack bs)) => fault_ok v _ _ w hr (P.pack_byt _ bs) hlen (P.pack_ok bs))
  have HN := hide (fun (w : World) (hr : RowB w v (P.pack bs)) => unpacked_any v bs w hr (by omega))
  have HT := hide (fun (w : World) => measuresOf_any bs w hn)
  go_enter Tryd.func4, Tryd.ntmps4
  go_wp2_with fail
  refine (HU.out _ hr1 hs1).mono ?_
  rintro e w3 ⟨hb3, ⟨l, al, cl, hl, huni, hownl, rfl⟩ | ⟨hno, rfl⟩⟩
  · obtain ⟨x0, x1, hb, hsz⟩ := box2 hb3
    have HL := hide (And.intro hl huni)
    clear hb3 hl huni HU hr1 hs1
    go_wp2_with (first
      | (go_at_call 14; go_must (refine (HF.out _ (hr.below hb (Nat.le_refl _))).mono ?_); rintro e w4 ⟨rfl, hb4⟩; have y0 := keep_cell x0 hb4; have y1 := keep_cell x1 hb4; have hb5 := Below.next hb hb4; have hl5 := OwnK.below hownl hb4 (Nat.le_refl _); clear hb4)
      | (go_at_call 16; go_must (refine (HN.out _ (hr.below hb5 (Nat.le_refl _))).mono ?_); rintro e w6 ⟨rfl, hb6⟩; have hb7 := Below.next hb5 hb6; have hl7 := OwnK.below hl5 hb6 (Nat.le_refl _); clear hb6))
    refine (HT.out _).mono ?_
    rintro e w8 ⟨hb8, acc, a, c, ok, hacc, rfl, h1, h2⟩
    obtain ⟨rfl, rfl⟩ := h2 l HL.out.1
    have hb9 := Below.next hb7 hb8
    have hl9 := OwnK.below hl7 hb8 (Nat.le_refl _)
    clear h1 h2 hb8 HL HT HN HF
    go_wp2_with (go_at_call 17; go_must (refine (equalI_any _ _ acc acc _ hl9.row hacc.row).mono ?_); rw [sameL_selfO]; rintro e w10 ⟨rfl, hb10⟩)
    go_ret
    exact ⟨rfl, Below.next hb9 hb10⟩
  · obtain ⟨x0, x1, hb, hsz⟩ := box2 hb3
    have HL := hide hno
    clear hb3 hno HU hr1 hs1
    go_wp2_with (first
      | (go_at_call 14; go_must (refine (HF.out _ (hr.below hb (Nat.le_refl _))).mono ?_); rintro e w4 ⟨rfl, hb4⟩; have y0 := keep_cell x0 hb4; have y1 := keep_cell x1 hb4; have hb5 := Below.next hb hb4; clear hb4)
      | (go_at_call 16; go_must (refine (HN.out _ (hr.below hb5 (Nat.le_refl _))).mono ?_); rintro e w6 ⟨rfl, hb6⟩; have hb7 := Below.next hb5 hb6; clear hb6))
    refine (HT.out _).mono ?_
    rintro e w8 ⟨hb8, acc, a, c, ok, hacc, rfl, h1, h2⟩
    have hok : ok = false := by
      cases ok with
      | false => rfl
      | true => exact absurd (h1 rfl) (HL.out acc)
    subst hok
    have hb9 := Below.next hb7 hb8
    clear h1 h2 hb8 HL HT HN HF
    go_wp2
    go_ret
    exact ⟨rfl, hb9⟩
theorem walk_XorOpens (y : Value) (l : List Int) (n : Int) (w : World) (hr : RowB w y l) (hbt : Byt l) (hlen : l.length ≤ 140737488351232) (h0 : -9223372036854775808 ≤ n) (h0' : n ≤ 9223372036854775807) (hs : Tab w) :
    Calls Tryd.prog 4 #[.agg #[y, .int .i64 n]] w fun e w' => e = .returned (.bool true) ∧ Below w.heap.size w w' := by
  by_cases h : 2000 < n
  · exact opens_big y n w h
  · by_cases hok : P.OkB l n
    · obtain ⟨bs, rfl, rfl⟩ := P.ok_pack l n hbt hok
      exact opens_ok y bs w hr (by omega) hs
    · exact opens_bad y l n w hr hbt hlen h0 (by omega) hok

theorem laid_met_XorOpens (os : Os) : laidMet Tryd.prog Rows.xorOpensRow.laid ((laidWorld os).forCall (fun _ _ => 0) ⟨#[], #[.agg #[.slice none 0 0, .int .i64 0]], []⟩).memory := laidMet_of_run' 8 (by kernel_rfl) (by kernel_rfl)
theorem reads_XorOpens (os : Os) {H : Type} (enc : TypeId × Value → H) : ∃ places, DataW.whole enc Tryd.prog ((laidWorld os).forCall (fun _ _ => 0) ⟨#[], #[.agg #[.slice none 0 0, .int .i64 0]], []⟩).memory Tryd.f4.params.toList Rows.xorOpensSpec.vars false (#[.agg #[.slice none 0 0, .int .i64 0]] : Array Value).toList 8 = some ([.agg [.nil, .lit (.int .i64 0)]], [], places) := ⟨[], by kernel_rfl⟩
set_option maxRecDepth 100000 in
theorem lifted_XorOpens (os : Os) (started : os.Started) (H : Type) (enc : TypeId × Value → H) (F : Stop.Interp) :
    ReturnsInHanded {} Tryd.checked os 4 .any ((OpenSpec.ofChange Rows.xorOpensSpec).preRow enc Tryd.prog Tryd.f4 Rows.xorOpensRow.domain false Rows.xorOpensRow.laid) (((OpenSpec.ofChange Rows.xorOpensSpec).at F).post enc Tryd.prog Tryd.f4 false true false false) := by
  obtain ⟨places, hx⟩ := reads_XorOpens os enc
  refine returnsInHanded_of_row (C := Tryd.checked) (s := (OpenSpec.ofChange Rows.xorOpensSpec)) own started (by kernel_rfl) Tryd.func4
    (witness_row_at (enc := enc) (C := Tryd.checked) false (laidWorld os) #[.agg #[.slice none 0 0, .int .i64 0]] rfl (by kernel_rfl) (by kernel_rfl) (by kernel_rfl)
      (OpenSpec.preRow_of_cond 8 hx (by kernel_rfl) (fun k hk => by cases hk) (by kernel_rfl) (laid_met_XorOpens os))) ?_
  intro W base args ds gs before hval0 hW hcnd hk00 hsz0 hL _ _
  have hLd := laid_of hL
  have hsz : (DataW.weightsEach Tryd.prog (Tryd.f4.params.toList ++ Rows.xorOpensSpec.plain.varTypes Tryd.prog) (ds ++ gs)).all (· ≤ reachBytes) = true := hsz0
  have hval : ∀ (j : Nat) t v, Tryd.f4.params[j]? = some t → args[j]? = some v → Value.okWide Tryd.prog W .any base t v := hval0
  have hW' := hW
  obtain ⟨p, q, hA0, hV, rfl, hfz, hnd⟩ := hW
  have hA : DataW.TrodAll enc Tryd.prog W 0 (fun _ => true) true Tryd.f4.params.toList args.toList ds p := hA0
  rw [Tryd.params4] at hA hval hsz
  obtain ⟨v0, vs0, d0, ds0, p0, q0, hargs, rfl, rfl, h0, r0⟩ := trodAll_cons hA
  obtain ⟨rfl, rfl, rfl⟩ := trodAll_nil r0
  obtain rfl : args = #[v0] := by cases args; simp_all
  obtain ⟨rfl, rfl⟩ := trodVars_none hV
  have k0 := h0
  have lt0 : ∀ x ∈ p0, x.block < W.heap.size := by obtain ⟨m, hm⟩ := k0; exact DataW.trod_lt m _ _ _ hm
  obtain ⟨y0, l0, n0, rfl, row0, wf0, rc0, b0, es0, sp0, sh0⟩ := open_bits (hval 0 25 v0 rfl rfl) h0 hsz (j := 0) rfl rfl
  clear hA0 hval0
  refine (walk_XorOpens y0 l0 n0 W row0 wf0 rc0 b0.1 b0.2 hLd).mono fun e W' ⟨he, bel⟩ => ?_
  subst he
  exact ⟨_, rfl, _, _, _, [], _, [], hW', trodAll_mk1 (shut_bool Tryd.underlying4 _), (trodAll_cons_mk (Below.trod laidOut (by kernel_rfl) (of_decide_eq_true (by kernel_rfl)) k0 bel lt0) trodAll_mk0), rfl, bel.frame _, fun h => by cases h⟩

theorem said_XorOpens : Rows.XorOpensSaid :=
  OpenClaim.holds_of_cond 4 Tryd.f4 rfl rfl rfl rfl rfl rfl rfl ⟨rfl, rfl, rfl, rfl, rfl⟩ rfl rfl rfl rfl rfl (by kernel_rfl) Tryd.func4 (by kernel_rfl)
    (of_decide_eq_true (by kernel_rfl)) (by unfold Func.isWrapper; first | (rw [if_pos (by decide +kernel)]; kernel_rfl) | (rw [if_neg (by decide +kernel)]; exact ⟨rfl, rfl⟩))
    (fun os started H enc _ F => by rw [OpenClaim.pre_eq_preRow]; exact lifted_XorOpens os started H enc F)
theorem plain_XorOpens (f : FuncId) (fn : Func) (hf : Tryd.pinned.checked.prog.funcNamed "gaugehouse/gaugehouselaw.XorOpens" = some f) (hfn : Tryd.pinned.checked.prog.funcs[f]? = some fn) :
    false = Tryd.pinned.checked.prog.looks [] ∧ ∀ (j : Nat) t, fn.params[j]? = some t → Tryd.pinned.checked.prog.wantsStandIn t = false := by
  obtain rfl : f = 4 := Option.some.inj ((show Tryd.prog.funcNamed "gaugehouse/gaugehouselaw.XorOpens" = some 4 by kernel_rfl).symm.trans hf) |>.symm
  obtain rfl : fn = Tryd.f4 := (Option.some.inj (Tryd.func4.symm.trans hfn)).symm
  refine ⟨by kernel_rfl, fun j t ht => ?_⟩
  rw [Tryd.params4] at ht
  have hm : t ∈ [25] := by simpa using Array.mem_of_getElem? ht
  have hall : ([25].all fun u => !Tryd.prog.wantsStandIn u) = true := by kernel_rfl
  exact (show Tryd.prog.wantsStandIn t = false by simpa using List.all_eq_true.1 hall t hm)
theorem proved_XorOpens : Rows.XorOpensCardSaid :=
  Claim7.holds_tied_plain_at .later [] _ _ _ _ said_XorOpens (fun _ h => by cases h) (by kernel_rfl) (fun _ h => by cases h) xorOpens_row_tie rfl ⟨rfl, rfl⟩ (by kernel_rfl) rfl plain_XorOpens (by kernel_rfl)
#print axioms proved_XorOpens
end Go.Proofs.YteohlkpejdjenaaDoor
