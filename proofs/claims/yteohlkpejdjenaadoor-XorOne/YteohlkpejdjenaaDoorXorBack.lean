/- XorBack holds: at all lists of measures the law answers true and changes nothing that was there. -/
import Derived.Test.YteohlkpejdjenaaDoorXunp
import Derived.Test.YteohlkpejdjenaaDoorEqU
import Derived.Test.YteohlkpejdjenaaDoorSame
namespace Go.Proofs.YteohlkpejdjenaaDoor
open Go.ChangeShapes Go.WideShapes Go.ChangeAt Go.RowKit
set_option linter.unusedVariables false
theorem none_sameX (w : World) : Calls Tryd.prog 19 #[noBits, noBits] w fun e w' => e = .returned (.bool true) ∧ Below w.heap.size w w' :=
  (sameBits_any _ _ [] [] 0 0 w (rowK_nil _ w) (rowK_nil _ w) (fun x hx => by cases hx) (fun x hx => by cases hx)).mono fun e w' h => ⟨by rw [h.1]; simp [sameL], h.2⟩
theorem sameL_self (l : List Int) : sameL l l = true := by unfold sameL; simp

theorem back_large (v : Value) (l : List Int) (w : World) (hr : RowK .u64 w v l) (hs : Tab w) (hn : 1000 < l.length) :
    Calls Tryd.prog 5 #[v] w fun e w' => e = .returned (.bool true) ∧ Below w.heap.size w w' := by
  have hr0 := hr
  obtain ⟨a, cap, rfl, ⟨hlc, hmax, hnn⟩, hcase⟩ := hr
  unfold maxLen at hmax
  clear hcase
  have hd : decide (1000 < (l.length : Int)) = true := by simp; omega
  go_enter Tryd.func5, Tryd.ntmps5
  go_wp2_with (first
    | (go_at_call 18; go_must (refine (xors_any _ hs).mono ?_); rintro e w1 ⟨rfl, hb⟩)
    | (go_at_call 9; go_must (refine (pack_large _ l _ (hr0.below hb (Nat.le_refl _)) hn).mono ?_); rintro e w2 ⟨rfl, hb2⟩; replace hb := Below.next hb hb2; clear hb2)
    | (go_at_call 19; refine (none_sameX _).mono ?_; rintro e w4 ⟨rfl, hb4⟩; replace hb := Below.next (below_alloc hb _) hb4))
  go_ret
  exact ⟨rfl, hb⟩
set_option maxHeartbeats 1000000 in
theorem back_ok (v : Value) (l : List Int) (w : World) (hr : RowK .u64 w v l) (hi : P.U64 l) (hs : Tab w) (hn : l.length ≤ 1000) :
    Calls Tryd.prog 5 #[v] w fun e w' => e = .returned (.bool true) ∧ Below w.heap.size w w' := by
  have HP := hide (fun (w : World) (hr : RowK .u64 w v l) (hs : Tab w) => pack_any v l w hr hi hn hs)
  have hle : (P.packT l).length ≤ 80000 := by have := P.front_le l l.length l.length; unfold P.packT; omega
  have HU := hide (fun (v : Value) (w : World) (hr : RowB w v (P.pack (P.packT l))) (hs : Tab w) => unpack_ok v (P.packT l) w hr (by omega) hs)
  have HCk := hide (fun (v : Value) (w : World) (hr : RowB w v (P.pack (P.packT l))) => check_ok v _ _ w hr (P.pack_byt _ (P.packT l)) (show ((P.packT l).length : Int) ≤ 9223372036854775807 by omega) (P.pack_ok (P.packT l)))
  have HX : Hid (Isx (P.packT l) l) := ⟨hn, hi, rfl⟩
  generalize P.packT l = bs at *
  go_enter Tryd.func5, Tryd.ntmps5
  go_wp2_with (first
    | (go_at_call 18; go_must (refine (xors_any _ hs).mono ?_); rintro e w1 ⟨rfl, hb⟩)
    | (go_at_call 9; go_must (refine (HP.out _ (hr.below hb (Nat.le_refl _)) (hs.next hb)).mono ?_); rintro e w2 ⟨vy, rfl, hown, hb2⟩; obtain ⟨ay, capy, hvy⟩ := hown.shp; rw [hvy] at hown ⊢; clear hvy; replace hb := Below.next hb hb2; clear hb2))
  have hown3 := fun o => OwnB.below hown ((Below.refl _ _).alloc (Nat.le_refl _) o) (Nat.le_refl _)
  have hs3 := fun o => (hs.next hb).next ((Below.refl _ _).alloc (Nat.le_refl _) o)
  refine (HU.out _ _ (hown3 _).row (hs3 _)).mono ?_
  rintro e w3 ⟨hb3, ⟨m, am, cm, hm, huni, hownm, rfl⟩ | ⟨hno, rfl⟩⟩
  · obtain ⟨x0, x1, hb4, hsz⟩ := box2 hb3
    obtain rfl := huni l HX.out
    have hb5 := Below.next hb hb4
    have hown5 := OwnB.below hown hb4 (Nat.le_refl _)
    have hrow := hr.below hb5 (Nat.le_refl _)
    clear hb3 hb4 hb hown hown3 hs3 hm huni HU HP
    go_wp2_with (first
      | (go_at_call 17; go_must (refine (equalI_any _ _ l l _ hrow hownm.row).mono ?_); rw [sameL_self]; rintro e w6 ⟨rfl, hb6⟩; have x0' := keep_cell x0 hb6; have x1' := keep_cell x1 hb6; have hown6 := OwnB.below hown5 hb6 (Nat.le_refl _); have hb7 := Below.next hb5 hb6; clear hb6)
      | (go_at_call 20; go_must (refine (HCk.out _ _ hown6.row).mono ?_); rintro e w8 ⟨rfl, hb8⟩; have hb9 := Below.next hb7 hb8))
    go_ret
    exact ⟨rfl, hb9⟩
  · exact absurd HX.out (hno l)
theorem walk_XorBack (v : Value) (l : List Int) (w : World) (hr : RowK .u64 w v l) (hi : ∀ x ∈ l, 0 ≤ x ∧ x ≤ 18446744073709551615) (hlen : l.length * 8 ≤ 140737488351232) (hs : Tab w) :
    Calls Tryd.prog 5 #[v] w fun e w' => e = .returned (.bool true) ∧ Below w.heap.size w w' := by
  by_cases hn : l.length ≤ 1000
  · exact back_ok v l w hr hi hs hn
  · exact back_large v l w hr hs (by omega)

theorem laid_met_XorBack (os : Os) : laidMet Tryd.prog Rows.xorBackRow.laid ((laidWorld os).forCall (fun _ _ => 0) ⟨#[], #[.slice none 0 0], []⟩).memory := laidMet_of_run' 8 (by kernel_rfl) (by kernel_rfl)
theorem reads_XorBack (os : Os) {H : Type} (enc : TypeId × Value → H) : ∃ places, DataW.whole enc Tryd.prog ((laidWorld os).forCall (fun _ _ => 0) ⟨#[], #[.slice none 0 0], []⟩).memory Tryd.f5.params.toList Rows.xorBackSpec.vars false (#[.slice none 0 0] : Array Value).toList 8 = some ([.nil], [], places) := ⟨[], by kernel_rfl⟩
set_option maxRecDepth 100000 in
theorem lifted_XorBack (os : Os) (started : os.Started) (H : Type) (enc : TypeId × Value → H) (F : Stop.Interp) :
    ReturnsInHanded {} Tryd.checked os 5 .any ((OpenSpec.ofChange Rows.xorBackSpec).preRow enc Tryd.prog Tryd.f5 Rows.xorBackRow.domain false Rows.xorBackRow.laid) (((OpenSpec.ofChange Rows.xorBackSpec).at F).post enc Tryd.prog Tryd.f5 false true false false) := by
  obtain ⟨places, hx⟩ := reads_XorBack os enc
  refine returnsInHanded_of_row (C := Tryd.checked) (s := (OpenSpec.ofChange Rows.xorBackSpec)) own started (by kernel_rfl) Tryd.func5
    (witness_row_at (enc := enc) (C := Tryd.checked) false (laidWorld os) #[.slice none 0 0] rfl (by kernel_rfl) (by kernel_rfl) (by kernel_rfl)
      (OpenSpec.preRow_of_cond 8 hx (by kernel_rfl) (fun k hk => by cases hk) (by kernel_rfl) (laid_met_XorBack os))) ?_
  intro W base args ds gs before hval0 hW hcnd hk00 hsz0 hL _ _
  have hLd := laid_of hL
  have hsz : (DataW.weightsEach Tryd.prog (Tryd.f5.params.toList ++ Rows.xorBackSpec.plain.varTypes Tryd.prog) (ds ++ gs)).all (· ≤ reachBytes) = true := hsz0
  have hval : ∀ (j : Nat) t v, Tryd.f5.params[j]? = some t → args[j]? = some v → Value.okWide Tryd.prog W .any base t v := hval0
  have hW' := hW
  obtain ⟨p, q, hA0, hV, rfl, hfz, hnd⟩ := hW
  have hA : DataW.TrodAll enc Tryd.prog W 0 (fun _ => true) true Tryd.f5.params.toList args.toList ds p := hA0
  rw [Tryd.params5] at hA hval hsz
  obtain ⟨v0, vs0, d0, ds0, p0, q0, hargs, rfl, rfl, h0, r0⟩ := trodAll_cons hA
  obtain ⟨rfl, rfl, rfl⟩ := trodAll_nil r0
  obtain rfl : args = #[v0] := by cases args; simp_all
  obtain ⟨rfl, rfl⟩ := trodVars_none hV
  have k0 := h0
  have lt0 : ∀ x ∈ p0, x.block < W.heap.size := by obtain ⟨m, hm⟩ := k0; exact DataW.trod_lt m _ _ _ hm
  obtain ⟨s0, len0, cap0, rfl⟩ := okWide_slice Tryd.underlying22 (hval 0 22 v0 rfl rfl)
  obtain ⟨l0, row0, wf0, sh0⟩ := open_row Tryd.underlying22 Tryd.underlying40 cells40 h0
  have rc0 := row_reach hsz (j := 0) (t := 22) rfl rfl Tryd.underlying22 sh0
  rw [bytes40] at rc0
  clear hA0 hval0
  refine (walk_XorBack (.slice s0 len0 cap0) l0 W row0 (fun x hx => bounds_u64 (wf0 x hx)) rc0 hLd).mono fun e W' ⟨he, bel⟩ => ?_
  subst he
  exact ⟨_, rfl, _, _, _, [], _, [], hW', trodAll_mk1 (shut_bool Tryd.underlying4 _), (trodAll_cons_mk (Below.trod laidOut (by kernel_rfl) (of_decide_eq_true (by kernel_rfl)) k0 bel lt0) trodAll_mk0), rfl, bel.frame _, fun h => by cases h⟩

theorem said_XorBack : Rows.XorBackSaid :=
  OpenClaim.holds_of_cond 5 Tryd.f5 rfl rfl rfl rfl rfl rfl rfl ⟨rfl, rfl, rfl, rfl, rfl⟩ rfl rfl rfl rfl rfl (by kernel_rfl) Tryd.func5 (by kernel_rfl)
    (of_decide_eq_true (by kernel_rfl)) (by unfold Func.isWrapper; first | (rw [if_pos (by decide +kernel)]; kernel_rfl) | (rw [if_neg (by decide +kernel)]; exact ⟨rfl, rfl⟩))
    (fun os started H enc _ F => by rw [OpenClaim.pre_eq_preRow]; exact lifted_XorBack os started H enc F)
theorem plain_XorBack (f : FuncId) (fn : Func) (hf : Tryd.pinned.checked.prog.funcNamed "gaugehouse/gaugehousekeep.XorBack" = some f) (hfn : Tryd.pinned.checked.prog.funcs[f]? = some fn) :
    false = Tryd.pinned.checked.prog.looks [] ∧ ∀ (j : Nat) t, fn.params[j]? = some t → Tryd.pinned.checked.prog.wantsStandIn t = false := by
  obtain rfl : f = 5 := Option.some.inj ((show Tryd.prog.funcNamed "gaugehouse/gaugehousekeep.XorBack" = some 5 by kernel_rfl).symm.trans hf) |>.symm
  obtain rfl : fn = Tryd.f5 := (Option.some.inj (Tryd.func5.symm.trans hfn)).symm
  refine ⟨by kernel_rfl, fun j t ht => ?_⟩
  rw [Tryd.params5] at ht
  have hm : t ∈ [22] := by simpa using Array.mem_of_getElem? ht
  have hall : ([22].all fun u => !Tryd.prog.wantsStandIn u) = true := by kernel_rfl
  exact (show Tryd.prog.wantsStandIn t = false by simpa using List.all_eq_true.1 hall t hm)
theorem proved_XorBack : Rows.XorBackCardSaid :=
  Claim7.holds_tied_plain_at .later [] _ _ _ _ said_XorBack (fun _ h => by cases h) (by kernel_rfl) (fun _ h => by cases h) xorBack_row_tie rfl ⟨rfl, rfl⟩ (by kernel_rfl) rfl plain_XorBack (by kernel_rfl)
#print axioms proved_XorBack
end Go.Proofs.YteohlkpejdjenaaDoor
