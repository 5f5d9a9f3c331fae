/- XorPacks holds: at all lists of measures the law answers true and changes nothing that was there. -/
import Derived.Test.YteohlkpejdjenaaDoorXmsig
import Derived.Test.YteohlkpejdjenaaDoorXorR
import Derived.Test.YteohlkpejdjenaaDoorPacked
namespace Go.Proofs.YteohlkpejdjenaaDoor
open Go.ChangeShapes Go.WideShapes Go.ChangeAt Go.RowKit
set_option linter.unusedVariables false
theorem rowK_nilP (k : IntKind) (w : World) : RowK k w (.slice none 0 0) [] := ⟨none, 0, rfl, ⟨by simp, by simp, fun _ => rfl⟩, .inl rfl⟩
theorem sameL_selfP (l : List Int) : sameL l l = true := by unfold sameL; simp
theorem packs_large (v : Value) (l : List Int) (w : World) (hr : RowK .u64 w v l) (hn : 1000 < l.length) :
    Calls Tryd.prog 3 #[v] w fun e w' => e = .returned (.bool true) ∧ Below w.heap.size w w' := by
  have HP := hide (pack_large v l w hr hn)
  have HSm : Hid (∀ (w : World), Calls Tryd.prog 10 #[noBits, noBits] w fun e w' => e = .returned (.bool true) ∧ Below w.heap.size w w') := fun w =>
    (refSame_any _ _ [] [] 0 0 w (rowK_nilP _ w) (rowK_nilP _ w)).mono fun e w' h => ⟨by rw [h.1]; simp [sameL], h.2⟩
  obtain ⟨a, cap, rfl, ⟨hlc, hmax, hnn⟩, hcase⟩ := hr
  unfold maxLen at hmax
  clear hcase
  have hd : decide (1000 < (l.length : Int)) = true := by simp; omega
  go_enter Tryd.func3, Tryd.ntmps3
  go_wp2_with (first
    | (go_at_call 9; go_must (refine HP.out.mono ?_); rintro e w2 ⟨rfl, hb⟩)
    | (go_at_call 10; refine (HSm.out _).mono ?_; rintro e w4 ⟨rfl, hb4⟩; replace hb := Below.next (below_alloc hb _) hb4))
  go_ret
  exact ⟨rfl, hb⟩
theorem packs_mid (v : Value) (l : List Int) (w : World) (hr : RowK .u64 w v l) (hi : P.U64 l) (hs : Tab w) (hn : l.length ≤ 1000) (h60 : 60 < l.length) :
    Calls Tryd.prog 3 #[v] w fun e w' => e = .returned (.bool true) ∧ Below w.heap.size w w' := by
  have HP := hide (pack_any v l w hr hi hn hs)
  obtain ⟨a, cap, rfl, ⟨hlc, hmax, hnn⟩, hcase⟩ := hr
  unfold maxLen at hmax
  clear hcase
  have hd : decide (1000 < (l.length : Int)) = false := by simp; omega
  have hd2 : decide (60 < (l.length : Int)) = true := by simp; omega
  go_enter Tryd.func3, Tryd.ntmps3
  go_wp2_with (go_at_call 9; go_must (refine HP.out.mono ?_); rintro e w2 ⟨vy, rfl, hown, hb⟩; obtain ⟨ay, capy, hvy⟩ := hown.shp; rw [hvy] at hown ⊢; clear hvy)
  go_quiet (fail)
  go_wp2
  go_ret
  exact ⟨rfl, Below.drewN (below_alloc hb _) _⟩
set_option maxHeartbeats 1000000 in
theorem packs_few (v : Value) (l : List Int) (w : World) (hr : RowK .u64 w v l) (hi : P.U64 l) (hs : Tab w) (h60 : l.length ≤ 60) :
    Calls Tryd.prog 3 #[v] w fun e w' => e = .returned (.bool true) ∧ Below w.heap.size w w' := by
  have HP := hide (pack_any v l w hr hi (by omega) hs)
  have HT := hide (fun (w : World) (hr : RowK .u64 w v l) => (measureSigns_any v l w hr hi (by omega)).mono (R' := fun e w' => e = .returned (.string (P.strB (P.packT l))) ∧ Below w.heap.size w w') (fun e w' h => ⟨h.1, by rw [h.2]; exact Below.refl _ _⟩))
  have hr0 := hr
  obtain ⟨a, cap, rfl, ⟨hlc, hmax, hnn⟩, hcase⟩ := hr
  unfold maxLen at hmax
  clear hcase
  have hle : (P.packT l).length ≤ 80000 := by have := P.front_le l l.length l.length; unfold P.packT; omega
  have HK := hide (fun (w : World) => packed_any (P.packT l) w (by omega))
  have HSm : Hid (∀ (v1 v2 : Value) (w : World), RowB w v1 (P.pack (P.packT l)) → RowB w v2 (P.pack (P.packT l)) → Calls Tryd.prog 10 #[.agg #[v1, .int .i64 (P.packT l).length], .agg #[v2, .int .i64 (P.packT l).length]] w fun e w' => e = .returned (.bool true) ∧ Below w.heap.size w w') := fun v1 v2 w h1 h2 =>
    (refSame_any v1 v2 _ _ _ _ w h1 h2).mono fun e w' h => ⟨by rw [h.1, sameL_selfP]; simp, h.2⟩
  generalize P.packT l = bs at *
  have hd : decide (1000 < (l.length : Int)) = false := by simp; omega
  have hd2 : decide (60 < (l.length : Int)) = false := by simp; omega
  go_enter Tryd.func3, Tryd.ntmps3
  go_wp2_with (go_at_call 9; go_must (refine HP.out.mono ?_); rintro e w2 ⟨vy, rfl, hown, hb⟩; obtain ⟨ay, capy, hvy⟩ := hown.shp; rw [hvy] at hown ⊢; clear hvy)
  generalize hW : World.alloc w2 _ = W
  have x0 : W.cell? ⟨w2.heap.size, 0, none⟩ = some (.slice ay (P.pack bs).length capy) := by rw [← hW]; simp
  have x1 : W.cell? ⟨w2.heap.size, 1, none⟩ = some (.int .i64 bs.length) := by rw [← hW]; simp
  have hbA : Below w2.heap.size w2 W := by rw [← hW]; exact (Below.refl _ _).alloc (Nat.le_refl _) _
  have hbW : Below w.heap.size w W := Below.next hb hbA
  have hoW := OwnB.below hown hbA (Nat.le_refl _)
  have hrW := hr0.below hbW.drew (Nat.le_refl _)
  clear hW hbA hb hown
  go_region_held3 (fun wx => wx.cell? ⟨w2.heap.size, 0, none⟩ = some (.slice ay (P.pack bs).length capy) ∧ wx.cell? ⟨w2.heap.size, 1, none⟩ = some (.int .i64 bs.length)) (first | (refine ⟨?_, ?_⟩ <;> with_reducible assumption) | go_keep) (first
    | (go_at_call 12; refine (HT.out _ hrW).mono ?_; rintro e w4 ⟨rfl, hb4⟩; have y0 := keep_cell (w := W.drew) x0 hb4; have y1 := keep_cell (w := W.drew) x1 hb4; have hb5 := Below.next (w1 := W.drew) hbW.drew hb4; have ho5 := OwnB.below (w := W.drew) hoW hb4 (Nat.le_refl _); clear hb4)
    | (go_at_call 11; refine (HK.out _).mono ?_; rintro e w6 ⟨vz, rfl, hown6, hb6⟩; obtain ⟨az, capz, hvz⟩ := hown6.shp; rw [hvz] at hown6 ⊢; clear hvz; have z0 := keep_cell y0 hb6; have z1 := keep_cell y1 hb6; have hb7 := Below.next hb5 hb6; have ho7 := OwnB.below ho5 hb6 (Nat.le_refl _); clear hb6)
    | (go_at_call 10; refine (HSm.out _ _ _ ho7.row hown6.row).mono ?_; rintro e w8 ⟨rfl, hb8⟩; have s0 := keep_cell z0 hb8; have s1 := keep_cell z1 hb8; have hb9 := Below.next hb7 hb8; clear hb8))
  all_goals go_wp2
  all_goals go_ret
  all_goals exact ⟨rfl, hb9⟩
theorem walk_XorPacks (v : Value) (l : List Int) (w : World) (hr : RowK .u64 w v l) (hi : ∀ x ∈ l, 0 ≤ x ∧ x ≤ 18446744073709551615) (hlen : l.length * 8 ≤ 140737488351232) (hs : Tab w) :
    Calls Tryd.prog 3 #[v] w fun e w' => e = .returned (.bool true) ∧ Below w.heap.size w w' := by
  by_cases h60 : l.length ≤ 60
  · exact packs_few v l w hr hi hs h60
  · by_cases hn : l.length ≤ 1000
    · exact packs_mid v l w hr hi hs hn (by omega)
    · exact packs_large v l w hr (by omega)

theorem laid_met_XorPacks (os : Os) : laidMet Tryd.prog Rows.xorPacksRow.laid ((laidWorld os).forCall (fun _ _ => 0) ⟨#[], #[.slice none 0 0], []⟩).memory := laidMet_of_run' 8 (by kernel_rfl) (by kernel_rfl)
theorem reads_XorPacks (os : Os) {H : Type} (enc : TypeId × Value → H) : ∃ places, DataW.whole enc Tryd.prog ((laidWorld os).forCall (fun _ _ => 0) ⟨#[], #[.slice none 0 0], []⟩).memory Tryd.f3.params.toList Rows.xorPacksSpec.vars false (#[.slice none 0 0] : Array Value).toList 8 = some ([.nil], [], places) := ⟨[], by kernel_rfl⟩
set_option maxRecDepth 100000 in
theorem lifted_XorPacks (os : Os) (started : os.Started) (H : Type) (enc : TypeId × Value → H) (F : Stop.Interp) :
    ReturnsInHanded {} Tryd.checked os 3 .any ((OpenSpec.ofChange Rows.xorPacksSpec).preRow enc Tryd.prog Tryd.f3 Rows.xorPacksRow.domain false Rows.xorPacksRow.laid) (((OpenSpec.ofChange Rows.xorPacksSpec).at F).post enc Tryd.prog Tryd.f3 false true false false) := by
  obtain ⟨places, hx⟩ := reads_XorPacks os enc
  refine returnsInHanded_of_row (C := Tryd.checked) (s := (OpenSpec.ofChange Rows.xorPacksSpec)) own started (by kernel_rfl) Tryd.func3
    (witness_row_at (enc := enc) (C := Tryd.checked) false (laidWorld os) #[.slice none 0 0] rfl (by kernel_rfl) (by kernel_rfl) (by kernel_rfl)
      (OpenSpec.preRow_of_cond 8 hx (by kernel_rfl) (fun k hk => by cases hk) (by kernel_rfl) (laid_met_XorPacks os))) ?_
  intro W base args ds gs before hval0 hW hcnd hk00 hsz0 hL _ _
  have hLd := laid_of hL
  have hsz : (DataW.weightsEach Tryd.prog (Tryd.f3.params.toList ++ Rows.xorPacksSpec.plain.varTypes Tryd.prog) (ds ++ gs)).all (· ≤ reachBytes) = true := hsz0
  have hval : ∀ (j : Nat) t v, Tryd.f3.params[j]? = some t → args[j]? = some v → Value.okWide Tryd.prog W .any base t v := hval0
  have hW' := hW
  obtain ⟨p, q, hA0, hV, rfl, hfz, hnd⟩ := hW
  have hA : DataW.TrodAll enc Tryd.prog W 0 (fun _ => true) true Tryd.f3.params.toList args.toList ds p := hA0
  rw [Tryd.params3] at hA hval hsz
  obtain ⟨v0, vs0, d0, ds0, p0, q0, hargs, rfl, rfl, h0, r0⟩ := trodAll_cons hA
  obtain ⟨rfl, rfl, rfl⟩ := trodAll_nil r0
  obtain rfl : args = #[v0] := by cases args; simp_all
  obtain ⟨rfl, rfl⟩ := trodVars_none hV
  have k0 := h0
  have lt0 : ∀ x ∈ p0, x.block < W.heap.size := by obtain ⟨m, hm⟩ := k0; exact DataW.trod_lt m _ _ _ hm
  obtain ⟨s0, len0, cap0, rfl⟩ := okWide_slice Tryd.underlying22 (hval 0 22 v0 rfl rfl)
  obtain ⟨l0, row0, wf0, sh0⟩ := open_row Tryd.underlying22 Tryd.underlying40 cells40 h0
  have rc0 := row_reach hsz (j := 0) (t := 22) rfl rfl Tryd.underlying22 sh0
  rw [bytes40] at rc0
  clear hA0 hval0
  refine (walk_XorPacks (.slice s0 len0 cap0) l0 W row0 (fun x hx => bounds_u64 (wf0 x hx)) rc0 hLd).mono fun e W' ⟨he, bel⟩ => ?_
  subst he
  exact ⟨_, rfl, _, _, _, [], _, [], hW', trodAll_mk1 (shut_bool Tryd.underlying4 _), (trodAll_cons_mk (Below.trod laidOut (by kernel_rfl) (of_decide_eq_true (by kernel_rfl)) k0 bel lt0) trodAll_mk0), rfl, bel.frame _, fun h => by cases h⟩

theorem said_XorPacks : Rows.XorPacksSaid :=
  OpenClaim.holds_of_cond 3 Tryd.f3 rfl rfl rfl rfl rfl rfl rfl ⟨rfl, rfl, rfl, rfl, rfl⟩ rfl rfl rfl rfl rfl (by kernel_rfl) Tryd.func3 (by kernel_rfl)
    (of_decide_eq_true (by kernel_rfl)) (by unfold Func.isWrapper; first | (rw [if_pos (by decide +kernel)]; kernel_rfl) | (rw [if_neg (by decide +kernel)]; exact ⟨rfl, rfl⟩))
    (fun os started H enc _ F => by rw [OpenClaim.pre_eq_preRow]; exact lifted_XorPacks os started H enc F)
theorem plain_XorPacks (f : FuncId) (fn : Func) (hf : Tryd.pinned.checked.prog.funcNamed "gaugehouse/gaugehouselaw.XorPacks" = some f) (hfn : Tryd.pinned.checked.prog.funcs[f]? = some fn) :
    false = Tryd.pinned.checked.prog.looks [] ∧ ∀ (j : Nat) t, fn.params[j]? = some t → Tryd.pinned.checked.prog.wantsStandIn t = false := by
  obtain rfl : f = 3 := Option.some.inj ((show Tryd.prog.funcNamed "gaugehouse/gaugehouselaw.XorPacks" = some 3 by kernel_rfl).symm.trans hf) |>.symm
  obtain rfl : fn = Tryd.f3 := (Option.some.inj (Tryd.func3.symm.trans hfn)).symm
  refine ⟨by kernel_rfl, fun j t ht => ?_⟩
  rw [Tryd.params3] at ht
  have hm : t ∈ [22] := by simpa using Array.mem_of_getElem? ht
  have hall : ([22].all fun u => !Tryd.prog.wantsStandIn u) = true := by kernel_rfl
  exact (show Tryd.prog.wantsStandIn t = false by simpa using List.all_eq_true.1 hall t hm)
theorem proved_XorPacks : Rows.XorPacksCardSaid :=
  Claim7.holds_tied_plain_at .later [] _ _ _ _ said_XorPacks (fun _ h => by cases h) (by kernel_rfl) (fun _ h => by cases h) xorPacks_row_tie rfl ⟨rfl, rfl⟩ (by kernel_rfl) rfl plain_XorPacks (by kernel_rfl)
#print axioms proved_XorPacks
end Go.Proofs.YteohlkpejdjenaaDoor
