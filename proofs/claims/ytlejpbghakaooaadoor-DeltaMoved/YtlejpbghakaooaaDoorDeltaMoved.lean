/- DeltaMoved holds: at all times and all that they are moved by, the law answers true and changes nothing that was there. -/
import Derived.Test.YtlejpbghakaooaaDoorDlive
namespace Go.Proofs.YtlejpbghakaooaaDoor
open Go.ChangeShapes Go.WideShapes Go.ChangeAt Go.RowKit
set_option linter.unusedVariables false
namespace P
def mv (l : List Int) (b : Int) : List Int := l.map fun t => wrap64 (t + b)
theorem mv_len (l : List Int) (b : Int) : (mv l b).length = l.length := by simp [mv]
theorem mv_at (l : List Int) (b : Int) (j : Nat) (h : j < l.length) : (mv l b).getD j 0 = wrap64 (l.getD j 0 + b) := by
  simp [mv, List.getD_eq_getElem?_getD, h]
theorem mv_take (l : List Int) (b : Int) (j : Nat) (h : j < l.length) : (mv l b).take (j + 1) = (mv l b).take j ++ [wrap64 (l.getD j 0 + b)] := by
  rw [List.take_succ_eq_append_getElem (by rw [mv_len]; exact h)]
  simp [mv, List.getD_eq_getElem?_getD, h]
theorem wrap_diff (x y b : Int) : wrap64 (wrap64 (x + b) - wrap64 (y + b)) = wrap64 (x - y) := by unfold wrap64; omega
theorem cg_mv (l : List Int) (b : Int) (j : Nat) (h : j < l.length) (h0 : 0 < j) : cg (mv l b) j = cg l j := by
  unfold cg
  rw [mv_at l b j h, mv_at l b (j - 1) (by omega), wrap_diff]
  congr 2
  unfold stp
  split
  · rfl
  · rw [mv_at l b (j - 1) (by omega), mv_at l b (j - 2) (by omega), wrap_diff]
theorem tb_mv (l : List Int) (b : Int) (j : Nat) (h : j < l.length) : (tb (mv l b) j).length = (tb l j).length := by
  unfold tb
  split
  · rw [ofVal_len, ofVal_len]
  · rw [cg_mv l b j h (by omega)]
theorem front_mv (l : List Int) (b : Int) (n j : Nat) (h : j ≤ l.length) : (front (mv l b) n j).length = (front l n j).length := by
  induction j with
  | zero => rw [front_zero, front_zero]
  | succ j ih => rw [front_succ, front_succ, List.length_append, List.length_append, ih (by omega), tb_mv l b j (by omega)]
theorem packT_mv (l : List Int) (b : Int) : (packT (mv l b)).length = (packT l).length := by
  unfold packT; rw [mv_len]; exact front_mv l b _ _ (Nat.le_refl _)
theorem mv_i64 (l : List Int) (b : Int) : I64 (mv l b) := by
  intro x hx
  simp [mv] at hx
  obtain ⟨t, _, rfl⟩ := hx
  exact ⟨wrap64_lo _, wrap64_hi _⟩
end P

/-- How the law ends, whatever the two Packs answer: the same error, as many bits, and none with an error. -/
theorem moved_end (v0 : Value) (l : List Int) (b : Int) (w : World) (hr : RowK .i64 w v0 l) (hlen : l.length * 8 ≤ 140737488351232) (hs : Shp w) (N er : Int) (hN : er = 0 ∨ er = 2 ∧ N = 0)
    (HP : ∀ (v : Value) (l' : List Int) (w' : World), (l' = l ∨ l' = P.mv l b) → RowK .i64 w' v l' → Shp w' → Calls Tryd.prog 9 #[v] w' fun e w2 => ∃ (ay : Option Addr) (ly cy : Nat), e = .returned (.tuple #[.agg #[.slice ay ly cy, .int .i64 N], .int .i64 er]) ∧ Below w'.heap.size w' w2) :
    Calls Tryd.prog 8 #[v0, .int .i64 b] w fun e w' => e = .returned (.bool true) ∧ Below w.heap.size w w' := by
  obtain ⟨a, cap, rfl, ⟨hlc, hmax, hnn⟩, hcase⟩ := hr
  have hr0 : Hid (RowK .i64 w (.slice a l.length cap) l) := ⟨a, cap, rfl, ⟨hlc, hmax, hnn⟩, hcase⟩
  unfold maxLen at hmax
  have HPh := hide HP
  clear HP
  go_enter Tryd.func8, Tryd.ntmps8
  go_wp2_with (go_at_call 18; go_must (refine (deltas_any _ hs).mono ?_); rintro e w1 ⟨rfl, hb1⟩)
  go_loopw [5, 16] (fun m i wr => ∃ (j : Nat) (am : Option Addr) (cm : Nat), j ≤ l.length ∧ i = .int .i64 j ∧ m = .slice am j cm ∧ OwnK 2 .i64 wr w.heap.size (.slice am j cm) ((P.mv l b).take j) ∧ Below w.heap.size w wr) (fun _ i _ => l.length - (intOf i).toNat)
  case atStart => exact ⟨0, none, 0, by omega, rfl, rfl, OwnK.nil _ _ _ _, hb1⟩
  case round =>
    clear hb1
    obtain ⟨j, am, cm, hj, rfl, rfl, ho, hb⟩ := hrel
    by_cases hlt : j < l.length
    · rcases hcase with h0 | ⟨bk, off, rfl, hbs, hcell⟩
      · rw [h0] at hlt; simp at hlt
      have hc := (hb.cell (p := ⟨bk, off + j, none⟩) hbs).trans (hcell j hlt)
      have j0 : (0 : Int) ≤ (j : Int) := by omega
      have j1 : (j : Int) < (l.length : Int) := by omega
      have HT := hide (P.mv_take l b j hlt)
      have hlt2 : ((P.mv l b).take j).length ≤ j := by simp; omega
      have HL : Hid (((P.mv l b).take j).length = j) := by show _ = _; simp [P.mv_len]; omega
      generalize (P.mv l b).take j = acc at ho HT HL hlt2
      generalize l.getD j 0 = t at hc HT
      have hsz := hb.size
      go_wp2_with (at_builtin; go_must (refine wp_app1K rfl _ _ 22 2 .i64 8 rfl Tryd.underlying22 Tryd.info2 (by decide) w.heap.size w.heap.size w wr _ acc (wrap64 (t + b)) ho hb (Nat.le_refl _) rfl rfl (by omega) hsz ?_); intro v' w' hown' hb' hsz' hg'; obtain ⟨a', cap', hv'⟩ := hown'.shape; rw [hv'] at hown' ⊢; clear hv')
      go_roundw
      case rel =>
        refine ⟨j + 1, a', cap', by omega, by go_num, by simp [HL.out], ?_, hb'⟩
        rw [HT.out]
        have h2 := hown'
        rw [List.length_append, HL.out] at h2
        exact h2
      case measure => simp [intOf]; omega
    · obtain rfl : j = l.length := by omega
      have hd : decide ((l.length : Int) < (l.length : Int)) = false := by simp
      have hq : (er == er) = true := by simp
      have hq2 : (N == N) = true := by simp
      have hfull : (P.mv l b).take l.length = P.mv l b := List.take_of_length_le (by rw [P.mv_len]; exact Nat.le_refl _)
      rw [hfull] at ho
      have hs1 : Shp wr := hs.next hb
      have hrow := hr0.out.below hb (Nat.le_refl _)
      go_wp2_with fail
      refine (HPh.out _ l _ (.inl rfl) hrow hs1).mono ?_
      rintro e w2 ⟨ay, ly, cy, rfl, hb2⟩
      have ho2 := OwnK.below ho hb2 (Nat.le_refl _)
      have hs2 := hs1.next hb2
      have hb3 := Below.next hb hb2
      clear hb2
      go_wp2_with fail
      refine (HPh.out _ (P.mv l b) _ (.inr rfl) ?_ ?_).mono ?_
      · exact (OwnK.below ho2 ((Below.refl _ _).alloc (Nat.le_refl _) _) (Nat.le_refl _)).row
      · exact hs2.next ((Below.refl _ _).alloc (Nat.le_refl _) _)
      rintro e w4 ⟨az, lz, cz, rfl, hb4⟩
      obtain ⟨hx0, hx1, hb5, hsz⟩ := box2 hb4
      have hb6 := Below.next hb3 hb5
      clear hb4 hb5 hb3 hb
      rcases hN with rfl | ⟨rfl, rfl⟩
      · go_wp2
        go_ret
        exact ⟨rfl, below_alloc hb6 _⟩
      · go_wp2
        go_ret
        exact ⟨rfl, below_alloc hb6 _⟩

theorem walk_DeltaMoved (v0 : Value) (l : List Int) (b : Int) (w : World) (hr : RowK .i64 w v0 l) (hi : ∀ x ∈ l, -9223372036854775808 ≤ x ∧ x ≤ 9223372036854775807) (hlen : l.length * 8 ≤ 140737488351232) (h1 : -9223372036854775808 ≤ b) (h1' : b ≤ 9223372036854775807) (hs : Shp w) :
    Calls Tryd.prog 8 #[v0, .int .i64 b] w fun e w' => e = .returned (.bool true) ∧ Below w.heap.size w w' := by
  by_cases hn : l.length ≤ 1000
  · refine moved_end v0 l b w hr hlen hs (P.packT l).length 0 (.inl rfl) fun v l' w' hl' hr' hs' => ?_
    have e : (P.packT l').length = (P.packT l).length ∧ P.I64 l' ∧ l'.length ≤ 1000 := by
      rcases hl' with rfl | rfl
      · exact ⟨rfl, hi, hn⟩
      · exact ⟨P.packT_mv l b, P.mv_i64 l b, by rw [P.mv_len]; exact hn⟩
    refine (pack_any v l' w' hr' e.2.1 e.2.2 hs').mono ?_
    rintro e' w2 ⟨vy, rfl, hown, hb⟩
    obtain ⟨ay, cy, rfl⟩ := hown.shp
    exact ⟨ay, _, cy, by rw [e.1], hb⟩
  · refine moved_end v0 l b w hr hlen hs 0 2 (.inr ⟨rfl, rfl⟩) fun v l' w' hl' hr' hs' => ?_
    have e : 1000 < l'.length := by
      rcases hl' with rfl | rfl
      · omega
      · rw [P.mv_len]; omega
    refine (pack_large v l' w' hr' e).mono ?_
    rintro e' w2 ⟨rfl, hb⟩
    exact ⟨none, 0, 0, rfl, hb⟩

theorem laid_met_DeltaMoved (os : Os) : laidMet Tryd.prog Rows.deltaMovedRow.laid ((laidWorld os).forCall (fun _ _ => 0) ⟨#[], #[.slice none 0 0, .int .i64 0], []⟩).memory := laidMet_of_run' 8 (by kernel_rfl) (by kernel_rfl)
theorem reads_DeltaMoved (os : Os) {H : Type} (enc : TypeId × Value → H) : ∃ places, DataW.whole enc Tryd.prog ((laidWorld os).forCall (fun _ _ => 0) ⟨#[], #[.slice none 0 0, .int .i64 0], []⟩).memory Tryd.f8.params.toList Rows.deltaMovedSpec.vars false (#[.slice none 0 0, .int .i64 0] : Array Value).toList 8 = some ([.nil, .lit (.int .i64 0)], [], places) := ⟨[], by kernel_rfl⟩
set_option maxRecDepth 100000 in
theorem lifted_DeltaMoved (os : Os) (started : os.Started) (H : Type) (enc : TypeId × Value → H) (F : Stop.Interp) :
    ReturnsInHanded {} Tryd.checked os 8 .any ((OpenSpec.ofChange Rows.deltaMovedSpec).preRow enc Tryd.prog Tryd.f8 Rows.deltaMovedRow.domain false Rows.deltaMovedRow.laid) (((OpenSpec.ofChange Rows.deltaMovedSpec).at F).post enc Tryd.prog Tryd.f8 false true false false) := by
  obtain ⟨places, hx⟩ := reads_DeltaMoved os enc
  refine returnsInHanded_of_row (C := Tryd.checked) (s := (OpenSpec.ofChange Rows.deltaMovedSpec)) own started (by kernel_rfl) Tryd.func8
    (witness_row_at (enc := enc) (C := Tryd.checked) false (laidWorld os) #[.slice none 0 0, .int .i64 0] rfl (by kernel_rfl) (by kernel_rfl) (by kernel_rfl)
      (OpenSpec.preRow_of_cond 8 hx (by kernel_rfl) (fun k hk => by cases hk) (by kernel_rfl) (laid_met_DeltaMoved os))) ?_
  intro W base args ds gs before hval0 hW hcnd hk00 hsz0 hL _ _
  have hLd := laid_of hL
  have hsz : (DataW.weightsEach Tryd.prog (Tryd.f8.params.toList ++ Rows.deltaMovedSpec.plain.varTypes Tryd.prog) (ds ++ gs)).all (· ≤ reachBytes) = true := hsz0
  have hval : ∀ (j : Nat) t v, Tryd.f8.params[j]? = some t → args[j]? = some v → Value.okWide Tryd.prog W .any base t v := hval0
  have hW' := hW
  obtain ⟨p, q, hA0, hV, rfl, hfz, hnd⟩ := hW
  have hA : DataW.TrodAll enc Tryd.prog W 0 (fun _ => true) true Tryd.f8.params.toList args.toList ds p := hA0
  rw [Tryd.params8] at hA hval hsz
  obtain ⟨v0, vs0, d0, ds0, p0, q0, hargs, rfl, rfl, h0, r0⟩ := trodAll_cons hA
  obtain ⟨v1, vs1, d1, ds1, p1, q1, rfl, rfl, rfl, h1, r1⟩ := trodAll_cons r0
  obtain ⟨rfl, rfl, rfl⟩ := trodAll_nil r1
  obtain rfl : args = #[v0, v1] := by cases args; simp_all
  obtain ⟨rfl, rfl⟩ := trodVars_none hV
  have k0 := h0
  have lt0 : ∀ x ∈ p0, x.block < W.heap.size := by obtain ⟨m, hm⟩ := k0; exact DataW.trod_lt m _ _ _ hm
  obtain ⟨s0, len0, cap0, rfl⟩ := okWide_slice Tryd.underlying22 (hval 0 22 v0 rfl rfl)
  obtain ⟨l0, row0, wf0, sh0⟩ := open_row Tryd.underlying22 Tryd.underlying2 cells2 h0
  have rc0 := row_reach hsz (j := 0) (t := 22) rfl rfl Tryd.underlying22 sh0
  rw [bytes2] at rc0
  have k1 := h1
  have lt1 : ∀ x ∈ p1, x.block < W.heap.size := by obtain ⟨m, hm⟩ := k1; exact DataW.trod_lt m _ _ _ hm
  obtain ⟨a1, rfl, rfl, rfl, w1⟩ := open_int Tryd.underlying2 (hval 1 2 v1 rfl rfl) h1
  have b1 := bounds_i64 w1
  clear hA0 hval0
  refine (walk_DeltaMoved (.slice s0 len0 cap0) l0 a1 W row0 (fun x hx => bounds_i64 (wf0 x hx)) rc0 b1.1 b1.2 hLd).mono fun e W' ⟨he, bel⟩ => ?_
  subst he
  exact ⟨_, rfl, _, _, _, [], _, [], hW', trodAll_mk1 (shut_bool Tryd.underlying4 _), (trodAll_cons_mk (Below.trod laidOut (by kernel_rfl) (of_decide_eq_true (by kernel_rfl)) k0 bel lt0) (trodAll_cons_mk (Below.trod laidOut (by kernel_rfl) (of_decide_eq_true (by kernel_rfl)) k1 bel lt1) trodAll_mk0)), rfl, bel.frame _, fun h => by cases h⟩

theorem said_DeltaMoved : Rows.DeltaMovedSaid :=
  OpenClaim.holds_of_cond 8 Tryd.f8 rfl rfl rfl rfl rfl rfl rfl ⟨rfl, rfl, rfl, rfl, rfl⟩ rfl rfl rfl rfl rfl (by kernel_rfl) Tryd.func8 (by kernel_rfl)
    (of_decide_eq_true (by kernel_rfl)) (by unfold Func.isWrapper; first | (rw [if_pos (by decide +kernel)]; kernel_rfl) | (rw [if_neg (by decide +kernel)]; exact ⟨rfl, rfl⟩))
    (fun os started H enc _ F => by rw [OpenClaim.pre_eq_preRow]; exact lifted_DeltaMoved os started H enc F)
theorem plain_DeltaMoved (f : FuncId) (fn : Func) (hf : Tryd.pinned.checked.prog.funcNamed "gaugehouse/gaugehousekeep.DeltaMoved" = some f) (hfn : Tryd.pinned.checked.prog.funcs[f]? = some fn) :
    false = Tryd.pinned.checked.prog.looks [] ∧ ∀ (j : Nat) t, fn.params[j]? = some t → Tryd.pinned.checked.prog.wantsStandIn t = false := by
  obtain rfl : f = 8 := Option.some.inj ((show Tryd.prog.funcNamed "gaugehouse/gaugehousekeep.DeltaMoved" = some 8 by kernel_rfl).symm.trans hf) |>.symm
  obtain rfl : fn = Tryd.f8 := (Option.some.inj (Tryd.func8.symm.trans hfn)).symm
  refine ⟨by kernel_rfl, fun j t ht => ?_⟩
  rw [Tryd.params8] at ht
  have hm : t ∈ [22, 2] := by simpa using Array.mem_of_getElem? ht
  have hall : ([22, 2].all fun u => !Tryd.prog.wantsStandIn u) = true := by kernel_rfl
  exact (show Tryd.prog.wantsStandIn t = false by simpa using List.all_eq_true.1 hall t hm)
theorem proved_DeltaMoved : Rows.DeltaMovedCardSaid :=
  Claim7.holds_tied_plain_at .later [] _ _ _ _ said_DeltaMoved (fun _ h => by cases h) (by kernel_rfl) (fun _ h => by cases h) deltaMoved_row_tie rfl ⟨rfl, rfl⟩ (by kernel_rfl) rfl plain_DeltaMoved (by kernel_rfl)
#print axioms proved_DeltaMoved
end Go.Proofs.YtlejpbghakaooaaDoor
