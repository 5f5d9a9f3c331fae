/- DeltaSteady holds: at all times, steps and numbers the law answers true. -/
import Derived.Test.YtlejpbghakaooaaDoorDlive
import Derived.Test.YtlejpbghakaooaaDoorGood
namespace Go.Proofs.YtlejpbghakaooaaDoor
open Go.ChangeShapes Go.WideShapes Go.ChangeAt Go.RowKit
set_option linter.unusedVariables false
namespace P
def sd (t s : Int) (n : Nat) : List Int := (List.range n).map fun (i : Nat) => wrap64 (t + wrap64 ((i : Int) * s))
theorem sd_len (t s : Int) (n : Nat) : (sd t s n).length = n := by simp [sd]
theorem sd_at (t s : Int) (n j : Nat) (h : j < n) : (sd t s n).getD j 0 = wrap64 (t + wrap64 ((j : Int) * s)) := by
  simp [sd, List.getD_eq_getElem?_getD, h]
theorem sd_succ (t s : Int) (j : Nat) : sd t s (j + 1) = sd t s j ++ [wrap64 (t + wrap64 ((j : Int) * s))] := by
  unfold sd; rw [List.range_succ, List.map_append]; rfl
theorem sd_i64 (t s : Int) (n : Nat) : I64 (sd t s n) := by
  intro x hx
  simp [sd] at hx
  obtain ⟨i, _, rfl⟩ := hx
  exact ⟨wrap64_lo _, wrap64_hi _⟩
theorem wrap_step (t x y s : Int) (h : x = y + s) : wrap64 (wrap64 (t + wrap64 x) - wrap64 (t + wrap64 y)) = wrap64 s := by
  subst h; unfold wrap64; omega
theorem cg_sd (t s : Int) (n j : Nat) (h : j < n) (h2 : 2 ≤ j) : cg (sd t s n) j = 0 := by
  unfold cg stp
  rw [if_neg (by omega), sd_at t s n j h, sd_at t s n (j - 1) (by omega), sd_at t s n (j - 2) (by omega)]
  have e1 : (j : Int) * s = ((j - 1 : Nat) : Int) * s + s := by
    have : (j : Int) = ((j - 1 : Nat) : Int) + 1 := by omega
    rw [this, Int.add_mul, Int.one_mul]
  have e2 : ((j - 1 : Nat) : Int) * s = ((j - 2 : Nat) : Int) * s + s := by
    have : ((j - 1 : Nat) : Int) = ((j - 2 : Nat) : Int) + 1 := by omega
    rw [this, Int.add_mul, Int.one_mul]
  rw [wrap_step t _ _ s e1, wrap_step t _ _ s e2]
  unfold wrap64; omega
theorem front_sd (t s : Int) (n m j : Nat) (h : j ≤ n) (h2 : 2 ≤ j) : (front (sd t s n) m j).length + 2 = (front (sd t s n) m 2).length + j := by
  induction j with
  | zero => omega
  | succ j ih =>
    rcases Nat.lt_or_ge j 2 with h3 | h3
    · have : j = 1 := by omega
      subst this; rfl
    · have := ih (by omega) h3
      rw [front_succ, List.length_append]
      have e : (tb (sd t s n) j).length = 1 := by
        unfold tb
        rw [if_neg (by omega), cg_sd t s n j (by omega) h3]
        decide
      omega
theorem front_cnt (l : List Int) (n m j : Nat) : (front l n j).length = (front l m j).length := by
  unfold front; rw [List.length_append, List.length_append, ofVal_len, ofVal_len]
theorem packT_sd (t s : Int) (n : Nat) (h : 2 ≤ n) : ((packT (sd t s n)).length : Int) = (packT ((sd t s n).take 2)).length + n - 2 := by
  have h1 := front_sd t s n n n (Nat.le_refl _) h
  have h2 : (packT ((sd t s n).take 2)).length = (front (sd t s n) n 2).length := by
    have hl : ((sd t s n).take 2).length = 2 := by simp [sd_len]; omega
    unfold packT
    rw [hl]
    have := front_app ((sd t s n).take 2) ((sd t s n).drop 2) 2 2 (by omega)
    rw [List.take_append_drop] at this
    rw [← this]
    exact front_cnt _ _ _ _
  have h3 : (packT (sd t s n)).length = (front (sd t s n) n n).length := by unfold packT; rw [sd_len]
  omega
end P

theorem steady_out (t s n : Int) (w : World) (hs : Shp w) (h : n < 2 ∨ 100 < n) :
    Calls Tryd.prog 7 #[.int .i64 t, .int .i64 s, .int .i64 n] w fun e w' => e = .returned (.bool true) ∧ Below w.heap.size w w' := by
  by_cases h2 : n < 2
  · go_enter Tryd.func7, Tryd.ntmps7
    go_wp2_with (go_at_call 18; go_must (refine (deltas_any _ hs).mono ?_); rintro e w1 ⟨rfl, hb1⟩)
    go_ret
    exact ⟨rfl, hb1⟩
  · have hd : decide (n < 2) = false := by simp; omega
    have hd2 : decide (100 < n) = true := by simp; omega
    go_enter Tryd.func7, Tryd.ntmps7
    go_wp2_with (go_at_call 18; go_must (refine (deltas_any _ hs).mono ?_); rintro e w1 ⟨rfl, hb1⟩)
    go_ret
    exact ⟨rfl, hb1⟩
set_option maxRecDepth 100000 in
set_option maxHeartbeats 1000000 in
theorem steady_in (t s : Int) (n : Nat) (w : World) (hs : Shp w) (h2 : 2 ≤ n) (h3 : n ≤ 100) :
    Calls Tryd.prog 7 #[.int .i64 t, .int .i64 s, .int .i64 n] w fun e w' => e = .returned (.bool true) ∧ Below w.heap.size w w' := by
  have hd1 : decide ((n : Int) < 2) = false := by simp; omega
  have hd2 : decide (100 < (n : Int)) = false := by simp; omega
  have HPk := hide (P.packT_sd t s n h2)
  have hle := P.front_le (P.sd t s n) n n
  have hle2 : (P.packT ((P.sd t s n).take 2)).length ≤ 200 := by
    have := P.front_le ((P.sd t s n).take 2) ((P.sd t s n).take 2).length ((P.sd t s n).take 2).length
    have hl : ((P.sd t s n).take 2).length ≤ 2 := by simp; omega
    unfold P.packT; omega
  go_enter Tryd.func7, Tryd.ntmps7
  go_wp2_with (go_at_call 18; go_must (refine (deltas_any _ hs).mono ?_); rintro e w1 ⟨rfl, hb1⟩)
  go_loopw [7, 22] (fun m i wr => ∃ (j : Nat) (am : Option Addr) (cm : Nat), j ≤ n ∧ i = .int .i64 j ∧ m = .slice am j cm ∧ OwnK 2 .i64 wr w.heap.size (.slice am j cm) (P.sd t s j) ∧ Below w.heap.size w wr) (fun _ i _ => n - (intOf i).toNat)
  case atStart => exact ⟨0, none, 0, by omega, rfl, rfl, by simpa [P.sd] using OwnK.nil 2 .i64 w1 w.heap.size, hb1⟩
  case round =>
    clear hb1
    obtain ⟨j, am, cm, hj, rfl, rfl, ho, hb⟩ := hrel
    by_cases hlt : j < n
    · have HT := hide (P.sd_succ t s j)
      have HL := hide (P.sd_len t s j)
      have hlt2 := Nat.le_of_eq (P.sd_len t s j)
      generalize P.sd t s j = acc at ho HT HL hlt2
      have hsz := hb.size
      go_wp2_with (at_builtin; go_must (refine wp_app1K rfl _ _ 22 2 .i64 8 rfl Tryd.underlying22 Tryd.info2 (by decide) w.heap.size w.heap.size w wr _ acc _ ho hb (Nat.le_refl _) rfl rfl (by omega) hsz ?_); intro v' w' hown' hb' hsz' hg'; obtain ⟨a', cap', hv'⟩ := hown'.shape; rw [hv'] at hown' ⊢; clear hv')
      go_roundw
      case rel =>
        refine ⟨j + 1, a', cap', by omega, by go_num, by simp [HL.out], ?_, hb'⟩
        rw [HT.out]
        have h2 := hown'
        rw [List.length_append, HL.out] at h2
        exact h2
      case measure => simp [intOf]; omega
    · obtain rfl : j = n := by omega
      have hd : decide ((j : Int) < (j : Int)) = false := by simp
      have hs1 : Shp wr := hs.next hb
      have hln := P.sd_len t s j
      have hi := P.sd_i64 t s j
      have hi2 : P.I64 ((P.sd t s j).take 2) := fun x hx => hi x (List.mem_of_mem_take hx)
      have HP1 := hide (fun (v : Value) (w : World) (hr : RowK .i64 w v (P.sd t s j)) (hs : Shp w) => pack_any v _ w hr hi (by omega) hs)
      have HP2 := hide (fun (v : Value) (w : World) (hr : RowK .i64 w v ((P.sd t s j).take 2)) (hs : Shp w) => pack_any v _ w hr hi2 (by simp; omega) hs)
      obtain ⟨g, cg, hv⟩ := Joins.ownsRow_form ho (by omega)
      simp only [Value.slice.injEq] at hv
      obtain ⟨rfl, -, hcc⟩ := hv
      subst hcc
      have hcm : 2 ≤ cm ∧ cm ≤ 9223372036854775807 := by
        obtain ⟨a', c', hv', ⟨q1, q2, _⟩, _⟩ := ho.row
        simp only [Value.slice.injEq] at hv'
        obtain ⟨-, -, rfl⟩ := hv'
        unfold maxLen at q2
        omega
      obtain ⟨hcm1, hcm2⟩ := hcm
      clear hln hi hi2
      go_wp2_with fail
      refine (HP1.out _ _ ho.row hs1).mono ?_
      rintro e w2 ⟨vy, rfl, hown, hb2⟩
      obtain ⟨ay, cy, hvy⟩ := hown.shp
      rw [hvy]
      have ho2 := OwnK.below ho hb2 (Nat.le_refl _)
      have hs2 := hs1.next hb2
      have hb3 := Below.next hb hb2
      clear hb2 hvy hown
      have hlenI : (2 : Int) ≤ (j : Int) := by omega
      go_wp2_with fail
      have hrow2 := fun o => ((OwnK.below ho2 ((Below.refl _ _).alloc (Nat.le_refl _) o) (Nat.le_refl _)).row).front 2 (by rw [P.sd_len]; exact h2)
      refine (HP2.out _ _ (hrow2 _) (hs2.next ((Below.refl _ _).alloc (Nat.le_refl _) _))).mono ?_
      rintro e w4 ⟨vz, rfl, hown4, hb4⟩
      obtain ⟨az, cz, hvz⟩ := hown4.shp
      rw [hvz]
      obtain ⟨hx0, hx1, hb5, hsz⟩ := box2 hb4
      have hb6 := Below.next hb3 hb5
      have hpk := HPk.out
      generalize (P.packT (P.sd t s j)).length = A at hpk hx1 ⊢
      generalize (P.packT ((P.sd t s j).take 2)).length = B at hpk hle2 ⊢
      have hq : ((A : Int) == (B : Int) + (j : Int) - 2) = true := by rw [beq_iff_eq]; exact hpk
      have hz := hide (fun (o : Obj) (t : TypeId) => row_two_zeros (w4.alloc o) t)
      have he : ∀ o : Obj, (w4.alloc o).heap.size = w4.heap.size + 1 := fun o => by simp
      simp only [he] at hz
      clear hb4 hb5 hb3 hb hpk hown4 hvz HP1 HP2 hrow2 HPk he
      go_wp2_with (go_at_call 21; go_must (refine (good_zeros _ 2 _ (hz.out _ _)).mono ?_); rintro e w' ⟨rfl, rfl⟩)
      go_ret
      exact ⟨rfl, below_alloc (below_alloc hb6 _) _⟩
theorem walk_DeltaSteady (t s n : Int) (w : World) (h0 : -9223372036854775808 ≤ t) (h0' : t ≤ 9223372036854775807) (h1 : -9223372036854775808 ≤ s) (h1' : s ≤ 9223372036854775807) (h2 : -9223372036854775808 ≤ n) (h2' : n ≤ 9223372036854775807) (hs : Shp w) :
    Calls Tryd.prog 7 #[.int .i64 t, .int .i64 s, .int .i64 n] w fun e w' => e = .returned (.bool true) ∧ Below w.heap.size w w' := by
  by_cases h : n < 2 ∨ 100 < n
  · exact steady_out t s n w hs h
  · obtain ⟨m, rfl⟩ := Int.eq_ofNat_of_zero_le (show 0 ≤ n by omega)
    exact steady_in t s m w hs (by omega) (by omega)

theorem laid_met_DeltaSteady (os : Os) : laidMet Tryd.prog Rows.deltaSteadyRow.laid ((laidWorld os).forCall (fun _ _ => 0) ⟨#[], #[.int .i64 0, .int .i64 0, .int .i64 0], []⟩).memory := laidMet_of_run' 8 (by kernel_rfl) (by kernel_rfl)
theorem reads_DeltaSteady (os : Os) {H : Type} (enc : TypeId × Value → H) : ∃ places, DataW.whole enc Tryd.prog ((laidWorld os).forCall (fun _ _ => 0) ⟨#[], #[.int .i64 0, .int .i64 0, .int .i64 0], []⟩).memory Tryd.f7.params.toList Rows.deltaSteadySpec.vars false (#[.int .i64 0, .int .i64 0, .int .i64 0] : Array Value).toList 8 = some ([.lit (.int .i64 0), .lit (.int .i64 0), .lit (.int .i64 0)], [], places) := ⟨[], by kernel_rfl⟩
set_option maxRecDepth 100000 in
theorem lifted_DeltaSteady (os : Os) (started : os.Started) (H : Type) (enc : TypeId × Value → H) (F : Stop.Interp) :
    ReturnsInHanded {} Tryd.checked os 7 .any ((OpenSpec.ofChange Rows.deltaSteadySpec).preRow enc Tryd.prog Tryd.f7 Rows.deltaSteadyRow.domain false Rows.deltaSteadyRow.laid) (((OpenSpec.ofChange Rows.deltaSteadySpec).at F).post enc Tryd.prog Tryd.f7 false true false false) := by
  obtain ⟨places, hx⟩ := reads_DeltaSteady os enc
  refine returnsInHanded_of_row (C := Tryd.checked) (s := (OpenSpec.ofChange Rows.deltaSteadySpec)) own started (by kernel_rfl) Tryd.func7
    (witness_row_at (enc := enc) (C := Tryd.checked) false (laidWorld os) #[.int .i64 0, .int .i64 0, .int .i64 0] rfl (by kernel_rfl) (by kernel_rfl) (by kernel_rfl)
      (OpenSpec.preRow_of_cond 8 hx (by kernel_rfl) (fun k hk => by cases hk) (by kernel_rfl) (laid_met_DeltaSteady os))) ?_
  intro W base args ds gs before hval0 hW hcnd hk00 hsz0 hL _ _
  have hLd := laid_of hL
  have hsz : (DataW.weightsEach Tryd.prog (Tryd.f7.params.toList ++ Rows.deltaSteadySpec.plain.varTypes Tryd.prog) (ds ++ gs)).all (· ≤ reachBytes) = true := hsz0
  have hval : ∀ (j : Nat) t v, Tryd.f7.params[j]? = some t → args[j]? = some v → Value.okWide Tryd.prog W .any base t v := hval0
  have hW' := hW
  obtain ⟨p, q, hA0, hV, rfl, hfz, hnd⟩ := hW
  have hA : DataW.TrodAll enc Tryd.prog W 0 (fun _ => true) true Tryd.f7.params.toList args.toList ds p := hA0
  rw [Tryd.params7] at hA hval hsz
  obtain ⟨v0, vs0, d0, ds0, p0, q0, hargs, rfl, rfl, h0, r0⟩ := trodAll_cons hA
  obtain ⟨v1, vs1, d1, ds1, p1, q1, rfl, rfl, rfl, h1, r1⟩ := trodAll_cons r0
  obtain ⟨v2, vs2, d2, ds2, p2, q2, rfl, rfl, rfl, h2, r2⟩ := trodAll_cons r1
  obtain ⟨rfl, rfl, rfl⟩ := trodAll_nil r2
  obtain rfl : args = #[v0, v1, v2] := by cases args; simp_all
  obtain ⟨rfl, rfl⟩ := trodVars_none hV
  have k0 := h0
  have lt0 : ∀ x ∈ p0, x.block < W.heap.size := by obtain ⟨m, hm⟩ := k0; exact DataW.trod_lt m _ _ _ hm
  obtain ⟨a0, rfl, rfl, rfl, w0⟩ := open_int Tryd.underlying2 (hval 0 2 v0 rfl rfl) h0
  have b0 := bounds_i64 w0
  have k1 := h1
  have lt1 : ∀ x ∈ p1, x.block < W.heap.size := by obtain ⟨m, hm⟩ := k1; exact DataW.trod_lt m _ _ _ hm
  obtain ⟨a1, rfl, rfl, rfl, w1⟩ := open_int Tryd.underlying2 (hval 1 2 v1 rfl rfl) h1
  have b1 := bounds_i64 w1
  have k2 := h2
  have lt2 : ∀ x ∈ p2, x.block < W.heap.size := by obtain ⟨m, hm⟩ := k2; exact DataW.trod_lt m _ _ _ hm
  obtain ⟨a2, rfl, rfl, rfl, w2⟩ := open_int Tryd.underlying3 (hval 2 3 v2 rfl rfl) h2
  have b2 := bounds_i64 w2
  clear hA0 hval0
  refine (walk_DeltaSteady a0 a1 a2 W b0.1 b0.2 b1.1 b1.2 b2.1 b2.2 hLd).mono fun e W' ⟨he, bel⟩ => ?_
  subst he
  exact ⟨_, rfl, _, _, _, [], _, [], hW', trodAll_mk1 (shut_bool Tryd.underlying4 _), (trodAll_cons_mk (Below.trod laidOut (by kernel_rfl) (of_decide_eq_true (by kernel_rfl)) k0 bel lt0) (trodAll_cons_mk (Below.trod laidOut (by kernel_rfl) (of_decide_eq_true (by kernel_rfl)) k1 bel lt1) (trodAll_cons_mk (Below.trod laidOut (by kernel_rfl) (of_decide_eq_true (by kernel_rfl)) k2 bel lt2) trodAll_mk0))), rfl, bel.frame _, fun h => by cases h⟩

theorem said_DeltaSteady : Rows.DeltaSteadySaid :=
  OpenClaim.holds_of_cond 7 Tryd.f7 rfl rfl rfl rfl rfl rfl rfl ⟨rfl, rfl, rfl, rfl, rfl⟩ rfl rfl rfl rfl rfl (by kernel_rfl) Tryd.func7 (by kernel_rfl)
    (of_decide_eq_true (by kernel_rfl)) (by unfold Func.isWrapper; first | (rw [if_pos (by decide +kernel)]; kernel_rfl) | (rw [if_neg (by decide +kernel)]; exact ⟨rfl, rfl⟩))
    (fun os started H enc _ F => by rw [OpenClaim.pre_eq_preRow]; exact lifted_DeltaSteady os started H enc F)
theorem plain_DeltaSteady (f : FuncId) (fn : Func) (hf : Tryd.pinned.checked.prog.funcNamed "gaugehouse/gaugehousekeep.DeltaSteady" = some f) (hfn : Tryd.pinned.checked.prog.funcs[f]? = some fn) :
    false = Tryd.pinned.checked.prog.looks [] ∧ ∀ (j : Nat) t, fn.params[j]? = some t → Tryd.pinned.checked.prog.wantsStandIn t = false := by
  obtain rfl : f = 7 := Option.some.inj ((show Tryd.prog.funcNamed "gaugehouse/gaugehousekeep.DeltaSteady" = some 7 by kernel_rfl).symm.trans hf) |>.symm
  obtain rfl : fn = Tryd.f7 := (Option.some.inj (Tryd.func7.symm.trans hfn)).symm
  refine ⟨by kernel_rfl, fun j t ht => ?_⟩
  rw [Tryd.params7] at ht
  have hm : t ∈ [2, 2, 3] := by simpa using Array.mem_of_getElem? ht
  have hall : ([2, 2, 3].all fun u => !Tryd.prog.wantsStandIn u) = true := by kernel_rfl
  exact (show Tryd.prog.wantsStandIn t = false by simpa using List.all_eq_true.1 hall t hm)
theorem proved_DeltaSteady : Rows.DeltaSteadyCardSaid :=
  Claim7.holds_tied_plain_at .later [] _ _ _ _ said_DeltaSteady (fun _ h => by cases h) (by kernel_rfl) (fun _ h => by cases h) deltaSteady_row_tie rfl ⟨rfl, rfl⟩ (by kernel_rfl) rfl plain_DeltaSteady (by kernel_rfl)
#print axioms proved_DeltaSteady
end Go.Proofs.YtlejpbghakaooaaDoor
