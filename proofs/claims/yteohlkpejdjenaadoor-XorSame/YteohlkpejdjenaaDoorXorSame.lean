/- XorSame holds: at all measures and numbers the law answers true. -/
import Derived.Test.YteohlkpejdjenaaDoorXunp
import Derived.Deep.RegionLaw
namespace Go.Proofs.YteohlkpejdjenaaDoor
open Go.ChangeShapes Go.WideShapes Go.ChangeAt Go.RowKit
set_option linter.unusedVariables false
set_option linter.unusedSimpArgs false
namespace P
theorem rep_at (v : Int) (n j : Nat) (h : j < n) : (List.replicate n v).getD j 0 = v := by
  simp [List.getD_eq_getElem?_getD, h]
theorem tn_rep (v : Int) (n j : Nat) (h : j < n) : tn (List.replicate n v) j = 0 := by
  unfold tn; rw [rep_at v n j h, rep_at v n (j - 1) (by omega), Nat.xor_self]
theorem front_rep (v : Int) (n m : Nat) : ∀ j, 1 ≤ j → j ≤ n → (front (List.replicate n v) m j).length = 80 + j - 1
  | 0, h, _ => by omega
  | 1, _, _ => by
    rw [front_succ, front_zero, List.length_append, ofVal_len]
    unfold tb; rw [if_pos rfl, ofVal_len]
  | j + 2, _, h => by
    have ih := front_rep v n m (j + 1) (by omega) (by omega)
    rw [front_succ, List.length_append, ih]
    have e : (tb (List.replicate n v) (j + 1)).length = 1 := by
      unfold tb tbits
      rw [if_neg (by omega), tn_rep v n (j + 1) (by omega), if_pos rfl, ofVal_len]
    omega
theorem packT_rep (v : Int) (n : Nat) (h : 1 ≤ n) : (packT (List.replicate n v)).length = 80 + n - 1 := by
  unfold packT; rw [List.length_replicate]; exact front_rep v n n n h (Nat.le_refl _)
end P
theorem mul64_one (n : Nat) (w : World) (hn : n ≤ 100) : Calls Tryd.prog 46 #[.int .u64 1, .int .u64 n] w fun e w' => e = .returned (.tuple #[.int .u64 0, .int .u64 n]) ∧ w' = w := by
  have hm : bits BinOp.and IntKind.u64 (n : Int) 4294967295 = (n : Int) := by
    have := bits_mask .u64 64 (by decide) (fun n a b => by rw [IntKind.wrap_u64]; omega) 32 (by decide) (n : Int) (by omega) (by omega)
    simp at this
    rw [this]; omega
  have hm1 : bits BinOp.and IntKind.u64 1 4294967295 = 1 := by decide
  have hm0 : bits BinOp.and IntKind.u64 0 4294967295 = 0 := by decide
  have hd : (n : Int) / 4294967296 = 0 := by omega
  go_enter Tryd.func46, Tryd.ntmps46
  go_wp2
  go_ret2
  exact ⟨rfl, rfl⟩
theorem mul_one (n : Nat) (w : World) (hn : n ≤ 100) : Calls Tryd.prog 35 #[.int .u64 1, .int .u64 n] w fun e w' => e = .returned (.tuple #[.int .u64 0, .int .u64 n]) ∧ w' = w := by
  have HC := hide (fun w => mul64_one n w hn)
  go_enter Tryd.func35, Tryd.ntmps35
  go_wp2_with (go_at_call 46; refine (HC.out _).mono ?_; rintro e w' ⟨rfl, rfl⟩)
  go_ret2
  exact ⟨rfl, rfl⟩
/-- A block that holds just these measures. -/
def BlkU (w : World) (g : Nat) (l : List Int) : Prop := w.heap[g]? = some (.cells (l.map (Value.int .u64)).toArray 40 (0, 0))
theorem BlkU.cell {w : World} {g : Nat} {l : List Int} (h : BlkU w g l) {j : Nat} (hj : j < l.length) : w.cell? ⟨g, j, none⟩ = some (.int .u64 (l.getD j 0)) := by
  unfold BlkU at h
  simp [World.cell?, h, List.getElem?_eq_getElem hj, List.getD_eq_getElem?_getD]
theorem BlkU.own {w : World} {g base : Nat} {l : List Int} (h : BlkU w g l) (hb : base ≤ g) (hl : l.length ≤ maxLen) : OwnK 40 .u64 w base (.slice (some ⟨g, 0, none⟩) l.length l.length) l :=
  ⟨by simp, .inr ⟨g, l.length, _, rfl, hb, h, Nat.le_refl _, hl, by simp, List.take_of_length_le (by simp)⟩⟩
theorem madeCells_zeroU (T : Nat) : madeCells #[.int .u64 0] T = ((List.replicate T (0 : Int)).map (Value.int .u64)).toArray := by
  unfold madeCells
  apply Array.ext
  · simp
  · intro i h1 h2; simp [Nat.mod_one]
/-- 'copy(d, s)' of one measure to the front of a block of the call's own. -/
theorem run_copy1 (w : World) (g n : Nat) (v : Int) (vx : Value) (ty : TypeId) (hn : 1 ≤ n) (hg : BlkU w g (List.replicate n 0)) (hr : RowK .u64 w vx [v]) :
    ∃ w', (Builtin.copy_ #[22, 22] ty #[.slice (some ⟨g, 0, none⟩) n n, vx]).run Tryd.prog w = .ok (.int .i64 1) w' ∧ BlkU w' g (List.replicate 1 v ++ List.replicate (n - 1) 0) ∧ Only g w w' := by
  obtain ⟨ao, cap, rfl, ⟨hlc, hcm, hnn⟩, hcase⟩ := hr
  have hsz : (Tryd.prog.info? 40).map (·.size) = some 1 := by kernel_rfl
  rcases hcase with h0 | ⟨b, off, rfl, hbs, hcell⟩
  · cases h0
  · have h := run_copy_row (P := Tryd.prog) w 22 22 ty 40 g 0 n n ⟨b, off, none⟩ 1 cap _ _ [Value.int .u64 v] Tryd.underlying22 hsz hg (by simp [Nat.min_def]; omega) (by
      intro j u hj
      have hc := hcell 0 (by simp)
      match j, hj with
      | 0, hj => simp at hj; subst hj; simpa [Addr.add] using hc) (by simp; omega) (by
      intro u hu; simp at hu; subst hu; rfl)
    refine ⟨_, h, ?_, ⟨rfl, rfl, rfl, by simp, fun k hk => setRow_other w g k _ hk⟩⟩
    unfold BlkU
    rw [setRow_heap w g _ _ _ _ hg]
    simp

/-- 'copy(s[k:], s[:k])' within a block of the call's own. -/
theorem run_copy2 (w : World) (g n k : Nat) (v : Int) (ty : TypeId) (hk : k < n) (hg : BlkU w g (List.replicate k v ++ List.replicate (n - k) 0)) :
    ∃ w' m, 1 ≤ m + (1 - k) ∧ k + m ≤ n ∧ (Builtin.copy_ #[22, 22] ty #[.slice (some ⟨g, k, none⟩) (n - k) (n - k), .slice (some ⟨g, 0, none⟩) k n]).run Tryd.prog w = .ok (.int .i64 (m : Nat)) w' ∧ BlkU w' g (List.replicate (k + m) v ++ List.replicate (n - (k + m)) 0) ∧ Only g w w' := by
  have hsz : (Tryd.prog.info? 40).map (·.size) = some 1 := by kernel_rfl
  have hm1 : Nat.min k (n - k) ≤ k := Nat.min_le_left _ _
  have hm2 : Nat.min k (n - k) ≤ n - k := Nat.min_le_right _ _
  have hm3 : 1 ≤ Nat.min k (n - k) + (1 - k) := by
    rcases Nat.eq_zero_or_pos k with h | h
    · omega
    · have : 1 ≤ Nat.min k (n - k) := Nat.le_min.2 ⟨h, by omega⟩
      omega
  have h := run_copy_row (P := Tryd.prog) w 22 22 ty 40 g k (n - k) (n - k) ⟨g, 0, none⟩ k n _ _ ((List.replicate (Nat.min k (n - k)) v).map (Value.int .u64)) Tryd.underlying22 hsz hg (by simp) (by
    intro j u hj
    have hjm : j < Nat.min k (n - k) := by
      rcases Nat.lt_or_ge j (Nat.min k (n - k)) with h | h
      · exact h
      · rw [List.getElem?_eq_none (by simpa using h)] at hj; cases hj
    have hjk : j < k := by omega
    have ea : (Addr.add ⟨g, 0, none⟩ j) = ⟨g, j, none⟩ := by
      unfold Addr.add; split
      · rename_i h; subst h; rfl
      · simp
    have hc := hg.cell (j := j) (by simp; omega)
    rw [ea, hc]
    simp [hjm] at hj
    subst hj
    rw [List.getD_eq_getElem?_getD, List.getElem?_append_left (by simpa using hjk)]
    simp [hjk]) (by simp; omega) (by
    intro u hu; obtain ⟨z, _, rfl⟩ := List.mem_map.1 hu; rfl)
  generalize Nat.min k (n - k) = m at h hm1 hm2 hm3
  rw [List.length_map, List.length_replicate] at h
  refine ⟨_, m, hm3, by omega, h, ?_, ⟨rfl, rfl, rfl, by simp, fun k hk => setRow_other w g k _ hk⟩⟩
  unfold BlkU
  rw [setRow_heap w g _ _ _ _ hg]
  congr 2
  apply congrArg
  rw [List.toList_toArray, List.map_append, List.map_append, List.map_replicate, List.map_replicate, List.map_replicate, List.map_replicate]
  rw [List.take_append_of_le_length (by simp), List.take_of_length_le (by simp), List.replicate_append_replicate]
  congr 1
  rw [List.drop_append, List.drop_of_length_le (by simp), List.nil_append, List.length_replicate, Nat.add_sub_cancel_left, List.drop_replicate, List.map_replicate, Nat.sub_sub]

set_option maxHeartbeats 2000000 in
theorem repeat_any (v : Int) (n : Nat) (vx : Value) (w : World) (hr : RowK .u64 w vx [v]) (h1 : 1 ≤ n) (h2 : n ≤ 100) :
    Calls Tryd.prog 21 #[vx, .int .i64 n] w fun e w' => ∃ a : Option Addr, e = .returned (.slice a n n) ∧ OwnK 40 .u64 w' w.heap.size (.slice a n n) (List.replicate n v) ∧ Below w.heap.size w w' := by
  have HM := hide (fun w => mul_one n w h2)
  have hmk := fun w => run_make_row' (P := Tryd.prog) 22 40 (.int .u64 0) 8 Tryd.underlying22 Tryd.info40 rfl .i64 .i64 n (by omega) (by omega) w
  have hba := (Below.refl w.heap.size w).alloc (Nat.le_refl _) (.cells (madeCells #[.int .u64 0] n) 40)
  have hr1 := hr.below hba (Nat.le_refl _)
  have hblk : BlkU (w.alloc (.cells (madeCells #[.int .u64 0] n) 40)) w.heap.size (List.replicate n 0) := by
    unfold BlkU; rw [← madeCells_zeroU]; exact heap_alloc_new w _
  obtain ⟨w3, hcopy, hk3, ho3⟩ := run_copy1 _ w.heap.size n v vx 3 h1 hblk hr1
  have hb3 : Below w.heap.size w w3 := hba.trans (ho3.below (Nat.le_refl _))
  have hsz3 : w.heap.size < w3.heap.size := hk3 |> fun h => (Array.getElem?_eq_some_iff.1 h).1
  obtain ⟨ax, cx, rfl, -, -⟩ := hr
  replace hcopy : (Builtin.copy_ #[22, 22] 3 #[.slice (some ⟨w.heap.size, 0, none⟩) n n, .slice ax 1 cx]).run Tryd.prog (w.alloc (.cells (madeCells #[.int .u64 0] n) 40)) = .ok (.int .i64 1) w3 := hcopy
  clear hblk hr1 hba ho3
  go_enter Tryd.func21, Tryd.ntmps21
  go_wp2_with (go_at_call 35; go_must (refine (HM.out _).mono ?_); rintro e w' ⟨rfl, rfl⟩)
  clear hmk hcopy HM
  go_loopw [8] (fun i wr => ∃ k : Nat, 1 ≤ k ∧ k ≤ n ∧ i = .int .i64 k ∧ BlkU wr w'.heap.size (List.replicate k v ++ List.replicate (n - k) 0) ∧ Below w'.heap.size w' wr) (fun i _ => n - (intOf i).toNat)
  case atStart => exact ⟨1, by omega, h1, rfl, hk3, hb3⟩
  case round =>
    clear hk3 hb3 hsz3
    obtain ⟨k, hk1, hkn, rfl, hblk, hb⟩ := hrel
    by_cases hlt : k < n
    · have k1 : (k : Int) < (n : Int) := by omega
      have k2 : (k : Int) ≤ (n : Int) := by omega
      obtain ⟨w4, m, hm0, hmn, hcopy, hblk4, ho4⟩ := run_copy2 wr.drew w'.heap.size n k v 3 hlt hblk
      have hb4 : Below w'.heap.size w' w4 := hb.drew.trans (ho4.below (Nat.le_refl _))
      have hm1 : 1 ≤ m := by omega
      have hnk : ¬ n = k := by omega
      have hwr : IntKind.i64.wrap ((k : Int) + (m : Int)) = ((k + m : Nat) : Int) := by rw [IntKind.wrap_i64]; omega
      clear hb ho4
      go_wp2
      go_region
      all_goals go_wp2
      all_goals
        go_roundw
        case rel => exact ⟨k + m, by omega, by omega, by go_num, hblk4, hb4⟩
        case measure => simp [intOf]; omega
    · obtain rfl : k = n := by omega
      have hd : decide ((k : Int) < (k : Int)) = false := by simp
      go_wp2
      go_ret
      refine ⟨_, rfl, ?_, hb⟩
      rw [Nat.sub_self, List.replicate_zero, List.append_nil] at hblk
      have ho := hblk.own (Nat.le_refl _) (by rw [List.length_replicate]; unfold maxLen; omega)
      rw [List.length_replicate] at ho
      exact ho
theorem row_one (w : World) (v : Int) : RowK .u64 (w.alloc (.cells #[.int .u64 v] 40)) (.slice (some ⟨w.heap.size, 0, none⟩) 1 1) [v] := by
  refine ⟨_, 1, rfl, ⟨by simp, by decide, fun h => by cases h⟩, .inr ⟨w.heap.size, 0, rfl, by simp, fun j hj => ?_⟩⟩
  match j, hj with
  | 0, _ => simp
theorem same_out (v n : Int) (w : World) (hs : Tab w) (h : n < 1 ∨ 100 < n) :
    Calls Tryd.prog 7 #[.int .u64 v, .int .i64 n] w fun e w' => e = .returned (.bool true) ∧ Below w.heap.size w w' := by
  by_cases h2 : n < 1
  · have hd : decide (n < 1) = true := by simp; omega
    go_enter Tryd.func7, Tryd.ntmps7
    go_wp2_with (go_at_call 18; go_must (refine (xors_any _ hs).mono ?_); rintro e w1 ⟨rfl, hb1⟩)
    go_ret
    exact ⟨rfl, hb1⟩
  · have hd : decide (n < 1) = false := by simp; omega
    have hd2 : decide (100 < n) = true := by simp; omega
    go_enter Tryd.func7, Tryd.ntmps7
    go_wp2_with (go_at_call 18; go_must (refine (xors_any _ hs).mono ?_); rintro e w1 ⟨rfl, hb1⟩)
    go_ret
    exact ⟨rfl, hb1⟩
theorem same_in (v : Int) (n : Nat) (w : World) (hs : Tab w) (v0 : 0 ≤ v) (v1 : v ≤ 18446744073709551615) (h1 : 1 ≤ n) (h2 : n ≤ 100) :
    Calls Tryd.prog 7 #[.int .u64 v, .int .i64 n] w fun e w' => e = .returned (.bool true) ∧ Below w.heap.size w w' := by
  have hd1 : decide ((n : Int) < 1) = false := by simp; omega
  have hd2 : decide (100 < (n : Int)) = false := by simp; omega
  have hu : P.U64 (List.replicate n v) := fun x hx => by
    obtain ⟨_, rfl⟩ := List.mem_replicate.1 hx; exact ⟨v0, v1⟩
  have HR := hide (fun (w : World) (vx : Value) (hr : RowK .u64 w vx [v]) => repeat_any v n vx w hr h1 h2)
  have hlen := P.packT_rep v n h1
  have HP : Hid (∀ (vx : Value) (w : World), RowK .u64 w vx (List.replicate n v) → Tab w → Calls Tryd.prog 9 #[vx] w fun e w' =>
      ∃ vy, e = .returned (.tuple #[.agg #[vy, .int .i64 (80 + (n : Int) - 1)], .int .i64 0]) ∧ OwnB w' w.heap.size vy (P.pack (P.packT (List.replicate n v))) ∧ Below w.heap.size w w') := by
    intro vx w hr ht
    have h := pack_any vx _ w hr hu (by simp; omega) ht
    have e : ((P.packT (List.replicate n v)).length : Int) = 80 + (n : Int) - 1 := by omega
    rw [e] at h
    exact h
  have hq : (80 + (n : Int) - 1 == 80 + (n : Int) - 1) = true := by simp
  generalize P.packT (List.replicate n v) = bs at HP hlen
  clear hlen
  go_enter Tryd.func7, Tryd.ntmps7
  go_wp2_with (first
    | (go_at_call 18; go_must (refine (xors_any _ hs).mono ?_); rintro e w1 ⟨rfl, hb1⟩)
    | (go_at_call 21; go_must (refine (HR.out _ _ (row_one _ _)).mono ?_); rintro e w3 ⟨ax, rfl, hown, hb3⟩; have hb4 := Below.next (below_alloc hb1 _) hb3; have hs4 := hs.next hb4)
    | (go_at_call 9; go_must (refine (HP.out _ _ hown.row hs4).mono ?_); rintro e w5 ⟨vy, rfl, hoy, hb5⟩; obtain ⟨ay, capy, hvy⟩ := hoy.shp; rw [hvy] at hoy ⊢; clear hvy; have hb6 := Below.next hb4 hb5))
  go_ret
  exact ⟨rfl, below_alloc hb6 _⟩
theorem walk_XorSame (v n : Int) (w : World) (v0 : 0 ≤ v) (v1 : v ≤ 18446744073709551615) (n0 : -9223372036854775808 ≤ n) (n1 : n ≤ 9223372036854775807) (hs : Tab w) :
    Calls Tryd.prog 7 #[.int .u64 v, .int .i64 n] w fun e w' => e = .returned (.bool true) ∧ Below w.heap.size w w' := by
  by_cases h : n < 1 ∨ 100 < n
  · exact same_out v n w hs h
  · obtain ⟨k, rfl⟩ := Int.eq_ofNat_of_zero_le (show 0 ≤ n by omega)
    exact same_in v k w hs v0 v1 (by omega) (by omega)

theorem laid_met_XorSame (os : Os) : laidMet Tryd.prog Rows.xorSameRow.laid ((laidWorld os).forCall (fun _ _ => 0) ⟨#[], #[.int .u64 0, .int .i64 0], []⟩).memory := laidMet_of_run' 8 (by kernel_rfl) (by kernel_rfl)
theorem reads_XorSame (os : Os) {H : Type} (enc : TypeId × Value → H) : ∃ places, DataW.whole enc Tryd.prog ((laidWorld os).forCall (fun _ _ => 0) ⟨#[], #[.int .u64 0, .int .i64 0], []⟩).memory Tryd.f7.params.toList Rows.xorSameSpec.vars false (#[.int .u64 0, .int .i64 0] : Array Value).toList 8 = some ([.lit (.int .u64 0), .lit (.int .i64 0)], [], places) := ⟨[], by kernel_rfl⟩
set_option maxRecDepth 100000 in
theorem lifted_XorSame (os : Os) (started : os.Started) (H : Type) (enc : TypeId × Value → H) (F : Stop.Interp) :
    ReturnsInHanded {} Tryd.checked os 7 .any ((OpenSpec.ofChange Rows.xorSameSpec).preRow enc Tryd.prog Tryd.f7 Rows.xorSameRow.domain false Rows.xorSameRow.laid) (((OpenSpec.ofChange Rows.xorSameSpec).at F).post enc Tryd.prog Tryd.f7 false true false false) := by
  obtain ⟨places, hx⟩ := reads_XorSame os enc
  refine returnsInHanded_of_row (C := Tryd.checked) (s := (OpenSpec.ofChange Rows.xorSameSpec)) own started (by kernel_rfl) Tryd.func7
    (witness_row_at (enc := enc) (C := Tryd.checked) false (laidWorld os) #[.int .u64 0, .int .i64 0] rfl (by kernel_rfl) (by kernel_rfl) (by kernel_rfl)
      (OpenSpec.preRow_of_cond 8 hx (by kernel_rfl) (fun k hk => by cases hk) (by kernel_rfl) (laid_met_XorSame os))) ?_
  intro W base args ds gs before hval0 hW hcnd hk00 hsz0 hL _ _
  have hLd := laid_of hL
  have hsz : (DataW.weightsEach Tryd.prog (Tryd.f7.params.toList ++ Rows.xorSameSpec.plain.varTypes Tryd.prog) (ds ++ gs)).all (· ≤ reachBytes) = true := hsz0
  have hval : ∀ (j : Nat) t v, Tryd.f7.params[j]? = some t → args[j]? = some v → Value.okWide Tryd.prog W .any base t v := hval0
  have hW' := hW
  obtain ⟨p, q, hA0, hV, rfl, hfz, hnd⟩ := hW
  have hA : DataW.TrodAll enc Tryd.prog W 0 (fun _ => true) true Tryd.f7.params.toList args.toList ds p := hA0
  rw [Tryd.params7] at hA hval hsz
  obtain ⟨v0, vs0, d0, ds0, p0, q0, hargs, rfl, rfl, h0, r0⟩ := trodAll_cons hA
  obtain ⟨v1, vs1, d1, ds1, p1, q1, rfl, rfl, rfl, h1, r1⟩ := trodAll_cons r0
  obtain ⟨rfl, rfl, rfl⟩ := trodAll_nil r1
  obtain rfl : args = #[v0, v1] := by cases args; simp_all
  obtain ⟨rfl, rfl⟩ := trodVars_none hV
  have k0 := h0
  have lt0 : ∀ x ∈ p0, x.block < W.heap.size := by obtain ⟨m, hm⟩ := k0; exact DataW.trod_lt m _ _ _ hm
  obtain ⟨a0, rfl, rfl, rfl, w0⟩ := open_int Tryd.underlying40 (hval 0 40 v0 rfl rfl) h0
  have b0 := bounds_u64 w0
  have k1 := h1
  have lt1 : ∀ x ∈ p1, x.block < W.heap.size := by obtain ⟨m, hm⟩ := k1; exact DataW.trod_lt m _ _ _ hm
  obtain ⟨a1, rfl, rfl, rfl, w1⟩ := open_int Tryd.underlying3 (hval 1 3 v1 rfl rfl) h1
  have b1 := bounds_i64 w1
  clear hA0 hval0
  refine (walk_XorSame a0 a1 W b0.1 b0.2 b1.1 b1.2 hLd).mono fun e W' ⟨he, bel⟩ => ?_
  subst he
  exact ⟨_, rfl, _, _, _, [], _, [], hW', trodAll_mk1 (shut_bool Tryd.underlying4 _), (trodAll_cons_mk (Below.trod laidOut (by kernel_rfl) (of_decide_eq_true (by kernel_rfl)) k0 bel lt0) (trodAll_cons_mk (Below.trod laidOut (by kernel_rfl) (of_decide_eq_true (by kernel_rfl)) k1 bel lt1) trodAll_mk0)), rfl, bel.frame _, fun h => by cases h⟩

theorem said_XorSame : Rows.XorSameSaid :=
  OpenClaim.holds_of_cond 7 Tryd.f7 rfl rfl rfl rfl rfl rfl rfl ⟨rfl, rfl, rfl, rfl, rfl⟩ rfl rfl rfl rfl rfl (by kernel_rfl) Tryd.func7 (by kernel_rfl)
    (of_decide_eq_true (by kernel_rfl)) (by unfold Func.isWrapper; first | (rw [if_pos (by decide +kernel)]; kernel_rfl) | (rw [if_neg (by decide +kernel)]; exact ⟨rfl, rfl⟩))
    (fun os started H enc _ F => by rw [OpenClaim.pre_eq_preRow]; exact lifted_XorSame os started H enc F)
theorem plain_XorSame (f : FuncId) (fn : Func) (hf : Tryd.pinned.checked.prog.funcNamed "gaugehouse/gaugehousekeep.XorSame" = some f) (hfn : Tryd.pinned.checked.prog.funcs[f]? = some fn) :
    false = Tryd.pinned.checked.prog.looks [] ∧ ∀ (j : Nat) t, fn.params[j]? = some t → Tryd.pinned.checked.prog.wantsStandIn t = false := by
  obtain rfl : f = 7 := Option.some.inj ((show Tryd.prog.funcNamed "gaugehouse/gaugehousekeep.XorSame" = some 7 by kernel_rfl).symm.trans hf) |>.symm
  obtain rfl : fn = Tryd.f7 := (Option.some.inj (Tryd.func7.symm.trans hfn)).symm
  refine ⟨by kernel_rfl, fun j t ht => ?_⟩
  rw [Tryd.params7] at ht
  have hm : t ∈ [40, 3] := by simpa using Array.mem_of_getElem? ht
  have hall : ([40, 3].all fun u => !Tryd.prog.wantsStandIn u) = true := by kernel_rfl
  exact (show Tryd.prog.wantsStandIn t = false by simpa using List.all_eq_true.1 hall t hm)
theorem proved_XorSame : Rows.XorSameCardSaid :=
  Claim7.holds_tied_plain_at .later [] _ _ _ _ said_XorSame (fun _ h => by cases h) (by kernel_rfl) (fun _ h => by cases h) xorSame_row_tie rfl ⟨rfl, rfl⟩ (by kernel_rfl) rfl plain_XorSame (by kernel_rfl)
#print axioms proved_XorSame
end Go.Proofs.YteohlkpejdjenaaDoor
