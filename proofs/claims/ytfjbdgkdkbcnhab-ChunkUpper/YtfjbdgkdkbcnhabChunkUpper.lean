/- ChunkUpper holds: at all samples the law answers true and changes nothing that was there. -/
import Derived.Test.YtfjbdgkdkbcnhabClive
import Derived.Test.YtfjbdgkdkbcnhabChunkM
namespace Go.Proofs.Ytfjbdgkdkbcnhab
open Go.ChangeShapes Go.WideShapes Go.ChangeAt Go.RowKit
set_option linter.unusedVariables false
theorem upper_bad (va vb : Value) (a b : List (Int × Int)) (w : World) (ha : RowS w va a) (hb : RowS w vb b) (he : P.merr a b ≠ 0) :
    Calls Try.prog 3 #[va, vb] w fun e w' => e = .returned (.bool true) ∧ Below w.heap.size w w' := by
  have HM := hide (fun (w' : World) (h : Below w.heap.size w w') => merge_bad va vb a b w' (ha.below h (Nat.le_refl _)) (hb.below h (Nat.le_refl _)) he)
  have ht : (P.merr a b != 0) = true := by simpa using he
  obtain ⟨xa, ca, rfl⟩ := ha.shp
  obtain ⟨xb, cb, rfl⟩ := hb.shp
  clear ha hb he
  generalize P.merr a b = c at *
  go_enter Try.func3, Try.ntmps3
  go_wp2_with (first
    | (go_at_call 5; go_must (refine (chunks_any _).mono ?_); rintro e w1 ⟨rfl, hb⟩)
    | (go_at_call 6; go_must (refine (HM.out _ hb).mono ?_); rintro e w2 ⟨rfl, hb2⟩; replace hb := Below.next hb hb2; clear hb2))
  go_ret
  exact ⟨rfl, hb⟩
namespace P
theorem omx_left {x : Int} (y : Option Int) : ∃ v, omx (some x) y = some v ∧ x ≤ v := by
  cases y with
  | none => exact ⟨x, rfl, Int.le_refl _⟩
  | some y => exact ⟨max x y, rfl, by omega⟩
theorem mrg_up {a b : List (Int × Int)} (ha : Ris a) (hb : Ris b) {s : Int × Int} (h : s ∈ a ∨ s ∈ b) : ∃ v, look (mrg a b) s.1 = some v ∧ s.2 ≤ v := by
  rw [look_mrg _ _ _ ha hb]
  rcases h with h | h
  · rw [mem_look ha h]; exact omx_left _
  · rw [mem_look hb h, omx_comm]; exact omx_left _
theorem btw_up {m : List (Int × Int)} (hm : Ris m) {t v : Int} (h : look m t = some v) : btw m t (t + 1) = [(t, v)] := by rw [btw_one hm, h]
end P
set_option maxHeartbeats 4000000 in
theorem upper_ok (va vb : Value) (a b : List (Int × Int)) (w : World) (ha : RowS w va a) (hb : RowS w vb b) (hia : P.I64s a) (hib : P.I64s b) (he : P.merr a b = 0) :
    Calls Try.prog 3 #[va, vb] w fun e w' => e = .returned (.bool true) ∧ Below w.heap.size w w' := by
  have HM := hide (fun (w' : World) (h : Below w.heap.size w w') => merge_ok va vb a b w' (ha.below h (Nat.le_refl _)) (hb.below h (Nat.le_refl _)) he)
  have HCm := P.mrg_chk he
  obtain ⟨h1, h2, hl⟩ := P.merr_zero he
  have hll := P.mrg_length a b
  have hla := (P.chk_zero h1).1
  have hlb := (P.chk_zero h2).1
  have HUp := hide (fun (s : Int × Int) (h : s ∈ a ∨ s ∈ b) => P.mrg_up (P.chk_zero h1).2 (P.chk_zero h2).2 h)
  have HRm := hide (P.mrg_ris a b (P.chk_zero h1).2 (P.chk_zero h2).2)
  have HRg := hide (fun (v : Value) (f t : Int) (w : World) (hr : RowS w v (P.mrg a b)) => range_ok v (P.mrg a b) f t w hr HCm)
  have HCk := hide (fun (v : Value) (w : World) (hr : RowS w v (P.mrg a b)) => check_any v (P.mrg a b) w hr)
  rw [HCm] at HCk
  have HL : Hid (∀ k : Nat, k < 2 → ∃ vl L, (k = 0 → vl = va) ∧ (1 ≤ k → vl = vb) ∧ RowS w vl L ∧ P.I64s L ∧ ∀ s ∈ L, s ∈ a ∨ s ∈ b) := by
    intro k hk
    by_cases h : k = 0
    · exact ⟨va, a, fun _ => rfl, fun h1 => by omega, ha, hia, fun s hs => .inl hs⟩
    · exact ⟨vb, b, fun h1 => absurd h1 h, fun _ => rfl, hb, hib, fun s hs => .inr hs⟩
  obtain ⟨xa, ca, hva⟩ := ha.shp
  obtain ⟨xb, cb, hvb⟩ := hb.shp
  rw [hva, hvb] at HL HM ⊢
  clear ha hb h1 h2 he hia hib hva hvb HCm
  generalize P.mrg a b = m at *
  go_enter Try.func3, Try.ntmps3
  go_wp2_with (go_at_call 5; go_must (refine (chunks_any _).mono ?_); rintro e w1 ⟨rfl, hb⟩)
  refine (HM.out _ hb).mono ?_
  rintro e w2 ⟨vm, rfl, hown, hb2⟩
  obtain ⟨xm, cm, hvm⟩ := hown.shp
  rw [hvm] at hown ⊢
  replace hown := hown.base hb.size
  replace hb := Below.next hb hb2
  clear hvm hb2 HM
  go_wp2
  obtain ⟨W0, hW⟩ : ∃ W0, w2.alloc (.cells #[.slice xa a.length ca, .slice xb b.length cb] 22) = W0 := ⟨_, rfl⟩
  have c0 : W0.cell? ⟨w2.heap.size, 0, none⟩ = some (.slice xa a.length ca) := by rw [← hW]; simp
  have c1 : W0.cell? ⟨w2.heap.size, 1, none⟩ = some (.slice xb b.length cb) := by rw [← hW]; simp
  have hs0 : w2.heap.size < W0.heap.size := by rw [← hW]; simp
  have hb0 : Below w.heap.size w W0 := by rw [← hW]; exact below_alloc hb _
  have hown0 : OwnS W0 w.heap.size (.slice xm m.length cm) m := by rw [← hW]; exact hown.below ((Below.refl _ _).alloc (Nat.le_refl _) _) (Nat.le_refl _)
  rw [hW]
  clear hW hb hown
  have HC : Hid (∀ k : Nat, k < 2 → ∃ xl cl L, W0.cell? ⟨w2.heap.size, k, none⟩ = some (.slice xl (List.length L) cl) ∧ RowS w (.slice xl L.length cl) L ∧ P.I64s L ∧ ∀ s ∈ L, s ∈ a ∨ s ∈ b) := by
    intro k hk
    obtain ⟨vl, L, e1, e2, hr, hi, hm⟩ := HL.out k hk
    obtain ⟨xl, cl, rfl⟩ := hr.shp
    refine ⟨xl, cl, L, ?_, hr, hi, hm⟩
    have : k = 0 ∨ k = 1 := by omega
    rcases this with rfl | rfl
    · rw [c0, e1 rfl]
    · rw [c1, e2 (by omega)]
  clear HL c0 c1
  have HRw := hide hown0.row
  go_loopw [30] (fun i wr => ∃ k : Nat, k ≤ 2 ∧ i = .int .i64 k ∧ Below W0.heap.size W0 wr) (fun i _ => 2 - (intOf i).toNat)
  case atStart => exact ⟨0, by omega, rfl, Below.refl _ _⟩
  case round =>
    obtain ⟨k, hk, rfl, hbr⟩ := hrel
    by_cases hlt : k < 2
    · obtain ⟨xl, cl, L, hck, hrl, hil, hml⟩ := HC.out k hlt
      replace hck := (hbr.cell (p := ⟨w2.heap.size, k, none⟩) hs0).trans hck
      have j0 : (0 : Int) ≤ (k : Int) := by omega
      have j1 : (k : Int) < 2 := by omega
      have HIl := hide hil
      have HMl := hide hml
      have HRl := hide hrl
      obtain ⟨_, _, _, ⟨hlcl, hmxl, _⟩, _⟩ := hrl
      unfold maxLen at hmxl
      have hLl : L.length ≤ 9223372036854775807 := by omega
      clear hil hml HC
      go_wp2
      go_loopw [36] (fun i wr => ∃ k : Nat, k ≤ L.length ∧ i = .int .i64 k ∧ Below W0.heap.size W0 wr) (fun i _ => L.length - (intOf i).toNat)
      case atStart => exact ⟨0, by omega, rfl, hbr⟩
      case round =>
        clear hbr hck
        obtain ⟨n, hn, rfl, hbr⟩ := hrel
        have hszr := hbr.size
        by_cases hlt2 : n < L.length
        · have hrl := HRl.out
          obtain ⟨_, _, hv, _, hcase⟩ := hrl
          simp only [Value.slice.injEq, true_and] at hv
          obtain ⟨rfl, rfl⟩ := hv
          rcases hcase with h | ⟨pl, ol, rfl, hpl, hcl⟩
          · rw [h] at hlt2; simp at hlt2
          obtain ⟨g0, g1⟩ := hcl n hlt2
          have hpW : pl < W0.heap.size := Nat.lt_of_lt_of_le hpl hb0.size
          replace g0 := (hbr.cell (p := ⟨pl, ol + n * 2, none⟩) hpW).trans ((hb0.cell (p := ⟨pl, ol + n * 2, none⟩) hpl).trans g0)
          replace g1 := (hbr.cell (p := ⟨pl, ol + n * 2 + 1, none⟩) hpW).trans ((hb0.cell (p := ⟨pl, ol + n * 2 + 1, none⟩) hpl).trans g1)
          have hmem : L.getD n (0, 0) ∈ L := by
            rw [List.getD_eq_getElem?_getD, List.getElem?_eq_getElem hlt2]; exact List.getElem_mem hlt2
          have HI := hide (HIl.out _ hmem)
          obtain ⟨u, hu, hle⟩ := HUp.out _ (HMl.out _ hmem)
          generalize L.getD n (0, 0) = s at *
          obtain ⟨s0, s1⟩ := s
          simp only at g0 g1 hu hle
          obtain ⟨⟨i0, i1⟩, i2, i3⟩ := HI.out
          simp only at i0 i1 i2 i3
          have hpr : pl < wr.heap.size := by omega
          have n0 : (0 : Int) ≤ (n : Int) := by omega
          have n1 : (n : Int) < (L.length : Int) := by omega
          clear hcl hmem HI HIl HMl HUp
          have HR5 := hide (fun (w' : World) (h : Below W0.heap.size W0 w') => HRw.out.below h (Nat.le_refl _))
          by_cases hmx : s0 < 9223372036854775807
          · have HBt := hide (P.btw_up HRm.out hu)
            have HG := hide (fun (w' : World) (h : Below W0.heap.size W0 w') => HRg.out _ s0 (s0 + 1) w' (HR5.out _ h))
            rw [HBt.out] at HG
            have t1 : s0 + 1 ≤ 9223372036854775807 := by omega
            have t2 : decide (s0 < s0 + 1) = true := by simp; omega
            have t3 : ¬ u < s1 := by omega
            clear hu hle HBt
            go_wp2_with fail
            have hba := hbr.alloc hszr (.cells #[.int .i64 s0, .int .i64 s1] 29)
            refine (HG.out _ hba).mono ?_
            rintro e w5 ⟨v5, rfl, own5, hb5⟩
            obtain ⟨d0, d1, hb6, hsz5⟩ := box2 hb5
            obtain ⟨x5, c5, rfl, ⟨hlc5, hmx5, _⟩, hcase5⟩ := own5.row
            rcases hcase5 with h | ⟨p5, o5, rfl, hp5, hc5⟩
            · cases h
            obtain ⟨e0, e1⟩ := hc5 0 (by simp)
            simp only [Nat.zero_mul, Nat.add_zero, List.getD_cons_zero] at e0 e1
            have hbX := Below.trans hba (hb5.mono hba.size)
            clear hc5 own5 hb5 hba HG HR5 hb6 g0 g1 hbr
            simp only [List.length_cons, List.length_nil] at *
            go_wp2_with fail
            go_quiet (fail)
            go_wp2
            go_roundw
            case rel => exact ⟨n + 1, by omega, by go_num, below_dn hbX _⟩
            case measure => simp [intOf]; omega
          · obtain ⟨z, hz⟩ : ∃ z, wrap64 (s0 + 1) = z := ⟨_, rfl⟩
            have hz0 : z = -9223372036854775808 := by rw [← hz]; unfold wrap64; omega
            have hz2 : IntKind.i64.wrap (s0 + 1) = z := by rw [IntKind.wrap_i64, hz0]; omega
            have HG := hide (fun (w' : World) (h : Below W0.heap.size W0 w') => HRg.out _ s0 z w' (HR5.out _ h))
            have t2 : decide (s0 < z) = false := by rw [decide_eq_false_iff_not]; omega
            have t4 : ¬ s0 + 1 ≤ 9223372036854775807 := by omega
            clear hz0 hu hle
            go_wp2_with fail
            have hba := hbr.alloc hszr (.cells #[.int .i64 s0, .int .i64 s1] 29)
            refine (HG.out _ hba).mono ?_
            rintro e w5 ⟨v5, rfl, own5, hb5⟩
            obtain ⟨d0, d1, hb6, hsz5⟩ := box2 hb5
            obtain ⟨x5, c5, hv5⟩ := own5.shp
            rw [hv5]
            have hbX := Below.trans hba (hb5.mono hba.size)
            clear own5 hb5 hba HG HR5 hb6 g0 g1 hbr hv5
            go_wp2_with fail
            go_quiet (fail)
            go_wp2
            go_roundw
            case rel => exact ⟨n + 1, by omega, by go_num, below_dn hbX _⟩
            case measure => simp [intOf]; omega
        · have hd : decide ((n : Int) < (L.length : Int)) = false := by simp; omega
          go_wp2
          go_roundw
          case rel => exact ⟨k + 1, by omega, by go_num, hbr⟩
          case measure => simp [intOf]; omega
    · obtain rfl : k = 2 := by omega
      have HCw := hide (HCk.out _ wr (HRw.out.below hbr (Nat.le_refl _)))
      have ht : decide ((m.length : Int) ≤ (a.length : Int) + (b.length : Int)) = true := by simp; omega
      go_wp2_with (go_at_call 8; go_must (refine HCw.out.mono ?_); rintro e w5 ⟨rfl, hb5⟩)
      go_ret
      exact ⟨rfl, Below.next (hb0.trans (hbr.mono hb0.size)) hb5⟩
theorem walk_ChunkUpper (va : Value) (a : List (Int × Int)) (vb : Value) (b : List (Int × Int)) (w : World) (ha : RowS w va a) (hia : P.I64s a) (hla : a.length * 16 ≤ 140737488351232) (hb : RowS w vb b) (hib : P.I64s b) (hlb : b.length * 16 ≤ 140737488351232) :
    Calls Try.prog 3 #[va, vb] w fun e w' => e = .returned (.bool true) ∧ Below w.heap.size w w' := by
  by_cases he : P.merr a b = 0
  · exact upper_ok va vb a b w ha hb hia hib he
  · exact upper_bad va vb a b w ha hb he

set_option maxRecDepth 100000 in
theorem lifted_ChunkUpper (os : Os) (started : os.Started) (H : Type) (enc : TypeId × Value → H) :
    ReturnsInHanded {} Try.checked os 3 .any (Rows.chunkUpperSpec.pre6 enc Try.prog Try.f3 Rows.chunkUpperRow.domain false) (Rows.chunkUpperSpec.post enc Try.prog Try.f3 false true false false) := by
  refine returnsInHanded_of_change_sized (C := Try.checked) own started (by kernel_rfl) Try.func3
    (ChangeSpec.witness6 (enc := enc) (C := Try.checked) false ⟨#[], #[.slice none 0 0, .slice none 0 0], []⟩ 8 (by kernel_rfl) (by kernel_rfl) (by kernel_rfl) (by kernel_rfl)) ?_
  intro W base args ds gs before hval0 hW hcnd hsz0 _
  have hsz : (DataW.weightsEach Try.prog (Try.f3.params.toList ++ Rows.chunkUpperSpec.plain.varTypes Try.prog) (ds ++ gs)).all (· ≤ reachBytes) = true := hsz0
  have hval : ∀ (j : Nat) t v, Try.f3.params[j]? = some t → args[j]? = some v → Value.okWide Try.prog W .any base t v := hval0
  have hW' := hW
  obtain ⟨p, q, hA0, hV, rfl, hfz, hnd⟩ := hW
  have hA : DataW.TrodAll enc Try.prog W 0 (fun _ => true) true Try.f3.params.toList args.toList ds p := hA0
  rw [Try.params3] at hA hval hsz
  obtain ⟨v0, vs0, d0, ds0, p0, q0, hargs, rfl, rfl, h0, r0⟩ := trodAll_cons hA
  obtain ⟨v1, vs1, d1, ds1, p1, q1, rfl, rfl, rfl, h1, r1⟩ := trodAll_cons r0
  obtain ⟨rfl, rfl, rfl⟩ := trodAll_nil r1
  obtain rfl : args = #[v0, v1] := by cases args; simp_all
  obtain ⟨rfl, rfl⟩ := trodVars_none hV
  have k0 := h0
  have lt0 : ∀ x ∈ p0, x.block < W.heap.size := by obtain ⟨m, hm⟩ := k0; exact DataW.trod_lt m _ _ _ hm
  obtain ⟨s0, len0, cap0, rfl⟩ := okWide_slice Try.underlying22 (hval 0 22 v0 rfl rfl)
  obtain ⟨l0, row0, wf0, sh0⟩ := open_samples h0
  have rc0 := row_reachN hsz (j := 0) (t := 22) rfl rfl Try.underlying22 sh0
  rw [bytes29] at rc0
  have k1 := h1
  have lt1 : ∀ x ∈ p1, x.block < W.heap.size := by obtain ⟨m, hm⟩ := k1; exact DataW.trod_lt m _ _ _ hm
  obtain ⟨s1, len1, cap1, rfl⟩ := okWide_slice Try.underlying22 (hval 1 22 v1 rfl rfl)
  obtain ⟨l1, row1, wf1, sh1⟩ := open_samples h1
  have rc1 := row_reachN hsz (j := 1) (t := 22) rfl rfl Try.underlying22 sh1
  rw [bytes29] at rc1
  clear hA0 hval0
  refine (walk_ChunkUpper (.slice s0 len0 cap0) l0 (.slice s1 len1 cap1) l1 W row0 wf0 rc0 row1 wf1 rc1).mono fun e W' ⟨he, bel⟩ => ?_
  subst he
  exact ⟨_, rfl, _, _, _, [], _, [], hW', trodAll_mk1 (shut_bool Try.underlying4 _), (trodAll_cons_mk (Below.trod laidOut (by kernel_rfl) (of_decide_eq_true (by kernel_rfl)) k0 bel lt0) (trodAll_cons_mk (Below.trod laidOut (by kernel_rfl) (of_decide_eq_true (by kernel_rfl)) k1 bel lt1) trodAll_mk0)), rfl, bel.frame _, fun h => by cases h⟩

theorem proved_ChunkUpper : Rows.ChunkUpperSaid :=
  OpenClaim.holds_of_wide 3 Try.f3 rfl rfl rfl rfl rfl rfl rfl ⟨rfl, rfl, rfl, rfl, rfl⟩ rfl rfl rfl rfl rfl (by kernel_rfl) Try.func3 (by kernel_rfl)
    (of_decide_eq_true (by kernel_rfl)) (by unfold Func.isWrapper; first | (rw [if_pos (by decide +kernel)]; kernel_rfl) | (rw [if_neg (by decide +kernel)]; exact ⟨rfl, rfl⟩))
    (fun os started H enc _ => lifted_ChunkUpper os started H enc)
#print axioms proved_ChunkUpper
end Go.Proofs.Ytfjbdgkdkbcnhab
