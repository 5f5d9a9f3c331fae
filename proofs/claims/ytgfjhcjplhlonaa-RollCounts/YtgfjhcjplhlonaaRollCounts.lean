/- RollCounts holds: at all samples and widths the law answers true and changes nothing that was there. -/
import Derived.Test.YtgfjhcjplhlonaaRlive
import Derived.Test.YtgfjhcjplhlonaaRollQ
namespace Go.Proofs.Ytgfjhcjplhlonaa
open Go.ChangeShapes Go.WideShapes Go.ChangeAt Go.RowKit
set_option linter.unusedVariables false
namespace P
def vsum : List (Int × Int) → Int
  | [] => 0
  | s :: l => s.2 + vsum l
theorem ones_s (l : List (Int × Int)) : ssum (ones l) = vsum l := by
  induction l with
  | nil => rfl
  | cons s l ih => simp only [ones, List.map_cons, ssum, vsum] at ih ⊢; rw [ih]; rfl
theorem nsum_append (l m : List Wn) : nsum (l ++ m) = nsum l + nsum m := by
  induction l with
  | nil => simp [nsum]
  | cons x l ih => simp only [List.cons_append, nsum, ih]; omega
theorem ssum_append (l m : List Wn) : ssum (l ++ m) = ssum l + ssum m := by
  induction l with
  | nil => simp [ssum]
  | cons x l ih => simp only [List.cons_append, ssum, ih]; omega
theorem vsum_append (l m : List (Int × Int)) : vsum (l ++ m) = vsum l + vsum m := by
  induction l with
  | nil => simp [vsum]
  | cons x l ih => simp only [List.cons_append, vsum, ih]; omega
theorem nsum_take {l : List Wn} {k : Nat} {x : Wn} (h : l[k]? = some x) : nsum (l.take (k + 1)) = nsum (l.take k) + x.n := by rw [List.take_add_one, h, nsum_append]; simp [nsum]
theorem ssum_take {l : List Wn} {k : Nat} {x : Wn} (h : l[k]? = some x) : ssum (l.take (k + 1)) = ssum (l.take k) + x.s := by rw [List.take_add_one, h, ssum_append]; simp [ssum]
theorem vsum_take {l : List (Int × Int)} {k : Nat} (h : k < l.length) : vsum (l.take (k + 1)) = vsum (l.take k) + (l.getD k (0, 0)).2 := by rw [List.take_add_one, vsum_append]; simp [vsum, List.getElem?_eq_getElem h, List.getD_eq_getElem?_getD]
theorem counts_ok {l : List (Int × Int)} {w : Int} (h : roerr l w = 0) : nsum (roout l w) = l.length ∧ IntKind.i64.wrap (ssum (roout l w)) = IntKind.i64.wrap (vsum l) ∧ chkW (roout l w) = 0 ∧ l.length ≤ 1000 := by
  obtain ⟨hc, h1, h2, hf, ho⟩ := roerr_zero h
  obtain ⟨hl, hr⟩ := chk_zero hc
  obtain ⟨n1, n2⟩ := ones_n l
  rw [ho]
  refine ⟨by rw [(grp_n (beg w) n1 (by rw [n2]; omega)).2, n2], by rw [grp_s, ones_s], roll_chk h1 hl hr, hl⟩
end P
theorem counts_bad (v : Value) (l : List (Int × Int)) (wd : Int) (w : World) (hr : RowS w v l) (hc : P.roerr l wd ≠ 0) :
    Calls Try.prog 6 #[v, .int .i64 wd] w fun e w' => e = .returned (.bool true) ∧ Below w.heap.size w w' := by
  have HL := hide (rolls_any w)
  have HA := hide (fun (w' : World) (hb : Below w.heap.size w w') => roll_any v l wd w' (hr.below hb (Nat.le_refl _)))
  have o1 : P.roout l wd = [] := by unfold P.roout; rw [if_neg hc]
  rw [o1] at HA
  obtain ⟨a, cap, rfl⟩ := hr.shp
  clear hr o1
  generalize P.roerr l wd = c at *
  have t1 : (c != 0) = true := by simpa using hc
  clear hc
  go_enter Try.func6, Try.ntmps6
  go_wp2_with (go_at_call 14; go_must (refine HL.out.mono ?_); rintro e w1 ⟨rfl, hb⟩)
  refine (HA.out _ hb).mono ?_
  rintro e w2 ⟨va, rfl, owna, hb2⟩
  obtain ⟨aa, ca, hva⟩ := OwnW.shp owna
  rw [hva]
  replace hb := Below.next hb hb2
  clear hva owna hb2
  go_wp2_with fail
  go_ret
  exact ⟨rfl, hb⟩
set_option maxHeartbeats 2000000 in
theorem counts_go (v : Value) (l : List (Int × Int)) (wd : Int) (w : World) (hr : RowS w v l) (hc : P.roerr l wd = 0) :
    Calls Try.prog 6 #[v, .int .i64 wd] w fun e w' => e = .returned (.bool true) ∧ Below w.heap.size w w' := by
  have HL := hide (rolls_any w)
  have HA := hide (fun (w' : World) (hb : Below w.heap.size w w') => roll_any v l wd w' (hr.below hb (Nat.le_refl _)))
  rw [hc] at HA
  obtain ⟨c1, c2, c3, c4⟩ := P.counts_ok hc
  have HCk := hide (fun (v' : Value) (w' : World) (h : RowW w' v' (P.roout l wd)) => checkW_any v' (P.roout l wd) w' h)
  rw [c3] at HCk
  generalize P.roout l wd = A at *
  have HC1 := hide c1
  have HC2 := hide c2
  obtain ⟨x, cap, rfl, ⟨hlc, hmax, hnn⟩, hcase⟩ := hr
  unfold maxLen at hmax
  clear hc c1 c2 c3 hnn
  go_enter Try.func6, Try.ntmps6
  go_wp2_with (go_at_call 14; go_must (refine HL.out.mono ?_); rintro e w1 ⟨rfl, hb⟩)
  refine (HA.out _ hb).mono ?_
  rintro e w2 ⟨va, rfl, owna, hb2⟩
  obtain ⟨aa, ca, hva⟩ := OwnW.shp owna
  rw [hva] at owna ⊢
  replace hb := Below.next hb hb2
  clear hva hb2 HA HL
  obtain ⟨_, _, hv8, ⟨hlca, hmaxa, hnna⟩, hcaseA⟩ := OwnW.row owna
  simp only [Value.slice.injEq, true_and] at hv8
  obtain ⟨rfl, rfl⟩ := hv8
  unfold maxLen at hmaxa
  have HOa := hide owna
  clear owna hnna
  go_wp2_with fail
  go_loopw [29, 7, 8] (fun i n s wr => ∃ (k : Nat) (a b : Int), k ≤ A.length ∧ i = .int .i64 k ∧ n = .int .i64 a ∧ s = .int .i64 b ∧ a = IntKind.i64.wrap (P.nsum (A.take k)) ∧ b = IntKind.i64.wrap (P.ssum (A.take k)) ∧ Below w2.heap.size w2 wr) (fun i _ _ _ => A.length - (intOf i).toNat)
  case atStart => exact ⟨0, 0, 0, by omega, rfl, rfl, rfl, by rw [List.take_zero]; decide, by rw [List.take_zero]; decide, Below.refl _ _⟩
  case round =>
    obtain ⟨k, a, b, hk, rfl, rfl, rfl, ha, hbs, hB⟩ := hrel
    have HAa := hide ha
    have HBb := hide hbs
    clear ha hbs
    by_cases hlt : k < A.length
    · rcases hcaseA with h | ⟨p, off, rfl, hps, hcell⟩
      · rw [h] at hlt; simp at hlt
      have j0 : (0 : Int) ≤ (k : Int) := by omega
      have j1 : (k : Int) < (A.length : Int) := by omega
      obtain ⟨x, hx⟩ : ∃ x, A[k]? = some x := ⟨_, List.getElem?_eq_getElem hlt⟩
      obtain ⟨q0, q1, q2, q3, q4, q5, q6⟩ := (RowW.at hcell hx).below hB hps
      have HN := hide (P.nsum_take hx)
      have HS := hide (P.ssum_take hx)
      clear hcell hx
      obtain ⟨x0, x1, x2, x3, x4, x5, x6⟩ := x
      simp only at q0 q1 q2 q3 q4 q5 q6 HN HS
      go_wp2
      go_quiet (fail)
      go_wp2
      go_roundw
      case rel => exact ⟨k + 1, _, _, by omega, by go_num, rfl, rfl, by rw [HN.out, HAa.out, IntKind.wrap_i64, IntKind.wrap_i64]; simp only [wrap64]; omega, by rw [HS.out, HBb.out, IntKind.wrap_i64, IntKind.wrap_i64]; simp only [wrap64]; omega, below_dn (hB.alloc hB.size _) _⟩
      case measure => simp [intOf]; omega
    · have hd : decide ((k : Int) < (A.length : Int)) = false := by simp; omega
      have hkl : k = A.length := by omega
      have HA2 : Hid (a = l.length) := by show _ = _; rw [HAa.out, hkl, List.take_length, HC1.out]; exact IntWalk.i64_in _ (by omega)
      have HB2 : Hid (b = IntKind.i64.wrap (P.vsum l)) := by show _ = _; rw [HBb.out, hkl, List.take_length, HC2.out]
      have hbr := Below.next hb hB
      have HRw := hide ((OwnW.row HOa.out).below hB (Nat.le_refl _))
      clear HAa HBb hkl hcaseA
      go_wp2
      go_loopw [44, 9] (fun i s wr2 => ∃ (k : Nat) (c : Int), k ≤ l.length ∧ i = .int .i64 k ∧ s = .int .i64 c ∧ c = IntKind.i64.wrap (P.vsum (l.take k)) ∧ Below wr.heap.size wr wr2) (fun i _ _ => l.length - (intOf i).toNat)
      case atStart => exact ⟨0, 0, by omega, rfl, rfl, by rw [List.take_zero]; decide, Below.refl _ _⟩
      case round =>
        obtain ⟨n, c, hn, rfl, rfl, hcc, hB2⟩ := hrel
        have HCc := hide hcc
        clear hcc
        by_cases hln : n < l.length
        · rcases hcase with h | ⟨p, off, rfl, hps, hcell⟩
          · rw [h] at hln; simp at hln
          have j0 : (0 : Int) ≤ (n : Int) := by omega
          have j1 : (n : Int) < (l.length : Int) := by omega
          obtain ⟨g0, g1⟩ := hcell n hln
          have hbt := Below.next hbr hB2
          replace g0 := (hbt.cell (p := ⟨p, off + n * 2, none⟩) hps).trans g0
          replace g1 := (hbt.cell (p := ⟨p, off + n * 2 + 1, none⟩) hps).trans g1
          have HV := hide (P.vsum_take hln)
          generalize l.getD n (0, 0) = s at *
          obtain ⟨s0, s1⟩ := s
          simp only at g0 g1 HV
          clear hcell
          go_wp2
          go_roundw
          case rel => exact ⟨n + 1, _, by omega, by go_num, rfl, by rw [HV.out, HCc.out, IntKind.wrap_i64, IntKind.wrap_i64]; simp only [wrap64]; omega, hB2.alloc hB2.size _⟩
          case measure => simp [intOf]; omega
        · have hd2 : decide ((n : Int) < (l.length : Int)) = false := by simp; omega
          have hnl : n = l.length := by omega
          have HE1 : Hid (a = (l.length : Int)) := HA2
          have e1 : (a == (l.length : Int)) = true := by rw [beq_iff_eq]; exact HA2.out
          have e2 : (b == c) = true := by rw [beq_iff_eq, HB2.out, HCc.out, hnl, List.take_length]
          clear hnl HA2 HB2 HCc HE1
          have HCx := hide (HCk.out _ _ (HRw.out.below hB2 (Nat.le_refl _)))
          have hbt := Below.next hbr hB2
          go_wp2_with (go_at_call 19; go_must (refine HCx.out.mono ?_); rintro e w6 ⟨rfl, hb6⟩)
          go_ret
          exact ⟨rfl, Below.next hbt hb6⟩
theorem walk_RollCounts (v : Value) (l : List (Int × Int)) (wd : Int) (w : World) (hr : RowS w v l) (_ : P.I64s l) (_ : l.length * 16 ≤ 140737488351232) (_ : -9223372036854775808 ≤ wd) (_ : wd ≤ 9223372036854775807) :
    Calls Try.prog 6 #[v, .int .i64 wd] w fun e w' => e = .returned (.bool true) ∧ Below w.heap.size w w' := by
  by_cases hc : P.roerr l wd = 0
  · exact counts_go v l wd w hr hc
  · exact counts_bad v l wd w hr hc

set_option maxRecDepth 100000 in
theorem lifted_RollCounts (os : Os) (started : os.Started) (H : Type) (enc : TypeId × Value → H) :
    ReturnsInHanded {} Try.checked os 6 .any (Rows.rollCountsSpec.pre6 enc Try.prog Try.f6 Rows.rollCountsRow.domain false) (Rows.rollCountsSpec.post enc Try.prog Try.f6 false true false false) := by
  refine returnsInHanded_of_change_sized (C := Try.checked) own started (by kernel_rfl) Try.func6
    (ChangeSpec.witness6 (enc := enc) (C := Try.checked) false ⟨#[], #[.slice none 0 0, .int .i64 0], []⟩ 8 (by kernel_rfl) (by kernel_rfl) (by kernel_rfl) (by kernel_rfl)) ?_
  intro W base args ds gs before hval0 hW hcnd hsz0  _
  have hsz : (DataW.weightsEach Try.prog (Try.f6.params.toList ++ Rows.rollCountsSpec.plain.varTypes Try.prog) (ds ++ gs)).all (· ≤ reachBytes) = true := hsz0
  have hval : ∀ (j : Nat) t v, Try.f6.params[j]? = some t → args[j]? = some v → Value.okWide Try.prog W .any base t v := hval0
  have hW' := hW
  obtain ⟨p, q, hA0, hV, rfl, hfz, hnd⟩ := hW
  have hA : DataW.TrodAll enc Try.prog W 0 (fun _ => true) true Try.f6.params.toList args.toList ds p := hA0
  rw [Try.params6] at hA hval hsz
  obtain ⟨v0, vs0, d0, ds0, p0, q0, hargs, rfl, rfl, h0, r0⟩ := trodAll_cons hA
  obtain ⟨v1, vs1, d1, ds1, p1, q1, rfl, rfl, rfl, h1, r1⟩ := trodAll_cons r0
  obtain ⟨rfl, rfl, rfl⟩ := trodAll_nil r1
  obtain rfl : args = #[v0, v1] := by cases args; simp_all
  obtain ⟨rfl, rfl⟩ := trodVars_none hV
  have k0 := h0
  have lt0 : ∀ x ∈ p0, x.block < W.heap.size := by obtain ⟨m, hm⟩ := k0; exact DataW.trod_lt m _ _ _ hm
  obtain ⟨s0, len0, cap0, rfl⟩ := okWide_slice Try.underlying22 (hval 0 22 v0 rfl rfl)
  obtain ⟨l0, row0, wf0, sh0⟩ := open_samples h0
  have rc0 := row_reachN hsz (j := 0) (t := 22) rfl rfl Try.underlying22 sh0
  rw [bytes40] at rc0
  have k1 := h1
  have lt1 : ∀ x ∈ p1, x.block < W.heap.size := by obtain ⟨m, hm⟩ := k1; exact DataW.trod_lt m _ _ _ hm
  obtain ⟨a1, rfl, rfl, rfl, w1⟩ := open_int Try.underlying2 (hval 1 2 v1 rfl rfl) h1
  have b1 := bounds_i64 w1
  clear hA0 hval0
  refine (walk_RollCounts (.slice s0 len0 cap0) l0 a1 W row0 wf0 rc0 b1.1 b1.2).mono fun e W' ⟨he, bel⟩ => ?_
  subst he
  exact ⟨_, rfl, _, _, _, [], _, [], hW', trodAll_mk1 (shut_bool Try.underlying4 _), (trodAll_cons_mk (Below.trod laidOut (by kernel_rfl) (of_decide_eq_true (by kernel_rfl)) k0 bel lt0) (trodAll_cons_mk (Below.trod laidOut (by kernel_rfl) (of_decide_eq_true (by kernel_rfl)) k1 bel lt1) trodAll_mk0)), rfl, bel.frame _, fun h => by cases h⟩

theorem proved_RollCounts : Rows.RollCountsSaid :=
  OpenClaim.holds_of_wide 6 Try.f6 rfl rfl rfl rfl rfl rfl rfl ⟨rfl, rfl, rfl, rfl, rfl⟩ rfl rfl rfl rfl rfl (by kernel_rfl) Try.func6 (by kernel_rfl)
    (of_decide_eq_true (by kernel_rfl)) (by unfold Func.isWrapper; first | (rw [if_pos (by decide +kernel)]; kernel_rfl) | (rw [if_neg (by decide +kernel)]; exact ⟨rfl, rfl⟩))
    (fun os started H enc _ => lifted_RollCounts os started H enc)
#print axioms proved_RollCounts

end Go.Proofs.Ytgfjhcjplhlonaa
