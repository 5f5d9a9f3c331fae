/- RollBounds holds: at all samples and widths the law answers true and changes nothing that was there. -/
import Derived.Test.YtgfjhcjplhlonaaRlive
import Derived.Test.YtgfjhcjplhlonaaRollQ
namespace Go.Proofs.Ytgfjhcjplhlonaa
open Go.ChangeShapes Go.WideShapes Go.ChangeAt Go.RowKit
set_option linter.unusedVariables false
namespace P
/-- A window tells of just these samples. -/
def Fit (w : Int) (x : Wn) (c : List (Int × Int)) : Prop :=
  c ≠ [] ∧ x.n = c.length ∧ (∀ s ∈ c, x.t ≤ s.1 ∧ s.1 - x.t < w ∧ x.mn ≤ s.2 ∧ s.2 ≤ x.mx) ∧ c.head?.map (·.2) = some x.f ∧ c.getLast?.map (·.2) = some x.l
/-- Windows tell of samples, one behind the other. -/
def Cov (w : Int) : List (Int × Int) → List Wn → Prop
  | l, [] => l = []
  | l, x :: m => ∃ c r, l = c ++ r ∧ Fit w x c ∧ Cov w r m
theorem fit_one {w : Int} (hw : 1 ≤ w) (s : Int × Int) : Fit w (at' (beg w s.1) (one s)) [s] := by
  have := beg_le hw s.1
  refine ⟨by simp, rfl, fun r hr => ?_, rfl, rfl⟩
  simp at hr; subst hr
  simp only [at', one]
  omega
theorem cov_cons {w : Int} (hw : 1 ≤ w) {s : Int × Int} {l : List (Int × Int)} {m : List Wn} (hl : l.length ≤ 1000) (h : Cov w l m) : Cov w (s :: l) (cat [at' (beg w s.1) (one s)] m) := by
  have hf := fit_one hw s
  cases m with
  | nil => obtain rfl : l = [] := h; exact ⟨[s], [], rfl, hf, rfl⟩
  | cons y m =>
    simp only [cat]
    split
    · rename_i e
      obtain ⟨c, r, rfl, hc, hr⟩ := h
      refine ⟨s :: c, r, rfl, ?_, hr⟩
      obtain ⟨f1, f2, f3, f4, f5⟩ := hf
      obtain ⟨g1, g2, g3, g4, g5⟩ := hc
      refine ⟨by simp, ?_, fun u hu => ?_, rfl, ?_⟩
      · simp only [bo, g2, at', one, List.length_cons, IntKind.wrap_i64]
        simp at hl
        omega
      · have hs := f3 s List.mem_cons_self
        rcases List.mem_cons.1 hu with rfl | hu
        · simp only [bo] at hs ⊢; omega
        · have := g3 u hu
          simp only [bo] at hs ⊢; omega
      · rw [List.getLast?_cons]
        cases hl2 : c.getLast? with
        | none => rw [List.getLast?_eq_none_iff] at hl2; exact absurd hl2 g1
        | some z => rw [hl2] at g5; simp only [bo]; simpa using g5
    · exact ⟨[s], l, rfl, hf, h⟩
theorem cov_grp {w : Int} (hw : 1 ≤ w) {l : List (Int × Int)} (hl : l.length ≤ 1000) : Cov w l (grp (beg w) (ones l)) := by
  induction l with
  | nil => rfl
  | cons s l ih => simp at hl; exact cov_cons hw (by omega) (ih (by omega))
theorem cov_roll {l : List (Int × Int)} {w : Int} (h : roerr l w = 0) : Cov w l (roout l w) ∧ 1 ≤ w ∧ w ≤ 1099511627776 ∧ l.length ≤ 1000 := by
  obtain ⟨hc, h1, h2, hf, ho⟩ := roerr_zero h
  rw [ho]
  exact ⟨cov_grp h1 (chk_zero hc).1, h1, h2, (chk_zero hc).1⟩
theorem fit_at {w : Int} {x : Wn} {c : List (Int × Int)} (h : Fit w x c) {q : Nat} (hq : q < c.length) : x.t ≤ (c.getD q (0, 0)).1 ∧ (c.getD q (0, 0)).1 - x.t < w ∧ x.mn ≤ (c.getD q (0, 0)).2 ∧ (c.getD q (0, 0)).2 ≤ x.mx ∧ (q = 0 → (c.getD q (0, 0)).2 = x.f) ∧ (q + 1 = c.length → (c.getD q (0, 0)).2 = x.l) := by
  obtain ⟨f1, f2, f3, f4, f5⟩ := h
  have e : c.getD q (0, 0) = c[q] := by simp [List.getD_eq_getElem?_getD, List.getElem?_eq_getElem hq]
  obtain ⟨a, b, c1, d⟩ := f3 c[q] (List.getElem_mem hq)
  rw [e]
  refine ⟨a, b, c1, d, fun h0 => ?_, fun h1 => ?_⟩
  · subst h0
    rw [List.head?_eq_getElem?, List.getElem?_eq_getElem hq] at f4
    simpa using f4
  · rw [List.getLast?_eq_getElem?, List.getElem?_eq_getElem (by omega)] at f5
    have : c.length - 1 = q := by omega
    simp only [this] at f5
    simpa using f5
end P
theorem bounds_bad (v : Value) (l : List (Int × Int)) (wd : Int) (w : World) (hr : RowS w v l) (hc : P.roerr l wd ≠ 0) :
    Calls Try.prog 7 #[v, .int .i64 wd] w fun e w' => e = .returned (.bool true) ∧ Below w.heap.size w w' := by
  have HL := hide (rolls_any w)
  have HA := hide (fun (w' : World) (hb : Below w.heap.size w w') => roll_any v l wd w' (hr.below hb (Nat.le_refl _)))
  have o1 : P.roout l wd = [] := by unfold P.roout; rw [if_neg hc]
  rw [o1] at HA
  obtain ⟨a, cap, rfl⟩ := hr.shp
  clear hr o1
  generalize P.roerr l wd = c at *
  have t1 : (c != 0) = true := by simpa using hc
  clear hc
  go_enter Try.func7, Try.ntmps7
  go_wp2_with (go_at_call 14; go_must (refine HL.out.mono ?_); rintro e w1 ⟨rfl, hb⟩)
  refine (HA.out _ hb).mono ?_
  rintro e w2 ⟨va, rfl, owna, hb2⟩
  obtain ⟨aa, ca, hva⟩ := OwnW.shp owna
  rw [hva]
  replace hb := Below.next hb hb2
  clear hva owna hb2
  go_wp2_with fail
  go_ret
  exact ⟨rfl, hb⟩
/-- How the loops stand. -/
def BouIn (c : List (Int × Int)) (o : Nat) (W : World) (n i : Value) (w3 : World) : Prop := ∃ (q p : Nat), q ≤ c.length ∧ n = .int .i64 q ∧ i = .int .i64 p ∧ p = o + q ∧ ∃ t, w3 = W.drewN t
def BouOut (l : List (Int × Int)) (A : List P.Wn) (wd : Int) (w2 : World) (i oo : Value) (wr : World) : Prop := ∃ (j o : Nat), j ≤ A.length ∧ i = .int .i64 j ∧ oo = .int .i64 o ∧ o ≤ l.length ∧ P.Cov wd (l.drop o) (A.drop j) ∧ Below w2.heap.size w2 wr
set_option maxRecDepth 100000 in
set_option maxHeartbeats 4000000 in
theorem bounds_go (v : Value) (l : List (Int × Int)) (wd : Int) (w : World) (hr : RowS w v l) (hi : P.I64s l) (hc : P.roerr l wd = 0) :
    Calls Try.prog 7 #[v, .int .i64 wd] w fun e w' => e = .returned (.bool true) ∧ Below w.heap.size w w' := by
  have HL := hide (rolls_any w)
  have HA := hide (fun (w' : World) (hb : Below w.heap.size w w') => roll_any v l wd w' (hr.below hb (Nat.le_refl _)))
  rw [hc] at HA
  obtain ⟨c1, c2, c3, c4⟩ := P.cov_roll hc
  have HI := hide hi
  generalize P.roout l wd = A at *
  have HC1 := hide c1
  obtain ⟨x, cap, rfl, ⟨hlc, hmax, hnn⟩, hcase⟩ := hr
  unfold maxLen at hmax
  clear hc c1 hnn hi
  go_enter Try.func7, Try.ntmps7
  go_wp2_with (go_at_call 14; go_must (refine HL.out.mono ?_); rintro e w1 ⟨rfl, hb⟩)
  refine (HA.out _ hb).mono ?_
  rintro e w2 ⟨va, rfl, owna, hb2⟩
  obtain ⟨aa, ca, hva⟩ := OwnW.shp owna
  rw [hva] at owna ⊢
  replace hb := Below.next hb hb2
  clear hva hb2 HA HL
  obtain ⟨_, _, hv8, ⟨hlca, hmaxa, hnna⟩, hcaseA⟩ := OwnW.row owna
  simp only [Value.slice.injEq, true_and] at hv8
  obtain ⟨rfl, rfl⟩ := hv8
  unfold maxLen at hmaxa
  clear owna hnna
  go_wp2_with fail
  go_loopw [26, 7] (fun i oo wr => BouOut l A wd w2 i oo wr) (fun i _ _ => A.length - (intOf i).toNat)
  case atStart => exact ⟨0, 0, by omega, rfl, rfl, by omega, HC1.out, Below.refl _ _⟩
  case round =>
    obtain ⟨j, o, hj, rfl, rfl, ho, hcov, hB⟩ := hrel
    have HCov := hide hcov
    clear hcov
    by_cases hlt : j < A.length
    · rcases hcaseA with h | ⟨p, off, rfl, hps, hcell⟩
      · rw [h] at hlt; simp at hlt
      have j0 : (0 : Int) ≤ (j : Int) := by omega
      have j1 : (j : Int) < (A.length : Int) := by omega
      obtain ⟨y, hy⟩ : ∃ y, A[j]? = some y := ⟨_, List.getElem?_eq_getElem hlt⟩
      obtain ⟨q0, q1, q2, q3, q4, q5, q6⟩ := (RowW.at hcell hy).below hB hps
      obtain ⟨c, r, hcr, hfit, hrest⟩ : ∃ c r, l.drop o = c ++ r ∧ P.Fit wd y c ∧ P.Cov wd r (A.drop (j + 1)) := by
        have := HCov.out
        rw [P.drop_at hy] at this
        exact this
      have hol : o + c.length ≤ l.length := by
        have := congrArg List.length hcr
        simp at this; omega
      have HDrop : Hid (l.drop (o + c.length) = r) := by
        show _ = _
        rw [← List.drop_drop, hcr, List.drop_left]
      have HGet : Hid (∀ q, q < c.length → l.getD (o + q) (0, 0) = c.getD q (0, 0)) := by
        intro q hq
        have : (l.drop o)[q]? = c[q]? := by rw [hcr, List.getElem?_append_left hq]
        rw [List.getElem?_drop] at this
        rw [List.getD_eq_getElem?_getD, List.getD_eq_getElem?_getD, this]
      have HFit := hide (fun q hq => P.fit_at hfit (q := q) hq)
      have hyn := hfit.2.1
      have HRest := hide hrest
      clear hcell hy hcr hfit hrest HCov
      obtain ⟨y0, y1, y2, y3, y4, y5, y6⟩ := y
      simp only at q0 q1 q2 q3 q4 q5 q6 hyn HFit
      subst hyn
      go_wp2
      obtain ⟨W, hW⟩ : ∃ W, wr.alloc (.cells #[.int .i64 y0, .int .i64 (c.length : Int), .int .i64 y2, .int .i64 y3, .int .i64 y4, .int .i64 y5, .int .i64 y6] 34) = W := ⟨_, rfl⟩
      rw [hW]
      have bW : Below w2.heap.size w2 W := by rw [← hW]; exact hB.alloc hB.size _
      obtain ⟨z0, z1, z2, z3, z4, z5, z6⟩ : At7 W wr.heap.size 0 ⟨y0, c.length, y2, y3, y4, y5, y6⟩ := by rw [← hW]; exact at7_new wr ⟨y0, c.length, y2, y3, y4, y5, y6⟩ 34
      simp only at z0 z1 z2 z3 z4 z5 z6
      have HRow : Hid (∀ n, n < l.length → ∃ b off, x = some ⟨b, off, none⟩ ∧ W.cell? ⟨b, off + n * 2, none⟩ = some (.int .i64 (l.getD n (0, 0)).1) ∧ W.cell? ⟨b, off + n * 2 + 1, none⟩ = some (.int .i64 (l.getD n (0, 0)).2)) := by
        intro n hn
        have hbt := Below.next hb bW
        rcases hcase with h | ⟨p, off, rfl, hps, hcell⟩
        · rw [h] at hn; simp at hn
        obtain ⟨g0, g1⟩ := hcell n hn
        exact ⟨p, off, rfl, (hbt.cell (p := ⟨p, off + n * 2, none⟩) hps).trans g0, (hbt.cell (p := ⟨p, off + n * 2 + 1, none⟩) hps).trans g1⟩
      clear hW q0 q1 q2 q3 q4 q5 q6 hB
      go_loopw [10, 7] (fun n i w3 => BouIn c o W n i w3) (fun n _ _ => c.length - (intOf n).toNat)
      case atStart => exact ⟨0, o, by omega, rfl, rfl, rfl, 0, rfl⟩
      case round =>
        obtain ⟨q, p1, hq, rfl, rfl, hp1, t, rfl⟩ := hrel
        by_cases hqc : q < c.length
        · have hpl : p1 < l.length := by omega
          obtain ⟨b, off1, rfl, g0, g1⟩ := HRow.out p1 hpl
          have HF := hide (HFit.out q hqc)
          have hgd := HGet.out q hqc
          rw [← hp1] at hgd
          rw [← hgd] at HF
          have hb64 := HI.out.at p1
          have HP1 := hide hp1
          clear hgd hp1
          generalize l.getD p1 (0, 0) = s at *
          obtain ⟨s0, s1⟩ := s
          obtain ⟨f1, f2, f3, f4, f5, f6⟩ := HF.out
          simp only at g0 g1 f1 f2 f3 f4 f5 f6 hb64
          clear HF
          have hnl : decide ((l.length : Int) ≤ (p1 : Int)) = false := by simp; omega
          have j2 : (0 : Int) ≤ (p1 : Int) := by omega
          have j3 : (p1 : Int) < (l.length : Int) := by omega
          have hqx : decide ((q : Int) < (c.length : Int)) = true := by simp; omega
          have d1 : decide (s0 < y0) = false := by simp; omega
          obtain ⟨u, hu⟩ : ∃ u, u = s0 - y0 := ⟨_, rfl⟩
          have ew : IntKind.i64.wrap (s0 - y0) = u := by rw [hu]; exact IntWalk.i64_in _ (by omega)
          have d2 : decide (wd ≤ u) = false := by simp; omega
          clear hu
          have d3 : decide (s1 < y3) = false := by simp; omega
          have d4 : decide (y4 < s1) = false := by simp; omega
          obtain ⟨m, hm⟩ : ∃ m, m = (c.length : Int) - 1 := ⟨_, rfl⟩
          have ec : IntKind.i64.wrap ((c.length : Int) - 1) = m := by rw [hm]; exact IntWalk.i64_in _ (by omega)
          have HQ := hide hqc
          have hqB : q ≤ 1000 := by omega
          have hnl3 : ¬ l.length ≤ p1 := by omega
          have f7 := hide f1
          clear f1 f2 f3 f4 f7 hb64 HRow HGet HI HC1 hol
          go_wp2
          simp only [List.append]
          go_cut [10, 7, 114] from 30 to 114 (fun n i t w' => n = .int .i64 q ∧ i = .int .i64 p1 ∧ t = .bool false ∧ ∃ t, w' = W.drewN t)
          case first =>
            by_cases hq0 : q = 0
            · have e5 : (s1 != y5) = false := by simp [f5 hq0]
              have eq0 : ((q : Int) == 0) = true := by simp [hq0]
              by_cases hq1 : q + 1 = c.length
              · have e6 : (s1 != y6) = false := by simp [f6 hq1]
                have eq1 : ((q : Int) == m) = true := by rw [beq_iff_eq]; omega
                clear hq0 hq1 f5 f6 hq hm
                go_quiet (fail)
                go_wp2
                go_meet
                case rel => exact ⟨rfl, rfl, rfl, _, World.drewN_drewN _ _ _⟩
              · have eq1 : ((q : Int) == m) = false := by rw [beq_eq_false_iff_ne]; omega
                clear hq0 hq1 f5 f6 hq hm
                go_quiet (fail)
                go_wp2
                go_meet
                case rel => exact ⟨rfl, rfl, rfl, _, World.drewN_drewN _ _ _⟩
            · have eq0 : ((q : Int) == 0) = false := by rw [beq_eq_false_iff_ne]; omega
              by_cases hq1 : q + 1 = c.length
              · have e6 : (s1 != y6) = false := by simp [f6 hq1]
                have eq1 : ((q : Int) == m) = true := by rw [beq_iff_eq]; omega
                clear hq0 hq1 f5 f6 hq hm
                go_quiet (fail)
                go_wp2
                go_meet
                case rel => exact ⟨rfl, rfl, rfl, _, World.drewN_drewN _ _ _⟩
              · have eq1 : ((q : Int) == m) = false := by rw [beq_eq_false_iff_ne]; omega
                clear hq0 hq1 f5 f6 hq hm
                go_quiet (fail)
                go_wp2
                go_meet
                case rel => exact ⟨rfl, rfl, rfl, _, World.drewN_drewN _ _ _⟩
          case rest =>
            obtain ⟨rfl, rfl, rfl, t2, rfl⟩ := hcut
            clear d1 d2 d3 d4 ew ec f5 f6 g0 g1 hm
            go_wp2
            go_roundw
            case rel => exact ⟨q + 1, p1 + 1, by omega, by go_num, by go_num, by have := HP1.out; omega, _, rfl⟩
            case measure => simp [intOf]; omega
        · have hqx : decide ((q : Int) < (c.length : Int)) = false := by simp; omega
          have hqe : q = c.length := by omega
          have HC2 : Hid (P.Cov wd (l.drop p1) (A.drop (j + 1))) := by
            show P.Cov _ _ _
            rw [hp1, hqe, HDrop.out]; exact HRest.out
          have hpl : p1 ≤ l.length := by omega
          clear hqe hp1
          go_wp2
          go_roundw
          case rel => exact ⟨j + 1, p1, by omega, by go_num, rfl, hpl, HC2.out, below_dn bW _⟩
          case measure => simp [intOf]; omega
    · have hd : decide ((j : Int) < (A.length : Int)) = false := by simp; omega
      have hol : o = l.length := by
        have := HCov.out
        rw [List.drop_of_length_le (show A.length ≤ j by omega)] at this
        have h2 : l.drop o = [] := this
        have := congrArg List.length h2
        simp at this; omega
      have e1 : ((o : Int) == (l.length : Int)) = true := by rw [beq_iff_eq]; omega
      have hbr := Below.next hb hB
      clear hol HCov
      go_wp2
      go_ret
      exact ⟨rfl, hbr⟩
theorem walk_RollBounds (v : Value) (l : List (Int × Int)) (wd : Int) (w : World) (hr : RowS w v l) (hi : P.I64s l) (_ : l.length * 16 ≤ 140737488351232) (_ : -9223372036854775808 ≤ wd) (_ : wd ≤ 9223372036854775807) :
    Calls Try.prog 7 #[v, .int .i64 wd] w fun e w' => e = .returned (.bool true) ∧ Below w.heap.size w w' := by
  by_cases hc : P.roerr l wd = 0
  · exact bounds_go v l wd w hr hi hc
  · exact bounds_bad v l wd w hr hc

set_option maxRecDepth 100000 in
theorem lifted_RollBounds (os : Os) (started : os.Started) (H : Type) (enc : TypeId × Value → H) :
    ReturnsInHanded {} Try.checked os 7 .any (Rows.rollBoundsSpec.pre6 enc Try.prog Try.f7 Rows.rollBoundsRow.domain false) (Rows.rollBoundsSpec.post enc Try.prog Try.f7 false true false false) := by
  refine returnsInHanded_of_change_sized (C := Try.checked) own started (by kernel_rfl) Try.func7
    (ChangeSpec.witness6 (enc := enc) (C := Try.checked) false ⟨#[], #[.slice none 0 0, .int .i64 0], []⟩ 8 (by kernel_rfl) (by kernel_rfl) (by kernel_rfl) (by kernel_rfl)) ?_
  intro W base args ds gs before hval0 hW hcnd hsz0  _
  have hsz : (DataW.weightsEach Try.prog (Try.f7.params.toList ++ Rows.rollBoundsSpec.plain.varTypes Try.prog) (ds ++ gs)).all (· ≤ reachBytes) = true := hsz0
  have hval : ∀ (j : Nat) t v, Try.f7.params[j]? = some t → args[j]? = some v → Value.okWide Try.prog W .any base t v := hval0
  have hW' := hW
  obtain ⟨p, q, hA0, hV, rfl, hfz, hnd⟩ := hW
  have hA : DataW.TrodAll enc Try.prog W 0 (fun _ => true) true Try.f7.params.toList args.toList ds p := hA0
  rw [Try.params7] at hA hval hsz
  obtain ⟨v0, vs0, d0, ds0, p0, q0, hargs, rfl, rfl, h0, r0⟩ := trodAll_cons hA
  obtain ⟨v1, vs1, d1, ds1, p1, q1, rfl, rfl, rfl, h1, r1⟩ := trodAll_cons r0
  obtain ⟨rfl, rfl, rfl⟩ := trodAll_nil r1
  obtain rfl : args = #[v0, v1] := by cases args; simp_all
  obtain ⟨rfl, rfl⟩ := trodVars_none hV
  have k0 := h0
  have lt0 : ∀ x ∈ p0, x.block < W.heap.size := by obtain ⟨m, hm⟩ := k0; exact DataW.trod_lt m _ _ _ hm
  obtain ⟨s0, len0, cap0, rfl⟩ := okWide_slice Try.underlying22 (hval 0 22 v0 rfl rfl)
  obtain ⟨l0, row0, wf0, sh0⟩ := open_samples h0
  have rc0 := row_reachN hsz (j := 0) (t := 22) rfl rfl Try.underlying22 sh0
  rw [bytes40] at rc0
  have k1 := h1
  have lt1 : ∀ x ∈ p1, x.block < W.heap.size := by obtain ⟨m, hm⟩ := k1; exact DataW.trod_lt m _ _ _ hm
  obtain ⟨a1, rfl, rfl, rfl, w1⟩ := open_int Try.underlying2 (hval 1 2 v1 rfl rfl) h1
  have b1 := bounds_i64 w1
  clear hA0 hval0
  refine (walk_RollBounds (.slice s0 len0 cap0) l0 a1 W row0 wf0 rc0 b1.1 b1.2).mono fun e W' ⟨he, bel⟩ => ?_
  subst he
  exact ⟨_, rfl, _, _, _, [], _, [], hW', trodAll_mk1 (shut_bool Try.underlying4 _), (trodAll_cons_mk (Below.trod laidOut (by kernel_rfl) (of_decide_eq_true (by kernel_rfl)) k0 bel lt0) (trodAll_cons_mk (Below.trod laidOut (by kernel_rfl) (of_decide_eq_true (by kernel_rfl)) k1 bel lt1) trodAll_mk0)), rfl, bel.frame _, fun h => by cases h⟩

theorem proved_RollBounds : Rows.RollBoundsSaid :=
  OpenClaim.holds_of_wide 7 Try.f7 rfl rfl rfl rfl rfl rfl rfl ⟨rfl, rfl, rfl, rfl, rfl⟩ rfl rfl rfl rfl rfl (by kernel_rfl) Try.func7 (by kernel_rfl)
    (of_decide_eq_true (by kernel_rfl)) (by unfold Func.isWrapper; first | (rw [if_pos (by decide +kernel)]; kernel_rfl) | (rw [if_neg (by decide +kernel)]; exact ⟨rfl, rfl⟩))
    (fun os started H enc _ => lifted_RollBounds os started H enc)
#print axioms proved_RollBounds

end Go.Proofs.Ytgfjhcjplhlonaa
