/- LabelMore: one more match. -/
import Derived.Test.YthdccpgjiogiaabLabelX
namespace Go.Proofs.Ythdccpgjiogiaab
open Go.RowKit Go.ChangeShapes Go.WideShapes Go.ChangeAt Go.Joins
set_option linter.unusedVariables false
/-- 'append(b, x...)' of matches to a row of the call's own, where the walk stands at it. -/
theorem wp_appM {ops : Array Oper} {rest : List Oper} {o : Oper} {a : Act} {Q : Exit → Act → World → Prop} (hgd : o.guard = none) (s x : Operand)
    (ho : o.op = .call { callee := .builtin .append, args := #[s, x], argTypes := #[23, 23] })
    (B base : Nat) (w0 w : World) (v vx : Value) (acc l : List P.Mt) (hown : OwnM w base v acc) (hrow : RowM w vx l) (hb : Below B w0 w) (hB : B ≤ base) (hs : a.eval s = v)
    (hx : a.eval x = vx) (hlen : (acc.length + l.length) * 40 ≤ 140737488355328) (hbase : base ≤ w.heap.size)
    (h : ∀ v' w', OwnM w' base v' (acc ++ l) → Below B w0 w' → w.heap.size ≤ w'.heap.size → w.grownBy w' v.ownBlock → wpList Try.prog ops Q rest (a.put o.dst v') w') :
    wpList Try.prog ops Q (o :: rest) a w := by
  refine wpList_step fun K hK => ?_
  rw [if_pos (by simp [Region.wanted, hgd])]
  exact op_appX mtC_len mtC_one (by decide) (by decide) rfl Try.underlying23 infoM s x ho B base w0 w v vx acc l hown hrow hb hB hs hx hlen hbase fun v' w' a1 a2 a3 a4 => hK _ _ (h v' w' a1 a2 a3 a4)
/-- The same as one step of a region that draws. -/
theorem step_appM {ops : Array Oper} {o : Oper} {a : Act} {K : Act → World → Prop} {Q : Exit → Act → World → Prop} {E : Prop} (hgd : o.guard = none) (s x : Operand)
    (ho : o.op = .call { callee := .builtin .append, args := #[s, x], argTypes := #[23, 23] })
    (B base : Nat) (w0 w : World) (v vx : Value) (acc l : List P.Mt) (hown : OwnM w base v acc) (hrow : RowM w vx l) (hb : Below B w0 w) (hB : B ≤ base) (hs : a.eval s = v)
    (hx : a.eval x = vx) (hlen : (acc.length + l.length) * 40 ≤ 140737488355328) (hbase : base ≤ w.heap.size)
    (h : ∀ v' w', OwnM w' base v' (acc ++ l) → Below B w0 w' → w.heap.size ≤ w'.heap.size → w.grownBy w' v.ownBlock → K (a.put o.dst v') w') :
    if Region.wanted o (yielded ops a.tmps) = true then Oper.wp Try.prog o a w K Q else E := by
  rw [if_pos (by simp [Region.wanted, hgd])]
  exact op_appX mtC_len mtC_one (by decide) (by decide) rfl Try.underlying23 infoM s x ho B base w0 w v vx acc l hown hrow hb hB hs hx hlen hbase h
set_option maxHeartbeats 1000000 in
theorem cloneM_any (v : Value) (m : List P.Mt) (w : World) (hr : RowM w v m) (hl : m.length * 40 ≤ 140737488351232) :
    Calls Try.prog 6 #[v] w fun e w' => ∃ v', e = .returned v' ∧ OwnM w' w.heap.size v' m ∧ Below w.heap.size w w' := by
  have HR := hide hr
  obtain ⟨a, cap, rfl, ⟨hlc, hmax, hnn⟩, hcase⟩ := hr
  cases a with
  | none =>
    have hc := hnn rfl
    have hm : m = [] := by
      rcases hcase with h | ⟨b, off, h, _⟩
      · exact h
      · cases h
    subst hm
    subst hc
    clear hcase HR
    have hq := fun w : World => Lib.run_eql_slice_nil (P := Try.prog) w 23 25 none 0 0 0 0 Try.underlying23
    go_enter Try.func6, Try.ntmps6
    go_wp2
    go_ret
    exact ⟨_, rfl, OwnX.nil _ _ _ _ _, Below.refl _ _⟩
  | some ad =>
    clear hcase hnn
    have hq := fun w : World => Lib.run_eql_slice_nil (P := Try.prog) w 23 25 (some ad) m.length cap 0 0 Try.underlying23
    have hown : OwnM (w.alloc (.cells #[] 25)) w.heap.size (.slice (some ⟨w.heap.size, 0, none⟩) 0 0) [] := World.ownsRow_made w #[] 0 (Nat.le_refl _) (by decide) (by simp)
    have hb : Below w.heap.size w (w.alloc (.cells #[] 25)) := (Below.refl _ w).alloc (Nat.le_refl _) _
    go_enter Try.func6, Try.ntmps6
    go_wp2_with (at_builtin; go_must (refine wp_appM rfl _ _ rfl w.heap.size w.heap.size w _ _ _ [] m hown (HR.out.below hb (Nat.le_refl _)) hb (Nat.le_refl _) rfl rfl (by simp only [List.length_nil]; omega) hb.size ?_); intro v1 w1 own1 hb1 _ _)
    go_ret
    exact ⟨v1, rfl, own1, hb1⟩
/-- What Fits tells of one match more. -/
theorem P.more (l : List P.Lb) (m : List P.Mt) (x : P.Mt) : (P.fitsE l (m ++ [x]) = 0 → P.fitsE l m = 0 ∧ P.fitsE l [x] = 0 ∧ P.fitsB l (m ++ [x]) = (P.fitsB l m && P.fitsB l [x])) ∧ (P.fitsE l (m ++ [x]) ≠ 0 → P.fitsB l (m ++ [x]) = false) := by
  refine ⟨fun h => ?_, P.fitsB_err⟩
  obtain ⟨h1, h2⟩ := P.fitsE_zero h
  have key : ∀ m : List P.Mt, P.chkMF (m ++ [x]) = 0 → P.chkMF m = 0 ∧ P.chkMF [x] = 0 := by
    intro m
    induction m with
    | nil => intro h; exact ⟨rfl, h⟩
    | cons y m ih =>
      intro h
      rw [List.cons_append] at h
      unfold P.chkMF at h
      split at h
      · cases h
      · split at h
        · cases h
        · split at h
          · cases h
          · rename_i g1 g2 g3
            obtain ⟨a, b⟩ := ih h
            refine ⟨?_, b⟩
            unfold P.chkMF
            rw [if_neg g1, if_neg g2, if_neg g3]
            exact a
  have hlen := P.chkM_len h2
  simp only [List.length_append, List.length_cons, List.length_nil] at hlen
  unfold P.chkM at h2
  split at h2
  · cases h2
  · obtain ⟨a, b⟩ := key m h2
    have e1 : P.fitsE l m = 0 := P.fitsE_of h1 (by unfold P.chkM; rw [if_neg (by omega)]; exact a)
    have e2 : P.fitsE l [x] = 0 := P.fitsE_of h1 (by unfold P.chkM; rw [if_neg (by simp)]; exact b)
    refine ⟨e1, e2, ?_⟩
    rw [P.fitsB_ok h, P.fitsB_ok e1, P.fitsB_ok e2, List.all_append]
theorem mtOk_app {m : List P.Mt} {x : P.Mt} (h : MtOk m) (hx : MtOk1 x) : MtOk (m ++ [x]) := by
  intro y hy
  rcases List.mem_append.1 hy with h1 | h1
  · exact h y h1
  · simp at h1; subst h1; exact hx
set_option maxHeartbeats 2000000 in
theorem walk_LabelMore (v : Value) (l : List P.Lb) (vm : Value) (m : List P.Mt) (x : P.Mt) (w : World) (hr : RowL w v l) (hl : LbOk l) (hrc : l.length * 32 ≤ 140737488351232) (hr2 : RowM w vm m) (hl2 : MtOk m) (hrc2 : m.length * 40 ≤ 140737488351232) (hx : MtOk1 x) (mx : Int) (hm : w.cell? ⟨0, 0, none⟩ = some (.int .i64 mx)) :
    Calls Try.prog 3 #[v, vm, .agg #[.int .i64 x.1, .string x.2.1, .string x.2.2]] w fun e w' => e = .returned (.bool true) ∧ Below w.heap.size w w' := by
  have HL := hide (fun w => labels_any w)
  have HC := hide (fun w' (hb : Below w.heap.size w w') => cloneM_any vm m w' (hr2.below hb (Nat.le_refl _)) hrc2)
  have HFx := hide (fun w' hb => fits_one v l x w w' hr hl hx mx hm hb)
  have HFm := hide (fun w' (hb : Below w.heap.size w w') => fits_any v vm l m w' (hr.below hb (Nat.le_refl _)) hl (hr2.below hb (Nat.le_refl _)) hl2 mx (keep_cell hm hb))
  have HF2 := hide (fun v' w' (hb : Below w.heap.size w w') (hr' : RowM w' v' (m ++ [x])) => fits_any v v' l (m ++ [x]) w' (hr.below hb (Nat.le_refl _)) hl hr' (mtOk_app hl2 hx) mx (keep_cell hm hb))
  have HP := hide (P.more l m x)
  have HA := hide (BoxM.new w x)
  have hB0 : Below w.heap.size w (w.alloc (.cells #[.int .i64 x.1, .string x.2.1, .string x.2.2] 25)) := (Below.refl _ w).alloc (Nat.le_refl _) _
  have HO := hide (fun w => RowX.one mtC 3 w x 25)
  obtain ⟨ak, an, av⟩ := x
  simp only at HFx HP HA hB0 HF2 ⊢
  generalize P.fitsE l (m ++ [(ak, an, av)]) = e2 at HF2 HP
  generalize P.fitsE l m = em at HFm HP
  generalize P.fitsE l [(ak, an, av)] = ex at HFx HP
  generalize P.fitsB l (m ++ [(ak, an, av)]) = b2 at HF2 HP
  generalize P.fitsB l m = bm at HFm HP
  generalize P.fitsB l [(ak, an, av)] = bx at HFx HP
  obtain ⟨ca, cp, rfl, hrest⟩ := hr
  obtain ⟨cb, cq, rfl, hrest2⟩ := hr2
  clear hrest hrest2 hx
  go_enter Try.func3, Try.ntmps3
  go_wp2_with fail
  refine (HL.out _).mono ?_
  rintro e w1 ⟨rfl, hc1⟩
  have hb1 := Below.next hB0 hc1
  have xa1 := HA.out.next hc1
  clear HL HA hc1 hB0
  have k10 := xa1.c0
  have k11 := xa1.c1
  have k12 := xa1.c2
  simp only at k10 k11 k12
  go_wp2
  have HX := hide xa1
  clear xa1
  go_region_law (first
    | (refine step_appM rfl (.tmp 18) (.tmp 20) rfl w1.heap.size w1.heap.size w1 _ v2 _ m [(ak, an, av)]
         (by first | exact own2 | exact own2.below ((Below.refl _ w2).alloc (Nat.le_refl _) _) (Nat.le_refl _) | exact own2.below ((Below.refl _ w2).alloc (Nat.le_refl _) _).drew (Nat.le_refl _) | exact own2.below (Below.refl _ w2).drew (Nat.le_refl _))
         (by first | exact HO.out w2 | exact rowC | exact (HO.out w2).below (Below.refl _ _).drew (Nat.le_refl _) | exact rowC.below (Below.refl _ _).drew (Nat.le_refl _))
         (by first | exact hd2 | exact hd2.drew | exact (hd2.alloc hd2.size _) | exact (hd2.alloc hd2.size _).drew) (Nat.le_refl _) rfl rfl (by simp only [List.length_cons, List.length_nil]; omega)
         (by first | exact hd2.size | exact (hd2.alloc hd2.size _).size) ?_; intro v3 w3 own3 hb3 _ _; have hb4 := Below.next hb1 hb3)
    | (go_simp; go_at_call 5; refine (HF2.out _ _ (by first | exact hb4 | exact hb4.drew) (by first | exact OwnM.row own3 | exact (OwnM.row own3).below (Below.refl _ _).drew (Nat.le_refl _))).mono ?_; rintro e w5 ⟨rfl, hc5⟩; have hb5 : Below w.heap.size w w5 := by first | exact Below.next hb4 hc5 | exact Below.next hb4.drew hc5)
    | (go_simp; go_at_call 6; refine (HC.out _ (by first | exact hb1 | exact hb1.drew | exact (hb1.alloc hb1.size _) | exact (hb1.alloc hb1.size _).drew)).mono ?_; rintro e w2 ⟨v2, rfl, own2', hc2⟩
       have hd2 : Below w1.heap.size w1 w2 := by first | exact hc2 | exact Below.next (Below.refl _ w1).drew hc2 | exact Below.next ((Below.refl _ w1).alloc (Nat.le_refl _) _) hc2 | exact Below.next ((Below.refl _ w1).alloc (Nat.le_refl _) _).drew hc2
       have own2 : OwnM w2 w1.heap.size v2 m := OwnX.base own2' (by first | exact Nat.le_refl _ | (show w1.heap.size ≤ (w1.alloc _).heap.size; simp))
       try (have rowC : RowM w2 (.slice (some ⟨w1.heap.size, 0, none⟩) 1 1) [(ak, an, av)] := by first | exact (HO.out w1).below hc2 (Nat.le_refl _) | exact ((HO.out w1).below (Below.refl _ _).drew (Nat.le_refl _)).below hc2 (Nat.le_refl _))
       have xb := HX.out.next hd2
       have y0 := xb.c0
       have y1 := xb.c1
       have y2 := xb.c2
       simp only at y0 y1 y2
       clear xb own2' hc2))
  all_goals
    have xa5 : BoxM w5 w.heap.size (ak, an, av) := HX.out.next (by first | exact Below.next hb3 hc5 | exact Below.next hb3.drew hc5)
    clear hc5 hb4 hb3 HX HF2 HC HO hb1
    go_wp2_with fail
    refine (HFm.out _ hb5).mono ?_
    rintro e w6 ⟨rfl, hc6⟩
    have hb6 := Below.next hb5 hc6
    have xa6 := xa5.next hc6
    clear hc6 hb5 xa5
    have z0 := xa6.c0
    have z1 := xa6.c1
    have z2 := xa6.c2
    simp only at z0 z1 z2
    go_wp2_with fail
    refine (HFx.out _ hb6).mono ?_
    rintro e w7 ⟨rfl, hc7⟩
    have hb7 := Below.next hb6 hc7
    clear hc7 hb6 xa6 z0 z1 z2 HFm HFx
    by_cases he : e2 = 0
    · obtain ⟨p1, p2, p3⟩ := HP.out.1 he
      subst he p1 p2 p3
      have HG := hide (fun w => good_zeros (.slice (some ⟨w.heap.size, 0, none⟩) 2 2) 2 (w.alloc (.cells #[.int .i64 0, .int .i64 0] 27)) (row_two_zeros w _))
      go_wp2_with (go_at_call 7; refine (HG.out _).mono ?_; rintro e w' ⟨rfl, rfl⟩)
      all_goals
        go_ret
        refine ⟨ret_bool ?_, hb7.alloc hb7.size _⟩
        cases bm <;> cases bx <;> first | rfl | contradiction
    · have p1 := HP.out.2 he
      subst p1
      have hen : (e2 == 0) = false := by simp [he]
      clear he HP
      go_wp2
      go_ret
      exact ⟨rfl, hb7⟩
set_option maxRecDepth 100000 in
theorem lifted_LabelMore (os : Os) (started : os.Started) (H : Type) (enc : TypeId × Value → H) :
    ReturnsInHanded {} Try.checked os 3 .any (Rows.labelMoreSpec.pre6 enc Try.prog Try.f3 Rows.labelMoreRow.domain false) (Rows.labelMoreSpec.post enc Try.prog Try.f3 false true false false) := by
  refine returnsInHanded_of_change_shaped (C := Try.checked) own started (by kernel_rfl) Try.func3
    (ChangeSpec.witness6 (enc := enc) (C := Try.checked) false ⟨#[], #[.slice none 0 0, .slice none 0 0, .agg #[.int .i64 0, .string ⟨#[]⟩, .string ⟨#[]⟩]], []⟩ 8 (by kernel_rfl) (by kernel_rfl) (by kernel_rfl) (by kernel_rfl)) ?_
  intro W base args ds gs before hval0 hW hcnd hsz0 hsh _
  obtain ⟨mx, hmx0⟩ := Try.laysM144.s1_3 W hsh
  have hmx : W.cell? ⟨0, 0, none⟩ = some (.int .i64 mx) := hmx0
  have hsz : (DataW.weightsEach Try.prog (Try.f3.params.toList ++ Rows.labelMoreSpec.plain.varTypes Try.prog) (ds ++ gs)).all (· ≤ reachBytes) = true := hsz0
  have hval : ∀ (j : Nat) t v, Try.f3.params[j]? = some t → args[j]? = some v → Value.okWide Try.prog W .any base t v := hval0
  have hW' := hW
  obtain ⟨p, q, hA0, hV, rfl, hfz, hnd⟩ := hW
  have hA : DataW.TrodAll enc Try.prog W 0 (fun _ => true) true Try.f3.params.toList args.toList ds p := hA0
  rw [Try.params3] at hA hval hsz
  obtain ⟨v0, vs0, d0, ds0, p0, q0, hargs, rfl, rfl, h0, r0⟩ := trodAll_cons hA
  obtain ⟨v1, vs1, d1, ds1, p1, q1, rfl, rfl, rfl, h1, r1⟩ := trodAll_cons r0
  obtain ⟨v2, vs2, d2, ds2, p2, q2, rfl, rfl, rfl, h2, r2⟩ := trodAll_cons r1
  obtain ⟨rfl, rfl, rfl⟩ := trodAll_nil r2
  obtain rfl : args = #[v0, v1, v2] := by cases args; simp_all
  obtain ⟨rfl, rfl⟩ := trodVars_none hV
  have k0 := h0
  have lt0 : ∀ x ∈ p0, x.block < W.heap.size := by obtain ⟨m, hm⟩ := k0; exact DataW.trod_lt m _ _ _ hm
  obtain ⟨s0, len0, cap0, rfl⟩ := okWide_slice Try.underlying22 (hval 0 22 v0 rfl rfl)
  obtain ⟨l0, row0, wf0, sh0⟩ := open_labels h0
  have rc0 := row_reachN hsz (j := 0) (t := 22) rfl rfl Try.underlying22 sh0
  rw [bytes44] at rc0
  have k1 := h1
  have lt1 : ∀ x ∈ p1, x.block < W.heap.size := by obtain ⟨m, hm⟩ := k1; exact DataW.trod_lt m _ _ _ hm
  obtain ⟨s1, len1, cap1, rfl⟩ := okWide_slice Try.underlying23 (hval 1 23 v1 rfl rfl)
  obtain ⟨l1, row1, wf1, sh1⟩ := open_matches h1
  have rc1 := row_reachN hsz (j := 1) (t := 23) rfl rfl Try.underlying23 sh1
  rw [bytes25] at rc1
  have k2 := h2
  have lt2 : ∀ x ∈ p2, x.block < W.heap.size := by obtain ⟨m, hm⟩ := k2; exact DataW.trod_lt m _ _ _ hm
  obtain ⟨x2, rfl, wf2⟩ := open_match (hval 2 25 v2 rfl rfl) h2
  clear hA0 hval0
  refine (walk_LabelMore (.slice s0 len0 cap0) l0 (.slice s1 len1 cap1) l1 x2 W row0 wf0 rc0 row1 wf1 rc1 wf2 mx hmx).mono fun e W' ⟨he, bel⟩ => ?_
  subst he
  exact ⟨_, rfl, _, _, _, [], _, [], hW', trodAll_mk1 (shut_bool Try.underlying4 _), (trodAll_cons_mk (Below.trod laidOut (by kernel_rfl) (of_decide_eq_true (by kernel_rfl)) k0 bel lt0) (trodAll_cons_mk (Below.trod laidOut (by kernel_rfl) (of_decide_eq_true (by kernel_rfl)) k1 bel lt1) (trodAll_cons_mk (Below.trod laidOut (by kernel_rfl) (of_decide_eq_true (by kernel_rfl)) k2 bel lt2) trodAll_mk0))), rfl, bel.frame _, fun h => by cases h⟩

theorem proved_LabelMore : Rows.LabelMoreSaid :=
  OpenClaim.holds_of_wide 3 Try.f3 rfl rfl rfl rfl rfl rfl rfl ⟨rfl, rfl, rfl, rfl, rfl⟩ rfl rfl rfl rfl rfl (by kernel_rfl) Try.func3 (by kernel_rfl)
    (of_decide_eq_true (by kernel_rfl)) (by unfold Func.isWrapper; first | (rw [if_pos (by decide +kernel)]; kernel_rfl) | (rw [if_neg (by decide +kernel)]; exact ⟨rfl, rfl⟩))
    (fun os started H enc _ => lifted_LabelMore os started H enc)
#print axioms proved_LabelMore
end Go.Proofs.Ythdccpgjiogiaab
