/- IndexNot, for every number and whatever two lists: who is in none of two is in what is left of both; who is not in what is left is in it. -/
import Derived.Test.YtlghnnmgbdjgoaaSetL
namespace Go.Proofs.Ytlghnnmgbdjgoaa
open Go.RowKit Go.ChangeShapes Go.WideShapes Go.ChangeAt Go.Joins
set_option linter.unusedVariables false
theorem morgan1 (n : Nat) (a b : List Int) : Q.notL n (Q.orL a b) = Q.andL (Q.notL n a) (Q.notL n b) := by
  refine Q.asc_ext (Q.notL_asc _ _) (Q.andL_asc _ _) fun x => ?_
  rw [Q.mem_andL, Q.mem_notL, Q.mem_notL, Q.mem_notL, Q.mem_orL]
  constructor
  · rintro ⟨h1, h2⟩; exact ⟨⟨h1, fun h => h2 (.inl h)⟩, h1, fun h => h2 (.inr h)⟩
  · rintro ⟨⟨h1, h2⟩, _, h3⟩; exact ⟨h1, fun h => h.elim h2 h3⟩
theorem morgan2 (n : Nat) (a : List Int) : Q.notL n (Q.notL n a) = Q.andL (Q.notL n []) a := by
  refine Q.asc_ext (Q.notL_asc _ _) (Q.andL_asc _ _) fun x => ?_
  rw [Q.mem_andL, Q.mem_notL, Q.mem_notL, Q.mem_notL]
  constructor
  · rintro ⟨h1, h2⟩; exact ⟨⟨h1, by simp⟩, Classical.byContradiction fun h => h2 ⟨h1, h⟩⟩
  · rintro ⟨⟨h1, _⟩, h2⟩; exact ⟨h1, fun h => h.2 h2⟩
theorem inot_err (n : Int) (v v2 : Value) (a b : List Int) (w : World) (hn : n < 0 ∨ 1000 < n) (ha : RowK .i64 w v a) (hb : RowK .i64 w v2 b) (la : a.length * 8 ≤ 140737488351232) (lb : b.length * 8 ≤ 140737488351232) :
    Calls Try.prog 8 #[.int .i64 n, v, v2] w fun e w' => e = .returned (.bool true) ∧ Below w.heap.size w w' := by
  have HI := hide (indexes_any w)
  have HA := hide (fun w' (h : Below w.heap.size w w') => ha.below h (Nat.le_refl _))
  have HB := hide (fun w' (h : Below w.heap.size w w') => hb.below h (Nat.le_refl _))
  have HO := hide (fun w' (h : Below w.heap.size w w') => or_any w' v v2 a b (HA.out _ h) (HB.out _ h) (by omega))
  have HN := hide (fun v' l w' (h : RowK .i64 w' v' l) => not_err n v' l w' h hn)
  obtain ⟨a0, ca, rfl, _⟩ := ha
  obtain ⟨b0, cb, rfl, _⟩ := hb
  clear hn la lb
  go_enter Try.func8, Try.ntmps8
  go_wp2_with fail
  refine HI.out.mono ?_
  rintro e w1 ⟨rfl, b1⟩
  go_wp2_with fail
  refine (HO.out _ b1).mono ?_
  rintro e w2 ⟨v2, rfl, own2, b2⟩
  have bb2 := hide (Below.next b1 b2)
  have hrow := hide own2.row
  obtain ⟨a2, c2, hv⟩ := own2.shape
  subst hv
  clear own2 b1 b2 HI HO
  go_wp2_with fail
  refine (HN.out _ _ _ hrow.out).mono ?_
  rintro e w' ⟨rfl, rfl⟩
  go_wp2_with fail
  refine (HN.out _ _ _ (HA.out _ bb2.out)).mono ?_
  rintro e w' ⟨rfl, rfl⟩
  go_wp2_with fail
  refine (HN.out _ _ _ (HB.out _ bb2.out)).mono ?_
  rintro e w' ⟨rfl, rfl⟩
  go_wp2
  go_ret
  exact ⟨rfl, bb2.out⟩
set_option maxHeartbeats 1000000 in
theorem inot_ok (n : Nat) (v v2 : Value) (a b : List Int) (w : World) (hn : n ≤ 1000) (ha : RowK .i64 w v a) (hb : RowK .i64 w v2 b) (la : a.length * 8 ≤ 140737488351232) (lb : b.length * 8 ≤ 140737488351232) :
    Calls Try.prog 8 #[.int .i64 n, v, v2] w fun e w' => e = .returned (.bool true) ∧ Below w.heap.size w w' := by
  have HI := hide (indexes_any w)
  have HA := hide (fun w' (h : Below w.heap.size w w') => ha.below h (Nat.le_refl _))
  have HB := hide (fun w' (h : Below w.heap.size w w') => hb.below h (Nat.le_refl _))
  have HO := hide (fun w' (h : Below w.heap.size w w') => or_any w' v v2 a b (HA.out _ h) (HB.out _ h) (by omega))
  have HN := hide (fun v' l w' (h : RowK .i64 w' v' l) => not_ok n v' l w' h hn)
  have lp := Q.notL_len n a
  have lq := Q.notL_len n b
  have l0 := Q.notL_len n []
  have HD := hide (fun w' p q (hp : RowK .i64 w' p (Q.notL n a)) (hq : RowK .i64 w' q (Q.notL n b)) => and_any w' p q _ _ hp hq (by omega) (by omega) (by have := Q.andL_len (Q.notL n a) (Q.notL n b); omega))
  have HD2 := hide (fun w' p q (hp : RowK .i64 w' p (Q.notL n [])) (hq : RowK .i64 w' q a) => and_any w' p q _ _ hp hq (by omega) (by omega) (by have := Q.andL_len (Q.notL n []) a; omega))
  rw [← morgan1] at HD
  rw [← morgan2] at HD2
  have HN1 := hide (fun w' v' (h : RowK .i64 w' v' (Q.orL a b)) => HN.out v' _ w' h)
  have HN2 := hide (fun w' v' (h : RowK .i64 w' v' a) => HN.out v' _ w' h)
  have HN3 := hide (fun w' v' (h : RowK .i64 w' v' b) => HN.out v' _ w' h)
  have HN4 := hide (fun w' v' (h : RowK .i64 w' v' (Q.notL n a)) => HN.out v' _ w' h)
  have HN5 := hide (fun w' => HN.out _ _ w' (rowK_nil .i64 w'))
  clear HN
  generalize Q.notL n (Q.orL a b) = x at *
  generalize Q.notL n (Q.notL n a) = bk at *
  generalize Q.notL n a = p at *
  generalize Q.notL n b = q at *
  generalize Q.notL n [] = z at *
  generalize Q.orL a b = o at *
  obtain ⟨a0, ca, rfl, _⟩ := ha
  obtain ⟨b0, cb, rfl, _⟩ := hb
  clear la lb lp lq l0
  go_enter Try.func8, Try.ntmps8
  go_wp2_with fail
  refine HI.out.mono ?_
  rintro e w1 ⟨rfl, b1⟩
  go_wp2_with fail
  refine (HO.out _ b1).mono ?_
  rintro e w2 ⟨v2, rfl, own2, b2⟩
  have hB := hide (Below.next b1 b2)
  have hrow := hide own2.row
  obtain ⟨a2, c2, hv⟩ := own2.shape
  subst hv
  clear own2 b1 b2 HI HO
  go_wp2_with fail
  refine (HN1.out _ _ hrow.out).mono ?_
  rintro e w3 ⟨v3, rfl, own3, b3⟩
  replace hB := hide (Below.next hB.out b3)
  have hx := hide own3.row
  obtain ⟨a3, c3, hv⟩ := own3.shape
  subst hv
  clear own3 b3 HN1 hrow
  go_wp2_with fail
  refine (HN2.out _ _ (HA.out _ hB.out)).mono ?_
  rintro e w4 ⟨v4, rfl, own4, b4⟩
  replace hB := hide (Below.next hB.out b4)
  replace hx := hide (hx.out.below b4 (Nat.le_refl _))
  have hp := hide own4.row
  obtain ⟨a4, c4, hv⟩ := own4.shape
  subst hv
  clear own4 b4 HN2
  go_wp2_with fail
  refine (HN3.out _ _ (HB.out _ hB.out)).mono ?_
  rintro e w5 ⟨v5, rfl, own5, b5⟩
  replace hB := hide (Below.next hB.out b5)
  replace hx := hide (hx.out.below b5 (Nat.le_refl _))
  replace hp := hide (hp.out.below b5 (Nat.le_refl _))
  have hq := hide own5.row
  obtain ⟨a5, c5, hv⟩ := own5.shape
  subst hv
  clear own5 b5 HN3
  go_wp2_with fail
  refine (HN4.out _ _ hp.out).mono ?_
  rintro e w6 ⟨v6, rfl, own6, b6⟩
  replace hB := hide (Below.next hB.out b6)
  replace hx := hide (hx.out.below b6 (Nat.le_refl _))
  replace hp := hide (hp.out.below b6 (Nat.le_refl _))
  replace hq := hide (hq.out.below b6 (Nat.le_refl _))
  have hk := hide own6.row
  obtain ⟨a6, c6, hv⟩ := own6.shape
  subst hv
  clear own6 b6 HN4
  go_wp2_with fail
  refine (HN5.out _).mono ?_
  rintro e w7 ⟨v7, rfl, own7, b7⟩
  replace hB := hide (Below.next hB.out b7)
  replace hx := hide (hx.out.below b7 (Nat.le_refl _))
  replace hp := hide (hp.out.below b7 (Nat.le_refl _))
  replace hq := hide (hq.out.below b7 (Nat.le_refl _))
  replace hk := hide (hk.out.below b7 (Nat.le_refl _))
  have hz := hide own7.row
  obtain ⟨a7, c7, hv⟩ := own7.shape
  subst hv
  clear own7 b7 HN5
  have hg := row_four w7 0 0 0 0 25
  have b8 := ((Below.refl w7.heap.size w7).alloc (Nat.le_refl _) (.cells #[.int .i64 0, .int .i64 0, .int .i64 0, .int .i64 0] 25))
  have HG := hide (good_zeros _ 4 _ hg)
  replace hB := hide (Below.next hB.out b8)
  replace hx := hide (hx.out.below b8 (Nat.le_refl _))
  replace hp := hide (hp.out.below b8 (Nat.le_refl _))
  replace hq := hide (hq.out.below b8 (Nat.le_refl _))
  replace hk := hide (hk.out.below b8 (Nat.le_refl _))
  replace hz := hide (hz.out.below b8 (Nat.le_refl _))
  clear hg b8
  go_wp2_with fail
  refine HG.out.mono ?_
  rintro e w' ⟨rfl, hw'⟩
  rw [← hw'] at hB hx hp hq hk hz
  clear HG hw'
  go_wp2_with fail
  refine (HD.out _ _ _ hp.out hq.out).mono ?_
  rintro e w9 ⟨v9, rfl, own9, b9⟩
  replace hB := hide (Below.next hB.out b9)
  replace hx := hide (hx.out.below b9 (Nat.le_refl _))
  replace hk := hide (hk.out.below b9 (Nat.le_refl _))
  replace hz := hide (hz.out.below b9 (Nat.le_refl _))
  have hd := hide own9.row
  obtain ⟨a9, c9, hv⟩ := own9.shape
  subst hv
  have HE := hide (equalI_any _ _ _ _ _ hx.out hd.out)
  rw [show decide (x = x) = true by simp] at HE
  clear own9 b9 HD hp hq hx hd
  go_wp2_with fail
  refine HE.out.mono ?_
  rintro e w10 ⟨rfl, b10⟩
  replace hB := hide (Below.next hB.out b10)
  replace hk := hide (hk.out.below b10 (Nat.le_refl _))
  replace hz := hide (hz.out.below b10 (Nat.le_refl _))
  clear b10 HE
  go_wp2_with fail
  refine (HD2.out _ _ _ hz.out (HA.out _ hB.out)).mono ?_
  rintro e w11 ⟨v11, rfl, own11, b11⟩
  replace hB := hide (Below.next hB.out b11)
  replace hk := hide (hk.out.below b11 (Nat.le_refl _))
  have hd := hide own11.row
  obtain ⟨a11, c11, hv⟩ := own11.shape
  subst hv
  have HE := hide (equalI_any _ _ _ _ _ hk.out hd.out)
  rw [show decide (bk = bk) = true by simp] at HE
  clear own11 b11 HD2 hk hz hd HA HB
  go_wp2_with fail
  refine HE.out.mono ?_
  rintro e w12 ⟨rfl, b12⟩
  replace hB := hide (Below.next hB.out b12)
  clear b12 HE
  go_wp2
  go_ret
  exact ⟨rfl, hB.out⟩
theorem walk_IndexNot (n : Int) (v : Value) (a : List Int) (v2 : Value) (b : List Int) (w : World) (h0 : -9223372036854775808 ≤ n) (h1 : n ≤ 9223372036854775807) (ha : RowK .i64 w v a) (wa : ∀ x ∈ a, -9223372036854775808 ≤ x ∧ x ≤ 9223372036854775807) (la : a.length * 8 ≤ 140737488351232)
    (hb : RowK .i64 w v2 b) (wb : ∀ x ∈ b, -9223372036854775808 ≤ x ∧ x ≤ 9223372036854775807) (lb : b.length * 8 ≤ 140737488351232) :
    Calls Try.prog 8 #[.int .i64 n, v, v2] w fun e w' => e = .returned (.bool true) ∧ Below w.heap.size w w' := by
  by_cases h : n < 0 ∨ 1000 < n
  · exact inot_err n v v2 a b w h ha hb la lb
  · obtain ⟨m, rfl⟩ := Int.eq_ofNat_of_zero_le (show 0 ≤ n by omega)
    exact inot_ok m v v2 a b w (by omega) ha hb la lb
set_option maxRecDepth 100000 in
theorem lifted_IndexNot (os : Os) (started : os.Started) (H : Type) (enc : TypeId × Value → H) :
    ReturnsInHanded {} Try.checked os 8 .any (Rows.indexNotSpec.pre6 enc Try.prog Try.f8 Rows.indexNotRow.domain false) (Rows.indexNotSpec.post enc Try.prog Try.f8 false true false false) := by
  refine returnsInHanded_of_change_sized (C := Try.checked) own started (by kernel_rfl) Try.func8
    (ChangeSpec.witness6 (enc := enc) (C := Try.checked) false ⟨#[], #[.int .i64 0, .slice none 0 0, .slice none 0 0], []⟩ 8 (by kernel_rfl) (by kernel_rfl) (by kernel_rfl) (by kernel_rfl)) ?_
  intro W base args ds gs before hval0 hW hcnd hsz0  _
  have hsz : (DataW.weightsEach Try.prog (Try.f8.params.toList ++ Rows.indexNotSpec.plain.varTypes Try.prog) (ds ++ gs)).all (· ≤ reachBytes) = true := hsz0
  have hval : ∀ (j : Nat) t v, Try.f8.params[j]? = some t → args[j]? = some v → Value.okWide Try.prog W .any base t v := hval0
  have hW' := hW
  obtain ⟨p, q, hA0, hV, rfl, hfz, hnd⟩ := hW
  have hA : DataW.TrodAll enc Try.prog W 0 (fun _ => true) true Try.f8.params.toList args.toList ds p := hA0
  rw [Try.params8] at hA hval hsz
  obtain ⟨v0, vs0, d0, ds0, p0, q0, hargs, rfl, rfl, h0, r0⟩ := trodAll_cons hA
  obtain ⟨v1, vs1, d1, ds1, p1, q1, rfl, rfl, rfl, h1, r1⟩ := trodAll_cons r0
  obtain ⟨v2, vs2, d2, ds2, p2, q2, rfl, rfl, rfl, h2, r2⟩ := trodAll_cons r1
  obtain ⟨rfl, rfl, rfl⟩ := trodAll_nil r2
  obtain rfl : args = #[v0, v1, v2] := by cases args; simp_all
  obtain ⟨rfl, rfl⟩ := trodVars_none hV
  have k0 := h0
  have lt0 : ∀ x ∈ p0, x.block < W.heap.size := by obtain ⟨m, hm⟩ := k0; exact DataW.trod_lt m _ _ _ hm
  obtain ⟨a0, rfl, rfl, rfl, w0⟩ := open_int Try.underlying3 (hval 0 3 v0 rfl rfl) h0
  have b0 := bounds_i64 w0
  have k1 := h1
  have lt1 : ∀ x ∈ p1, x.block < W.heap.size := by obtain ⟨m, hm⟩ := k1; exact DataW.trod_lt m _ _ _ hm
  obtain ⟨s1, len1, cap1, rfl⟩ := okWide_slice Try.underlying37 (hval 1 37 v1 rfl rfl)
  obtain ⟨l1, row1, wf1, sh1⟩ := open_row Try.underlying37 Try.underlying3 cells3 h1
  have rc1 := row_reach hsz (j := 1) (t := 37) rfl rfl Try.underlying37 sh1
  rw [bytes3] at rc1
  have k2 := h2
  have lt2 : ∀ x ∈ p2, x.block < W.heap.size := by obtain ⟨m, hm⟩ := k2; exact DataW.trod_lt m _ _ _ hm
  obtain ⟨s2, len2, cap2, rfl⟩ := okWide_slice Try.underlying37 (hval 2 37 v2 rfl rfl)
  obtain ⟨l2, row2, wf2, sh2⟩ := open_row Try.underlying37 Try.underlying3 cells3 h2
  have rc2 := row_reach hsz (j := 2) (t := 37) rfl rfl Try.underlying37 sh2
  rw [bytes3] at rc2
  clear hA0 hval0
  refine (walk_IndexNot a0 (.slice s1 len1 cap1) l1 (.slice s2 len2 cap2) l2 W b0.1 b0.2 row1 (fun x hx => bounds_i64 (wf1 x hx)) rc1 row2 (fun x hx => bounds_i64 (wf2 x hx)) rc2).mono fun e W' ⟨he, bel⟩ => ?_
  subst he
  exact ⟨_, rfl, _, _, _, [], _, [], hW', trodAll_mk1 (shut_bool Try.underlying4 _), (trodAll_cons_mk (Below.trod laidOut (by kernel_rfl) (of_decide_eq_true (by kernel_rfl)) k0 bel lt0) (trodAll_cons_mk (Below.trod laidOut (by kernel_rfl) (of_decide_eq_true (by kernel_rfl)) k1 bel lt1) (trodAll_cons_mk (Below.trod laidOut (by kernel_rfl) (of_decide_eq_true (by kernel_rfl)) k2 bel lt2) trodAll_mk0))), rfl, bel.frame _, fun h => by cases h⟩

theorem proved_IndexNot : Rows.IndexNotSaid :=
  OpenClaim.holds_of_wide 8 Try.f8 rfl rfl rfl rfl rfl rfl rfl ⟨rfl, rfl, rfl, rfl, rfl⟩ rfl rfl rfl rfl rfl (by kernel_rfl) Try.func8 (by kernel_rfl)
    (of_decide_eq_true (by kernel_rfl)) (by unfold Func.isWrapper; first | (rw [if_pos (by decide +kernel)]; kernel_rfl) | (rw [if_neg (by decide +kernel)]; exact ⟨rfl, rfl⟩))
    (fun os started H enc _ => lifted_IndexNot os started H enc)
#print axioms proved_IndexNot
end Go.Proofs.Ytlghnnmgbdjgoaa
