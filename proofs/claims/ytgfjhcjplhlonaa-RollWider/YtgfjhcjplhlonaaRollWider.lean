/- RollWider holds: at all windows and widths the law answers true and changes nothing that was there. -/
import Derived.Test.YtgfjhcjplhlonaaRefWe
import Derived.Test.YtgfjhcjplhlonaaRefFw
import Derived.Test.YtgfjhcjplhlonaaRefBe
namespace Go.Proofs.Ytgfjhcjplhlonaa
open Go.ChangeShapes Go.WideShapes Go.ChangeAt Go.RowKit
set_option linter.unusedVariables false
theorem rwider_bad (v u : Value) (l m : List P.Wn) (wd : Int) (w : World) (hr : RowW w v l) (hr2 : RowW w u m) (hc : P.chkW l ≠ 0) :
    Calls Try.prog 8 #[v, u, .int .i64 wd] w fun e w' => e = .returned (.bool true) ∧ Below w.heap.size w w' := by
  have HA := hide (again_any v l wd w hr)
  have HJ := hide (fun (w' : World) (hb : Below w.heap.size w w') => join_any v u l m w' (hr.below hb (Nat.le_refl _)) (hr2.below hb (Nat.le_refl _)))
  have HF := hide (fun (w' : World) (hb : Below w.heap.size w w') => windowsFault_any v l w' (hr.below hb (Nat.le_refl _)))
  have HC := hide (fun (w' : World) (hb : Below w.heap.size w w') => checkW_any v l w' (hr.below hb (Nat.le_refl _)))
  have h1 : P.agerr l wd = P.chkW l := by unfold P.agerr; rw [if_pos hc]
  have h2 : P.agout l wd = [] := by unfold P.agout; rw [h1, if_neg hc]
  rw [h1, h2] at HA
  rw [(P.jerr_1 hc).1, (P.jerr_1 hc).2] at HJ
  obtain ⟨a, cap, rfl⟩ := hr.shp
  obtain ⟨a2, cap2, rfl⟩ := hr2.shp
  have ht : (P.chkW l != 0) = true := by simpa using hc
  have t2 : (P.chkW l == P.chkW l) = true := by simp
  clear hr hr2 hc h1 h2
  generalize P.chkW l = c at *
  go_enter Try.func8, Try.ntmps8
  go_wp2_with fail
  refine HA.out.mono ?_
  rintro e w1 ⟨va, rfl, owna, hb⟩
  obtain ⟨aa, ca, hva⟩ := OwnW.shp owna
  rw [hva]
  clear hva owna
  go_wp2_with fail
  refine (HJ.out _ hb).mono ?_
  rintro e w2 ⟨vj, rfl, ownj, hb2⟩
  obtain ⟨aj, cj, hvj⟩ := OwnW.shp ownj
  rw [hvj]
  replace hb := Below.next hb hb2
  clear hb2 hvj ownj
  go_wp2_with fail
  refine (HF.out _ hb).mono ?_
  rintro e w3 ⟨rfl, hb3⟩
  replace hb := Below.next hb hb3
  clear hb3
  go_wp2_with fail
  refine (HC.out _ hb).mono ?_
  rintro e w4 ⟨rfl, hb4⟩
  replace hb := Below.next hb hb4
  clear hb4
  go_wp2_with fail
  go_ret
  exact ⟨rfl, hb⟩
set_option maxHeartbeats 2000000 in
theorem rwider_bad2 (v u : Value) (l m : List P.Wn) (wd : Int) (w : World) (hr : RowW w v l) (hr2 : RowW w u m) (hc : P.chkW l = 0) (hc2 : P.chkW m ≠ 0) :
    Calls Try.prog 8 #[v, u, .int .i64 wd] w fun e w' => e = .returned (.bool true) ∧ Below w.heap.size w w' := by
  have HA := hide (again_any v l wd w hr)
  have HJ := hide (fun (w' : World) (hb : Below w.heap.size w w') => join_any v u l m w' (hr.below hb (Nat.le_refl _)) (hr2.below hb (Nat.le_refl _)))
  have HF := hide (fun (w' : World) (hb : Below w.heap.size w w') => windowsFault_any v l w' (hr.below hb (Nat.le_refl _)))
  have HF2 := hide (fun (w' : World) (hb : Below w.heap.size w w') => windowsFault_any u m w' (hr2.below hb (Nat.le_refl _)))
  have HC := hide (fun (w' : World) (hb : Below w.heap.size w w') => checkW_any v l w' (hr.below hb (Nat.le_refl _)))
  have hz := P.chkW_zero hc
  have HW := hide (fun (w' : World) (hb : Below w.heap.size w w') => wider_any v l wd w' (hr.below hb (Nat.le_refl _)) hz.1 (fun x hx => (hz.2.1 x hx).1))
  rw [(P.rout_agout hc).1, (P.rout_agout hc).2] at HW
  rw [(P.jerr_2 hc hc2).1, (P.jerr_2 hc hc2).2] at HJ
  rw [hc] at HF HC
  obtain ⟨a, cap, rfl⟩ := hr.shp
  obtain ⟨a2, cap2, rfl⟩ := hr2.shp
  have ht : (P.chkW m != 0) = true := by simpa using hc2
  have t2 : (P.chkW m == P.chkW m) = true := by simp
  have t3 : (P.agerr l wd != P.agerr l wd) = false := by simp
  clear hr hr2 hc hc2 hz
  generalize P.chkW m = c at *
  generalize P.agerr l wd = d at *
  generalize P.agout l wd = A at *
  go_enter Try.func8, Try.ntmps8
  go_wp2_with fail
  refine HA.out.mono ?_
  rintro e w1 ⟨va, rfl, owna, hb⟩
  obtain ⟨aa, ca, hva⟩ := OwnW.shp owna
  rw [hva] at owna ⊢
  clear hva
  go_wp2_with fail
  refine (HJ.out _ hb).mono ?_
  rintro e w2 ⟨vj, rfl, ownj, hb2⟩
  obtain ⟨aj, cj, hvj⟩ := OwnW.shp ownj
  rw [hvj]
  replace owna := OwnX.below owna hb2 (Nat.le_refl _)
  replace hb := Below.next hb hb2
  clear hb2 hvj ownj
  go_wp2_with fail
  refine (HF.out _ hb).mono ?_
  rintro e w3 ⟨rfl, hb3⟩
  replace owna := OwnX.below owna hb3 (Nat.le_refl _)
  replace hb := Below.next hb hb3
  clear hb3
  go_wp2_with fail
  refine (HC.out _ hb).mono ?_
  rintro e w4 ⟨rfl, hb4⟩
  replace owna := OwnX.below owna hb4 (Nat.le_refl _)
  replace hb := Below.next hb hb4
  clear hb4
  go_wp2_with fail
  refine (HW.out _ hb).mono ?_
  rintro e w5 ⟨vb, rfl, ownb, hb5⟩
  obtain ⟨ab, cb, hvb⟩ := OwnW.shp ownb
  rw [hvb] at ownb ⊢
  replace owna := OwnX.below owna hb5 (Nat.le_refl _)
  replace hb := Below.next hb hb5
  clear hb5 hvb
  go_wp2_with fail
  refine (sameWin_self _ _ A _ (OwnW.row owna) (OwnW.row ownb)).mono ?_
  rintro e w6 ⟨rfl, hb6⟩
  replace hb := Below.next hb hb6
  clear hb6 owna ownb
  go_wp2_with fail
  refine (HF2.out _ hb).mono ?_
  rintro e w7 ⟨rfl, hb7⟩
  replace hb := Below.next hb hb7
  clear hb7
  go_wp2_with fail
  go_ret
  exact ⟨rfl, hb⟩
set_option maxHeartbeats 2000000 in
theorem rwider_ok (v u : Value) (l m : List P.Wn) (wd : Int) (w : World) (hr : RowW w v l) (hr2 : RowW w u m) (hc : P.chkW l = 0) (hc2 : P.chkW m = 0) :
    Calls Try.prog 8 #[v, u, .int .i64 wd] w fun e w' => e = .returned (.bool true) ∧ Below w.heap.size w w' := by
  have HA := hide (again_any v l wd w hr)
  have HJ := hide (fun (w' : World) (hb : Below w.heap.size w w') => join_any v u l m w' (hr.below hb (Nat.le_refl _)) (hr2.below hb (Nat.le_refl _)))
  have HF := hide (fun (w' : World) (hb : Below w.heap.size w w') => windowsFault_any v l w' (hr.below hb (Nat.le_refl _)))
  have HF2 := hide (fun (w' : World) (hb : Below w.heap.size w w') => windowsFault_any u m w' (hr2.below hb (Nat.le_refl _)))
  have HC := hide (fun (w' : World) (hb : Below w.heap.size w w') => checkW_any v l w' (hr.below hb (Nat.le_refl _)))
  have HB := hide (fun (w' : World) (hb : Below w.heap.size w w') => beside_any v u l m w' (hr.below hb (Nat.le_refl _)) (hr2.below hb (Nat.le_refl _)) hc hc2)
  have hz := P.chkW_zero hc
  have HW := hide (fun (w' : World) (hb : Below w.heap.size w w') => wider_any v l wd w' (hr.below hb (Nat.le_refl _)) hz.1 (fun x hx => (hz.2.1 x hx).1))
  rw [(P.rout_agout hc).1, (P.rout_agout hc).2] at HW
  rw [hc] at HF HC
  rw [hc2] at HF2
  obtain ⟨a, cap, rfl⟩ := hr.shp
  obtain ⟨a2, cap2, rfl⟩ := hr2.shp
  have t2 : (P.jerr l m == P.jerr l m) = true := by simp
  have t3 : (P.agerr l wd != P.agerr l wd) = false := by simp
  clear hr hr2 hc hc2 hz
  generalize P.agerr l wd = d at *
  generalize P.agout l wd = A at *
  generalize P.jerr l m = c at *
  generalize P.jout l m = J at *
  go_enter Try.func8, Try.ntmps8
  go_wp2_with fail
  refine HA.out.mono ?_
  rintro e w1 ⟨va, rfl, owna, hb⟩
  obtain ⟨aa, ca, hva⟩ := OwnW.shp owna
  rw [hva] at owna ⊢
  clear hva
  go_wp2_with fail
  refine (HJ.out _ hb).mono ?_
  rintro e w2 ⟨vj, rfl, ownj, hb2⟩
  obtain ⟨aj, cj, hvj⟩ := OwnW.shp ownj
  rw [hvj] at ownj ⊢
  replace owna := OwnX.below owna hb2 (Nat.le_refl _)
  replace hb := Below.next hb hb2
  clear hb2 hvj
  go_wp2_with fail
  refine (HF.out _ hb).mono ?_
  rintro e w3 ⟨rfl, hb3⟩
  replace owna := OwnX.below owna hb3 (Nat.le_refl _)
  replace ownj := OwnX.below ownj hb3 (Nat.le_refl _)
  replace hb := Below.next hb hb3
  clear hb3
  go_wp2_with fail
  refine (HC.out _ hb).mono ?_
  rintro e w4 ⟨rfl, hb4⟩
  replace owna := OwnX.below owna hb4 (Nat.le_refl _)
  replace ownj := OwnX.below ownj hb4 (Nat.le_refl _)
  replace hb := Below.next hb hb4
  clear hb4
  go_wp2_with fail
  refine (HW.out _ hb).mono ?_
  rintro e w5 ⟨vb, rfl, ownb, hb5⟩
  obtain ⟨ab, cb, hvb⟩ := OwnW.shp ownb
  rw [hvb] at ownb ⊢
  replace owna := OwnX.below owna hb5 (Nat.le_refl _)
  replace ownj := OwnX.below ownj hb5 (Nat.le_refl _)
  replace hb := Below.next hb hb5
  clear hb5 hvb
  go_wp2_with fail
  refine (sameWin_self _ _ A _ (OwnW.row owna) (OwnW.row ownb)).mono ?_
  rintro e w6 ⟨rfl, hb6⟩
  replace ownj := OwnX.below ownj hb6 (Nat.le_refl _)
  replace hb := Below.next hb hb6
  clear hb6 owna ownb
  go_wp2_with fail
  refine (HF2.out _ hb).mono ?_
  rintro e w7 ⟨rfl, hb7⟩
  replace ownj := OwnX.below ownj hb7 (Nat.le_refl _)
  replace hb := Below.next hb hb7
  clear hb7
  go_wp2_with fail
  refine (HB.out _ hb).mono ?_
  rintro e w8 ⟨vk, rfl, ownk, hb8⟩
  obtain ⟨ak, ck, hvk⟩ := OwnW.shp ownk
  rw [hvk] at ownk ⊢
  replace ownj := OwnX.below ownj hb8 (Nat.le_refl _)
  replace hb := Below.next hb hb8
  clear hb8 hvk
  go_wp2_with fail
  refine (sameWin_self _ _ J _ (OwnW.row ownj) (OwnW.row ownk)).mono ?_
  rintro e w9 ⟨rfl, hb9⟩
  go_wp2_with fail
  go_ret
  exact ⟨rfl, Below.next hb hb9⟩
theorem walk_RollWider (v : Value) (l : List P.Wn) (u : Value) (m : List P.Wn) (wd : Int) (w : World) (hr : RowW w v l) (_ : W64s l) (_ : l.length * 56 ≤ 140737488351232) (hr2 : RowW w u m) (_ : W64s m) (_ : m.length * 56 ≤ 140737488351232) (_ : -9223372036854775808 ≤ wd) (_ : wd ≤ 9223372036854775807) :
    Calls Try.prog 8 #[v, u, .int .i64 wd] w fun e w' => e = .returned (.bool true) ∧ Below w.heap.size w w' := by
  by_cases hc : P.chkW l = 0
  · by_cases hc2 : P.chkW m = 0
    · exact rwider_ok v u l m wd w hr hr2 hc hc2
    · exact rwider_bad2 v u l m wd w hr hr2 hc hc2
  · exact rwider_bad v u l m wd w hr hr2 hc

set_option maxRecDepth 100000 in
theorem lifted_RollWider (os : Os) (started : os.Started) (H : Type) (enc : TypeId × Value → H) :
    ReturnsInHanded {} Try.checked os 8 .any (Rows.rollWiderSpec.pre6 enc Try.prog Try.f8 Rows.rollWiderRow.domain false) (Rows.rollWiderSpec.post enc Try.prog Try.f8 false true false false) := by
  refine returnsInHanded_of_change_sized (C := Try.checked) own started (by kernel_rfl) Try.func8
    (ChangeSpec.witness6 (enc := enc) (C := Try.checked) false ⟨#[], #[.slice none 0 0, .slice none 0 0, .int .i64 0], []⟩ 8 (by kernel_rfl) (by kernel_rfl) (by kernel_rfl) (by kernel_rfl)) ?_
  intro W base args ds gs before hval0 hW hcnd hsz0  _
  have hsz : (DataW.weightsEach Try.prog (Try.f8.params.toList ++ Rows.rollWiderSpec.plain.varTypes Try.prog) (ds ++ gs)).all (· ≤ reachBytes) = true := hsz0
  have hval : ∀ (j : Nat) t v, Try.f8.params[j]? = some t → args[j]? = some v → Value.okWide Try.prog W .any base t v := hval0
  have hW' := hW
  obtain ⟨p, q, hA0, hV, rfl, hfz, hnd⟩ := hW
  have hA : DataW.TrodAll enc Try.prog W 0 (fun _ => true) true Try.f8.params.toList args.toList ds p := hA0
  rw [Try.params8] at hA hval hsz
  obtain ⟨v0, vs0, d0, ds0, p0, q0, hargs, rfl, rfl, h0, r0⟩ := trodAll_cons hA
  obtain ⟨v1, vs1, d1, ds1, p1, q1, rfl, rfl, rfl, h1, r1⟩ := trodAll_cons r0
  obtain ⟨v2, vs2, d2, ds2, p2, q2, rfl, rfl, rfl, h2, r2⟩ := trodAll_cons r1
  obtain ⟨rfl, rfl, rfl⟩ := trodAll_nil r2
  obtain rfl : args = #[v0, v1, v2] := by cases args; simp_all
  obtain ⟨rfl, rfl⟩ := trodVars_none hV
  have k0 := h0
  have lt0 : ∀ x ∈ p0, x.block < W.heap.size := by obtain ⟨m, hm⟩ := k0; exact DataW.trod_lt m _ _ _ hm
  obtain ⟨s0, len0, cap0, rfl⟩ := okWide_slice Try.underlying23 (hval 0 23 v0 rfl rfl)
  obtain ⟨l0, row0, wf0, sh0⟩ := open_windows h0
  have rc0 := row_reachN hsz (j := 0) (t := 23) rfl rfl Try.underlying23 sh0
  rw [bytes34] at rc0
  have k1 := h1
  have lt1 : ∀ x ∈ p1, x.block < W.heap.size := by obtain ⟨m, hm⟩ := k1; exact DataW.trod_lt m _ _ _ hm
  obtain ⟨s1, len1, cap1, rfl⟩ := okWide_slice Try.underlying23 (hval 1 23 v1 rfl rfl)
  obtain ⟨l1, row1, wf1, sh1⟩ := open_windows h1
  have rc1 := row_reachN hsz (j := 1) (t := 23) rfl rfl Try.underlying23 sh1
  rw [bytes34] at rc1
  have k2 := h2
  have lt2 : ∀ x ∈ p2, x.block < W.heap.size := by obtain ⟨m, hm⟩ := k2; exact DataW.trod_lt m _ _ _ hm
  obtain ⟨a2, rfl, rfl, rfl, w2⟩ := open_int Try.underlying2 (hval 2 2 v2 rfl rfl) h2
  have b2 := bounds_i64 w2
  clear hA0 hval0
  refine (walk_RollWider (.slice s0 len0 cap0) l0 (.slice s1 len1 cap1) l1 a2 W row0 wf0 rc0 row1 wf1 rc1 b2.1 b2.2).mono fun e W' ⟨he, bel⟩ => ?_
  subst he
  exact ⟨_, rfl, _, _, _, [], _, [], hW', trodAll_mk1 (shut_bool Try.underlying4 _), (trodAll_cons_mk (Below.trod laidOut (by kernel_rfl) (of_decide_eq_true (by kernel_rfl)) k0 bel lt0) (trodAll_cons_mk (Below.trod laidOut (by kernel_rfl) (of_decide_eq_true (by kernel_rfl)) k1 bel lt1) (trodAll_cons_mk (Below.trod laidOut (by kernel_rfl) (of_decide_eq_true (by kernel_rfl)) k2 bel lt2) trodAll_mk0))), rfl, bel.frame _, fun h => by cases h⟩

theorem proved_RollWider : Rows.RollWiderSaid :=
  OpenClaim.holds_of_wide 8 Try.f8 rfl rfl rfl rfl rfl rfl rfl ⟨rfl, rfl, rfl, rfl, rfl⟩ rfl rfl rfl rfl rfl (by kernel_rfl) Try.func8 (by kernel_rfl)
    (of_decide_eq_true (by kernel_rfl)) (by unfold Func.isWrapper; first | (rw [if_pos (by decide +kernel)]; kernel_rfl) | (rw [if_neg (by decide +kernel)]; exact ⟨rfl, rfl⟩))
    (fun os started H enc _ => lifted_RollWider os started H enc)
#print axioms proved_RollWider

end Go.Proofs.Ytgfjhcjplhlonaa
