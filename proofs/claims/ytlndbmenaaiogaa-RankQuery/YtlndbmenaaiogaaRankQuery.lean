/- RankQuery holds: at all inputs the law answers true and changes nothing that was there. -/
import Derived.Test.YtlndbmenaaiogaaRankT
import Derived.Test.YtlndbmenaaiogaaRankQ
namespace Go.Proofs.Ytlndbmenaaiogaa
open Go.ChangeShapes Go.WideShapes Go.ChangeAt Go.RowKit
set_option linter.unusedVariables false
set_option maxHeartbeats 1000000 in
theorem walk_RankQuery (k : Int) (v : Value) (l : List Int) (r : Int) (w : World) (_ : -9223372036854775808 ≤ k) (_ : k ≤ 9223372036854775807) (hr : RowK .i64 w v l) (_ : ∀ z ∈ l, -9223372036854775808 ≤ z ∧ z ≤ 9223372036854775807) (hln : l.length * 8 ≤ 140737488351232) (hr0 : -9223372036854775808 ≤ r) (hr1 : r ≤ 9223372036854775807) :
    Calls Try.prog 7 #[.int .i64 k, v, .int .i64 r] w fun e w' => e = .returned (.bool true) ∧ Below w.heap.size w w' := by
  have HKs := hide (fun wx (hb : Below w.heap.size w wx) => ranked_any k v l wx (hr.below hb (Nat.le_refl _)))
  have HRw := hide (fun wx (hb : Below w.heap.size w wx) => hr.below hb (Nat.le_refl _))
  have hlmax : (l.length : Int) ≤ 9223372036854775807 := by omega
  obtain ⟨av, cv, rfl⟩ : ∃ a c, v = .slice a l.length c := by obtain ⟨a, c, h, _⟩ := hr; exact ⟨a, c, h⟩
  clear hr
  go_enter Try.func7, Try.ntmps7
  go_wp2_with (go_at_call 22; go_must (refine (ranks_any _).mono ?_); rintro e w1 ⟨rfl, hb1⟩)
  refine (HKs.out _ hb1).mono ?_
  rintro e w2 ⟨tv, lv, S, ok, rfl, own2, p2, p3, hb2⟩
  obtain ⟨⟨xt, yt, rfl⟩, xl, yl, rfl⟩ := own2.shapes
  have HB2 := hide (Below.next hb1 hb2)
  clear hb1 hb2
  cases ok with
  | false =>
    have hbd := p3 rfl
    clear p2 p3 own2 HKs
    by_cases k1 : k < 2
    · go_wp2
      go_ret
      exact ⟨rfl, HB2.out.alloc HB2.out.size _⟩
    · have d1 : decide (k < 2) = false := by simpa using k1
      by_cases k2 : 64 < k
      · go_wp2
        go_ret
        exact ⟨rfl, HB2.out.alloc HB2.out.size _⟩
      · have d2 : decide (64 < k) = false := by simpa using k2
        have d3 : decide (1000 < (l.length : Int)) = true := by simp; omega
        have d4 : (1000 : Int) < (l.length : Int) := by omega
        clear hbd k1 k2
        go_wp2
        go_ret
        exact ⟨rfl, HB2.out.alloc HB2.out.size _⟩
  | true =>
    obtain ⟨q1, q2, q3⟩ := p2 rfl
    clear p2 p3 HKs
    have X1 := BoxR.new w2 (.slice xt S.tail.length yt) (.slice xl S.lv.length yl) S
    have X2 : OwnV (w2.alloc (.cells #[.int .i64 S.k, .slice xt S.tail.length yt, .slice xl S.lv.length yl, .int .i64 S.n, .int .i64 S.sl] 25)) 0 (.slice xt S.tail.length yt) (.slice xl S.lv.length yl) S := own2.below ((Below.refl w2.heap.size w2).alloc (Nat.le_refl _) _) (Nat.le_refl _)
    have HB3 : Hid (Below w.heap.size w (w2.alloc (.cells #[.int .i64 S.k, .slice xt S.tail.length yt, .slice xl S.lv.length yl, .int .i64 S.n, .int .i64 S.sl] 25))) := HB2.out.alloc HB2.out.size _
    have HX1 := hide X1
    have HV := hide X2.read
    clear X1 X2 own2
    have HQ := hide (Query_any _ _ S r _ HV.out)
    have HZ := hide (fun h => P.qE_zero (s := S) (r := r) h)
    have HO := hide (fun h1 h2 => P.qE_ok (s := S) (r := r) q2 h1 h2)
    have HU := hide (fun x wx (hb : Below w.heap.size w wx) => upTo_any _ l x wx (HRw.out wx hb))
    have HCt := hide (fun x wx (hb : Below w.heap.size w wx) hx => contains_yes _ l x wx (HRw.out wx hb) hx)
    have HQ3 := hide q3
    have HQ2 := hide q2
    have HNn := hide q3.n
    have hsl0 := q2.1.sl
    have hsl1 := q2.2.2
    have hnum := q2.num
    have hk64 := q2.1.k64
    obtain ⟨c0, c1, c2, c3, c4⟩ := HX1.out.cells
    clear q1 q2 q3 HRw HV
    generalize P.qE S r = e1 at *
    go_wp2_with fail
    generalize (w2.alloc (.cells #[.int .i64 S.k, .slice xt S.tail.length yt, .slice xl S.lv.length yl, .int .i64 S.n, .int .i64 S.sl] 25)) = W at *
    refine HQ.out.mono ?_
    rintro e w4 ⟨x, rfl, hx0, hxq, hb4⟩
    have d4 := keep_cell c4 hb4
    have HB4 := hide (Below.next HB3.out hb4)
    clear c0 c1 c2 c3 c4 hb4 HQ
    by_cases he : e1 = 0
    · obtain ⟨_, hr2, hr3⟩ := HZ.out he
      have hq := hxq he
      have hxl : x ∈ l := HQ3.out.sub x hq.1
      have hwt := HQ3.out.wt x
      have hn := HNn.out
      have hbe := hq.below hr2 (z := x - 1) (by omega)
      have hwb := HQ3.out.wt (x - 1)
      have hq2 := hq.2.1
      have HUx := hide (fun wx hb => HU.out x wx hb)
      have HCx := hide (fun wx hb => HCt.out x wx hb hxl)
      have hd : (e1 != 0) = false := by rw [bne_eq_false_iff_eq]; exact he
      have a1 : r ≤ (P.na x l : Int) := by omega
      have a2 : (P.na (x - 1) l : Int) < r + S.sl := by omega
      have a3 : r + S.sl ≤ 9223372036854775807 := by omega
      have a4 : (0 : Int) ≤ r + S.sl := by omega
      clear hn he hx0 hxq hq hxl hwt hbe hwb hq2 HU HCt HZ HO
      generalize P.na x l = n at *
      generalize P.na (x - 1) l = m at *
      go_wp2_with (first
        | (go_at_call 24; go_must (refine (HUx.out _ HB4.out).mono ?_); rintro e w5 ⟨rfl, rfl⟩)
        | (go_at_call 25; go_must (refine (HCx.out _ HB4.out).mono ?_); rintro e w6 ⟨rfl, rfl⟩))
      go_ret
      exact ⟨rfl, HB4.out⟩
    · have hd : (e1 != 0) = true := by rw [bne_iff_ne]; exact he
      obtain rfl := hx0 he
      have hrr : r < 1 ∨ (l.length : Int) < r := Classical.byContradiction fun hc => he (HO.out (by omega) (by have := HNn.out; omega))
      clear he hx0 hxq HU HCt HZ HO
      by_cases hr2 : r < 1
      · go_wp2
        go_ret
        exact ⟨rfl, HB4.out⟩
      · have d1 : decide (r < 1) = false := by simpa using hr2
        have d2 : (l.length : Int) < r := by omega
        clear hrr hr2
        go_wp2
        go_ret
        exact ⟨rfl, HB4.out⟩

set_option maxRecDepth 100000 in
theorem lifted_RankQuery (os : Os) (started : os.Started) (H : Type) (enc : TypeId × Value → H) :
    ReturnsInHanded {} Try.checked os 7 .any (Rows.rankQuerySpec.pre6 enc Try.prog Try.f7 Rows.rankQueryRow.domain false) (Rows.rankQuerySpec.post enc Try.prog Try.f7 false true false false) := by
  refine returnsInHanded_of_change_sized (C := Try.checked) own started (by kernel_rfl) Try.func7
    (ChangeSpec.witness6 (enc := enc) (C := Try.checked) false ⟨#[], #[.int .i64 0, .slice none 0 0, .int .i64 0], []⟩ 8 (by kernel_rfl) (by kernel_rfl) (by kernel_rfl) (by kernel_rfl)) ?_
  intro W base args ds gs before hval0 hW hcnd hsz0  _
  have hsz : (DataW.weightsEach Try.prog (Try.f7.params.toList ++ Rows.rankQuerySpec.plain.varTypes Try.prog) (ds ++ gs)).all (· ≤ reachBytes) = true := hsz0
  have hval : ∀ (j : Nat) t v, Try.f7.params[j]? = some t → args[j]? = some v → Value.okWide Try.prog W .any base t v := hval0
  have hW' := hW
  obtain ⟨p, q, hA0, hV, rfl, hfz, hnd⟩ := hW
  have hA : DataW.TrodAll enc Try.prog W 0 (fun _ => true) true Try.f7.params.toList args.toList ds p := hA0
  rw [Try.params7] at hA hval hsz
  obtain ⟨v0, vs0, d0, ds0, p0, q0, hargs, rfl, rfl, h0, r0⟩ := trodAll_cons hA
  obtain ⟨v1, vs1, d1, ds1, p1, q1, rfl, rfl, rfl, h1, r1⟩ := trodAll_cons r0
  obtain ⟨v2, vs2, d2, ds2, p2, q2, rfl, rfl, rfl, h2, r2⟩ := trodAll_cons r1
  obtain ⟨rfl, rfl, rfl⟩ := trodAll_nil r2
  obtain rfl : args = #[v0, v1, v2] := by cases args; simp_all
  obtain ⟨rfl, rfl⟩ := trodVars_none hV
  have k0 := h0
  have lt0 : ∀ x ∈ p0, x.block < W.heap.size := by obtain ⟨m, hm⟩ := k0; exact DataW.trod_lt m _ _ _ hm
  obtain ⟨a0, rfl, rfl, rfl, w0⟩ := open_int Try.underlying3 (hval 0 3 v0 rfl rfl) h0
  have b0 := bounds_i64 w0
  have k1 := h1
  have lt1 : ∀ x ∈ p1, x.block < W.heap.size := by obtain ⟨m, hm⟩ := k1; exact DataW.trod_lt m _ _ _ hm
  obtain ⟨s1, len1, cap1, rfl⟩ := okWide_slice Try.underlying22 (hval 1 22 v1 rfl rfl)
  obtain ⟨l1, row1, wf1, sh1⟩ := open_row Try.underlying22 Try.underlying2 cells2 h1
  have rc1 := row_reach hsz (j := 1) (t := 22) rfl rfl Try.underlying22 sh1
  rw [bytes2] at rc1
  have k2 := h2
  have lt2 : ∀ x ∈ p2, x.block < W.heap.size := by obtain ⟨m, hm⟩ := k2; exact DataW.trod_lt m _ _ _ hm
  obtain ⟨a2, rfl, rfl, rfl, w2⟩ := open_int Try.underlying2 (hval 2 2 v2 rfl rfl) h2
  have b2 := bounds_i64 w2
  clear hA0 hval0
  refine (walk_RankQuery a0 (.slice s1 len1 cap1) l1 a2 W b0.1 b0.2 row1 (fun x hx => bounds_i64 (wf1 x hx)) rc1 b2.1 b2.2).mono fun e W' ⟨he, bel⟩ => ?_
  subst he
  exact ⟨_, rfl, _, _, _, [], _, [], hW', trodAll_mk1 (shut_bool Try.underlying4 _), (trodAll_cons_mk (Below.trod laidOut (by kernel_rfl) (of_decide_eq_true (by kernel_rfl)) k0 bel lt0) (trodAll_cons_mk (Below.trod laidOut (by kernel_rfl) (of_decide_eq_true (by kernel_rfl)) k1 bel lt1) (trodAll_cons_mk (Below.trod laidOut (by kernel_rfl) (of_decide_eq_true (by kernel_rfl)) k2 bel lt2) trodAll_mk0))), rfl, bel.frame _, fun h => by cases h⟩

theorem proved_RankQuery : Rows.RankQuerySaid :=
  OpenClaim.holds_of_wide 7 Try.f7 rfl rfl rfl rfl rfl rfl rfl ⟨rfl, rfl, rfl, rfl, rfl⟩ rfl rfl rfl rfl rfl (by kernel_rfl) Try.func7 (by kernel_rfl)
    (of_decide_eq_true (by kernel_rfl)) (by unfold Func.isWrapper; first | (rw [if_pos (by decide +kernel)]; kernel_rfl) | (rw [if_neg (by decide +kernel)]; exact ⟨rfl, rfl⟩))
    (fun os started H enc _ => lifted_RankQuery os started H enc)
#print axioms proved_RankQuery
end Go.Proofs.Ytlndbmenaaiogaa
