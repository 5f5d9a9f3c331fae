/- HashOne holds: at every seed, all bytes, every place and byte the law answers true and changes nothing that was there. No conditions. -/
import Derived.Test.YtpcgcmbidfjgpaaHlive
import Derived.Test.YtpcgcmbidfjgpaaEq
namespace Go.Proofs.Ytpcgcmbidfjgpaa
open Go.ChangeShapes Go.WideShapes Go.ChangeAt Go.RowKit
set_option linter.unusedVariables false
/-- A byte of a row of the call's own is written. -/
theorem OwnB.set {w : World} {base g n cap i : Nat} {l : List Int} (h : OwnB w base (.slice (some ⟨g, 0, none⟩) n cap) l) (x : Int) :
    OwnB (w.setCell ⟨g, i, none⟩ (.int .u8 x)) base (.slice (some ⟨g, 0, none⟩) n cap) (l.set i x) := by
  obtain ⟨h1, h2⟩ := h
  rcases h2 with ⟨hv, _⟩ | ⟨g', cap', cur, hv, hb, hg, hn, hm, hs, ht⟩
  · cases hv
  · simp only [Value.slice.injEq, Option.some.injEq, Addr.mk.injEq, and_true] at hv
    obtain ⟨hgg, rfl, rfl⟩ := hv
    subst hgg
    refine ⟨by simp, .inr ⟨g, cap, cur.setIfInBounds i (.int .u8 x), by simp, hb, heap_setCell_same w g _ _ _ _ hg, by simpa using hn, hm, by simpa using hs, ?_⟩⟩
    rw [Array.toList_setIfInBounds, List.length_set, List.take_set, ht, List.map_set]
/-- A row of the call's own that is not empty: where it lies, and that it may be written. -/
theorem OwnB.place {w : World} {base : Nat} {v : Value} {l : List Int} (h : OwnB w base v l) (hl : 0 < l.length) :
    ∃ g cap, v = .slice (some ⟨g, 0, none⟩) l.length cap ∧ base ≤ g ∧ l.length ≤ cap ∧ cap ≤ maxLen ∧ (∀ j, w.frozen? ⟨g, j, none⟩ = false) ∧ ∀ j, j < l.length → w.cell? ⟨g, j, none⟩ = some (.int .u8 (l.getD j 0)) := by
  obtain ⟨a, cap, hv, ⟨hc1, hc2, _⟩, hcase⟩ := h.row
  obtain ⟨h1, h2⟩ := h
  rcases h2 with ⟨_, h0⟩ | ⟨g, cap', cur, hv', hb, hg, _⟩
  · omega
  · rw [hv'] at hv
    simp only [Value.slice.injEq] at hv
    obtain ⟨ha, _, rfl⟩ := hv
    refine ⟨g, cap', hv', hb, hc1, hc2, fun j => by simp [World.frozen?, hg], fun j hj => ?_⟩
    rcases hcase with h | ⟨b, off, he, _, hc⟩
    · rw [h] at hj; simp at hj
    · rw [← ha] at he
      simp only [Option.some.injEq, Addr.mk.injEq, and_true] at he
      obtain ⟨rfl, rfl⟩ := he
      simpa using hc j hj
theorem one_idle (s : Int) (v : Value) (l : List Int) (a3 c : Int) (w : World) (hr : RowB w v l) (h : a3 < 0 ∨ (l.length : Int) ≤ a3) :
    Calls Try.prog 6 #[.int .u64 s, v, .int .i64 a3, .int .u8 c] w fun e w' => e = .returned (.bool true) ∧ Below w.heap.size w w' := by
  have HL := hide hashes_any
  obtain ⟨a, cap, rfl, _⟩ := hr
  by_cases c1 : a3 < 0
  · clear h
    go_enter Try.func6, Try.ntmps6
    go_wp2_with (go_at_call 12; refine (HL.out _).mono ?_; rintro e w' ⟨rfl, rfl⟩)
    go_ret
    exact ⟨rfl, Below.refl _ _⟩
  · have c2 : (l.length : Int) ≤ a3 := by omega
    have d1 : decide (a3 < 0) = false := by simp; omega
    clear h c1
    go_enter Try.func6, Try.ntmps6
    go_wp2_with (go_at_call 12; refine (HL.out _).mono ?_; rintro e w' ⟨rfl, rfl⟩)
    go_ret
    exact ⟨rfl, Below.refl _ _⟩
set_option maxHeartbeats 1000000 in
theorem one_in (s : Nat) (v : Value) (l : List Int) (p : Nat) (c : Int) (w : World) (hs : s < 18446744073709551616) (hr : RowB w v l) (hbt : Byt l) (hlen : l.length ≤ 140737488351232) (hp : p < l.length) (c0 : 0 ≤ c) (c1 : c ≤ 255) :
    Calls Try.prog 6 #[.int .u64 s, v, .int .i64 p, .int .u8 c] w fun e w' => e = .returned (.bool true) ∧ Below w.heap.size w w' := by
  have HL := hide hashes_any
  have HO := hide hr
  obtain ⟨a, cap, rfl, ⟨hlc, hmax, _⟩, hcase⟩ := hr
  unfold maxLen at hmax
  rcases hcase with h | ⟨b, off, rfl, hbs, hcell⟩
  · rw [h] at hp; simp at hp
  have hc := hcell p hp
  have hb := hbt.at p
  have d1 : decide ((p : Int) < 0) = false := by simp
  have d2 : decide ((l.length : Int) ≤ (p : Int)) = false := by simp; omega
  by_cases he : l.getD p 0 = c
  · have hq : (l.getD p 0 == c) = true := beq_iff_eq.2 he
    have HE := hide he
    generalize l.getD p 0 = d at hc hb hq HE
    clear he hcell
    go_enter Try.func6, Try.ntmps6
    go_wp2_with (go_at_call 12; refine (HL.out _).mono ?_; rintro e w' ⟨rfl, rfl⟩)
    go_ret
    exact ⟨rfl, Below.refl _ _⟩
  · have hq : (l.getD p 0 == c) = false := beq_eq_false_iff_ne.2 he
    have HN := hide (P.hof_one s l p c hp c0 (by omega) hb.1 (by omega) he)
    have hbt' : Byt (l.set p c) := fun x hx => by
      rcases List.mem_or_eq_of_mem_set hx with h | rfl
      · exact hbt x h
      · omega
    have HB := hide hbt
    have HB' := hide hbt'
    have HC := hide (fun w hr => clone_any (.slice (some ⟨b, off, none⟩) l.length cap) l w hr (by omega))
    have hx1 := P.hof_lt s l
    have hx2 := P.hof_lt s (l.set p c)
    have HF1 := hide (fun w hr => of_any s (.slice (some ⟨b, off, none⟩) l.length cap) l w hs hr hbt)
    have HF2 := hide (fun v w hr => of_any s v (l.set p c) w hs hr hbt')
    have hn : ((P.hof s l : Int) != (P.hof s (l.set p c) : Int)) = true := by
      rw [bne_iff_ne]
      have := HN.out
      omega
    generalize l.getD p 0 = d at hc hb hq
    generalize P.hof s l = x1 at hx1 HF1 hn
    generalize P.hof s (l.set p c) = x2 at hx2 HF2 hn
    clear he hcell hbt' hbt HN
    go_enter Try.func6, Try.ntmps6
    go_wp2_with (go_at_call 12; refine (HL.out _).mono ?_; rintro e w' ⟨rfl, rfl⟩)
    refine (HC.out _ HO.out).mono ?_
    rintro e w2 ⟨v', rfl, hown, hbel⟩
    obtain ⟨g, cap', rfl, hgb, hgc, hgm, hfz, hce⟩ := hown.place (by omega)
    have hfp := hfz p
    have hcp := hce p hp
    have hown' := OwnB.set (i := p) hown c
    have hbel' := Below.setCell hbel (p := ⟨g, p, none⟩) hgb (.int .u8 c)
    have HO2 := hide (HO.out.below hbel' (Nat.le_refl _))
    have HO3 := hide hown'.row
    have HBL := hide hbel'
    clear hce hfz hown hown' hbel' HO
    go_wp2_with fail
    generalize w2.setCell { block := g, off := p } (Value.int IntKind.u8 c) = w3 at HO2 HO3 HBL ⊢
    refine (HF1.out _ HO2.out).mono ?_
    rintro e w4 ⟨rfl, rfl⟩
    go_wp2_with fail
    refine (HF2.out _ _ HO3.out).mono ?_
    rintro e w5 ⟨rfl, rfl⟩
    go_wp2
    go_ret
    exact ⟨rfl, HBL.out⟩
theorem walk_HashOne (a0 : Int) (v : Value) (l : List Int) (a2 a3 : Int) (w : World) (h0 : 0 ≤ a0) (h0' : a0 ≤ 18446744073709551615) (hr : RowB w v l) (hbt : Byt l) (hlen : l.length ≤ 140737488351232)
    (h2 : -9223372036854775808 ≤ a2) (h2' : a2 ≤ 9223372036854775807) (h3 : 0 ≤ a3) (h3' : a3 ≤ 255) :
    Calls Try.prog 6 #[.int .u64 a0, v, .int .i64 a2, .int .u8 a3] w fun e w' => e = .returned (.bool true) ∧ Below w.heap.size w w' := by
  by_cases h : a2 < 0 ∨ (l.length : Int) ≤ a2
  · exact one_idle a0 v l a2 a3 w hr h
  · obtain ⟨n, rfl⟩ := Int.eq_ofNat_of_zero_le h0
    obtain ⟨p, rfl⟩ := Int.eq_ofNat_of_zero_le (show 0 ≤ a2 by omega)
    exact one_in n v l p a3 w (by omega) hr hbt hlen (by omega) h3 h3'
set_option maxRecDepth 100000 in
theorem lifted_HashOne (os : Os) (started : os.Started) (H : Type) (enc : TypeId × Value → H) :
    ReturnsInHanded {} Try.checked os 6 .any (Rows.hashOneSpec.pre6 enc Try.prog Try.f6 Rows.hashOneRow.domain false) (Rows.hashOneSpec.post enc Try.prog Try.f6 false true false false) := by
  refine returnsInHanded_of_change_sized (C := Try.checked) own started (by kernel_rfl) Try.func6
    (ChangeSpec.witness6 (enc := enc) (C := Try.checked) false ⟨#[], #[.int .u64 0, .slice none 0 0, .int .i64 0, .int .u8 0], []⟩ 8 (by kernel_rfl) (by kernel_rfl) (by kernel_rfl) (by kernel_rfl)) ?_
  intro W base args ds gs before hval0 hW hcnd hsz0 _
  have hsz : (DataW.weightsEach Try.prog (Try.f6.params.toList ++ Rows.hashOneSpec.plain.varTypes Try.prog) (ds ++ gs)).all (· ≤ reachBytes) = true := hsz0
  have hval : ∀ (j : Nat) t v, Try.f6.params[j]? = some t → args[j]? = some v → Value.okWide Try.prog W .any base t v := hval0
  have hW' := hW
  obtain ⟨p, q, hA0, hV, rfl, hfz, hnd⟩ := hW
  have hA : DataW.TrodAll enc Try.prog W 0 (fun _ => true) true Try.f6.params.toList args.toList ds p := hA0
  rw [Try.params6] at hA hval hsz
  obtain ⟨v0, vs0, d0, ds0, p0, q0, hargs, rfl, rfl, h0, r0⟩ := trodAll_cons hA
  obtain ⟨v1, vs1, d1, ds1, p1, q1, rfl, rfl, rfl, h1, r1⟩ := trodAll_cons r0
  obtain ⟨v2, vs2, d2, ds2, p2, q2, rfl, rfl, rfl, h2, r2⟩ := trodAll_cons r1
  obtain ⟨v3, vs3, d3, ds3, p3, q3, rfl, rfl, rfl, h3, r3⟩ := trodAll_cons r2
  obtain ⟨rfl, rfl, rfl⟩ := trodAll_nil r3
  obtain rfl : args = #[v0, v1, v2, v3] := by cases args; simp_all
  obtain ⟨rfl, rfl⟩ := trodVars_none hV
  have k0 := h0
  have lt0 : ∀ x ∈ p0, x.block < W.heap.size := by obtain ⟨m, hm⟩ := k0; exact DataW.trod_lt m _ _ _ hm
  obtain ⟨a0, rfl, rfl, rfl, w0⟩ := open_int Try.underlying22 (hval 0 22 v0 rfl rfl) h0
  have b0 := bounds_u64 w0
  have k1 := h1
  have lt1 : ∀ x ∈ p1, x.block < W.heap.size := by obtain ⟨m, hm⟩ := k1; exact DataW.trod_lt m _ _ _ hm
  obtain ⟨s1, len1, cap1, rfl⟩ := okWide_slice Try.underlying23 (hval 1 23 v1 rfl rfl)
  obtain ⟨l1, row1, wf1, sh1⟩ := open_row Try.underlying23 Try.underlying5 cells5 h1
  have rc1 := row_reach hsz (j := 1) (t := 23) rfl rfl Try.underlying23 sh1
  rw [bytes5, Nat.mul_one] at rc1
  have k2 := h2
  have lt2 : ∀ x ∈ p2, x.block < W.heap.size := by obtain ⟨m, hm⟩ := k2; exact DataW.trod_lt m _ _ _ hm
  obtain ⟨a2, rfl, rfl, rfl, w2⟩ := open_int Try.underlying3 (hval 2 3 v2 rfl rfl) h2
  have b2 := bounds_i64 w2
  have k3 := h3
  have lt3 : ∀ x ∈ p3, x.block < W.heap.size := by obtain ⟨m, hm⟩ := k3; exact DataW.trod_lt m _ _ _ hm
  obtain ⟨a3, rfl, rfl, rfl, w3⟩ := open_int Try.underlying5 (hval 3 5 v3 rfl rfl) h3
  have b3 := bounds_u8 w3
  clear hA0 hval0
  refine (walk_HashOne a0 (.slice s1 len1 cap1) l1 a2 a3 W b0.1 b0.2 row1 (wf_bytes wf1) rc1 b2.1 b2.2 b3.1 b3.2).mono fun e W' ⟨he, bel⟩ => ?_
  subst he
  exact ⟨_, rfl, _, _, _, [], _, [], hW', trodAll_mk1 (shut_bool Try.underlying4 _), (trodAll_cons_mk (Below.trod laidOut (by kernel_rfl) (of_decide_eq_true (by kernel_rfl)) k0 bel lt0) (trodAll_cons_mk (Below.trod laidOut (by kernel_rfl) (of_decide_eq_true (by kernel_rfl)) k1 bel lt1) (trodAll_cons_mk (Below.trod laidOut (by kernel_rfl) (of_decide_eq_true (by kernel_rfl)) k2 bel lt2) (trodAll_cons_mk (Below.trod laidOut (by kernel_rfl) (of_decide_eq_true (by kernel_rfl)) k3 bel lt3) trodAll_mk0)))), rfl, bel.frame _, fun h => by cases h⟩

theorem proved_HashOne : Rows.HashOneSaid :=
  OpenClaim.holds_of_wide 6 Try.f6 rfl rfl rfl rfl rfl rfl rfl ⟨rfl, rfl, rfl, rfl, rfl⟩ rfl rfl rfl rfl rfl (by kernel_rfl) Try.func6 (by kernel_rfl)
    (of_decide_eq_true (by kernel_rfl)) (by unfold Func.isWrapper; first | (rw [if_pos (by decide +kernel)]; kernel_rfl) | (rw [if_neg (by decide +kernel)]; exact ⟨rfl, rfl⟩))
    (fun os started H enc _ => lifted_HashOne os started H enc)
#print axioms proved_HashOne
end Go.Proofs.Ytpcgcmbidfjgpaa
