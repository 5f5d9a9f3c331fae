/- BitsParts holds: at all bits, numbers and places the law answers true and changes nothing that was there. -/
import Derived.Test.YtimenpceegcboaaAlive
import Derived.Test.YtimenpceegcboaaPush
import Derived.Test.YtimenpceegcboaaSame
namespace Go.Proofs.Ytimenpceegcboaa
open Go.ChangeShapes Go.WideShapes Go.ChangeAt Go.RowKit
set_option linter.unusedVariables false

theorem row_nil (w : World) : RowB w (.slice none 0 0) [] := ⟨none, 0, rfl, ⟨by simp, by simp, fun _ => rfl⟩, .inl rfl⟩
theorem none_same (w : World) : Calls Try.prog 29 #[noBits, noBits] w fun e w' => e = .returned (.bool true) ∧ Below w.heap.size w w' :=
  (sameBits_any _ _ [] [] 0 0 w (row_nil w) (row_nil w) (fun x hx => by cases hx) (fun x hx => by cases hx)).mono fun e w' h => ⟨by rw [h.1]; simp [sameL], h.2⟩

/-- Push refuses: with whatever error. -/
theorem push_err (v : Value) (l : List Int) (n u k : Int) (w : World) (hr : RowB w v l) (hbt : Byt l) (n0 : -9223372036854775808 ≤ n) (n1 : n ≤ 9223372036854775807) (u0 : 0 ≤ u) (u1 : u ≤ 18446744073709551615)
    (h : ¬ (P.OkB l n ∧ 0 ≤ k ∧ k ≤ 64 ∧ u < 2 ^ k.toNat ∧ n + k ≤ 80000)) :
    ∃ er : Int, er ≠ 0 ∧ Calls Try.prog 19 #[.agg #[v, .int .i64 n], .int .u64 u, .int .i64 k] w fun e w' => e = .returned (.tuple #[noBits, .int .i64 er]) ∧ Below w.heap.size w w' := by
  by_cases hok : P.OkB l n
  · by_cases hk : k < 0 ∨ 64 < k
    · exact ⟨1, by decide, push_width v l n u k w hr hbt n1 hok hk⟩
    · by_cases hf : u < 2 ^ k.toNat
      · exact ⟨2, by decide, push_large v l n u k w hr hbt n1 hok (by omega) (by omega) u0 u1 (by simp [fitsB, hf]) (by
          have : ¬ (n + k ≤ 80000) := fun h' => h ⟨hok, by omega, by omega, hf, h'⟩
          omega)⟩
      · exact ⟨1, by decide, push_fits v l n u k w hr hbt n1 hok (by omega) (by omega) u0 u1 (by simp [fitsB, hf])⟩
  · exact ⟨4, by decide, push_bad v l n u k w hr hbt n0 n1 hok⟩

set_option maxHeartbeats 4000000 in
theorem parts_err (v0 : Value) (l0 : List Int) (n0 u k at' c : Int) (w : World) (hr : RowB w v0 l0) (hbt : Byt l0)
    (hp : ∀ w' : World, Below w.heap.size w w' → ∃ er : Int, er ≠ 0 ∧ Calls Try.prog 19 #[.agg #[v0, .int .i64 n0], .int .u64 u, .int .i64 k] w' fun e w2 => e = .returned (.tuple #[noBits, .int .i64 er]) ∧ Below w'.heap.size w' w2) :
    Calls Try.prog 8 #[.agg #[v0, .int .i64 n0], .int .u64 u, .int .i64 k, .int .i64 at', .int .i64 c] w fun e w' => e = .returned (.bool true) ∧ Below w.heap.size w w' := by
  have HP := hide hp
  clear hp
  go_enter Try.func8, Try.ntmps8
  go_wp2_with (first
    | (go_at_call 27; refine (bitses_any _).mono ?_; rintro e w1 ⟨rfl, hb1⟩; obtain ⟨hx0, hx1, hb, hsz⟩ := box2 hb1; clear hb1)
    | (go_at_call 19; obtain ⟨er, her, hcall⟩ := HP.out _ hb; refine hcall.mono ?_; clear hcall; have hne : (er != 0) = true := bne_iff_ne.2 her; clear her; rintro e w2 ⟨rfl, hb2⟩; replace hb := Below.next hb hb2; replace hx0 := keep_cell hx0 hb2; replace hx1 := keep_cell hx1 hb2; clear hb2)
    | (go_at_call 29; refine (none_same _).mono ?_; rintro e w4 ⟨rfl, hb4⟩; replace hb := Below.next (below_alloc hb _) hb4))
  go_ret
  exact ⟨rfl, hb⟩

set_option maxHeartbeats 4000000 in
theorem parts_ok (v0 : Value) (bs : List Bool) (u m : Nat) (at' c : Int) (w : World) (hr : RowB w v0 (P.pack bs)) (h1 : m ≤ 64) (u1 : (u : Int) ≤ 18446744073709551615) (hf : u < 2 ^ m) (hl : bs.length + m ≤ 80000) (p1 : at' ≤ 9223372036854775807) :
    Calls Try.prog 8 #[.agg #[v0, .int .i64 bs.length], .int .u64 u, .int .i64 m, .int .i64 at', .int .i64 c] w fun e w' => e = .returned (.bool true) ∧ Below w.heap.size w w' := by
  have hln : (bs ++ P.ofVal u m).length = bs.length + m := by rw [List.length_append, P.ofVal_len]
  have hdt : ((bs ++ P.ofVal u m).drop bs.length).take m = P.ofVal u m := by
    rw [List.drop_left, List.take_of_length_le (by rw [P.ofVal_len]; exact Nat.le_refl _)]
  have hval : P.val (((bs ++ P.ofVal u m).drop bs.length).take m) = u := by rw [hdt, P.val_ofVal u m hf]
  have hpre : (0 ≤ c ∧ c ≤ 64 ∧ 0 ≤ at' ∧ at' + c ≤ bs.length) → ((bs ++ P.ofVal u m).drop at'.toNat).take c.toNat = (bs.drop at'.toNat).take c.toNat := by
    intro h
    rw [List.drop_append_of_le_length (by omega), List.take_append_of_le_length (by simp; omega)]
  have hpok := hide (P.pack_ok (bs ++ P.ofVal u m))
  have hpby : Byt (P.pack (bs ++ P.ofVal u m)) := P.pack_byt _ _
  have HPU := hide (fun (v : Value) (w : World) (hr : RowB w v (P.pack bs)) => push_ok v bs u m w hr h1 u1 hf hl)
  have HP1 : Hid (∀ (v : Value) (w : World), RowB w v (P.pack (bs ++ P.ofVal u m)) → Calls Try.prog 20 #[.agg #[v, .int .i64 ((bs.length : Int) + (m : Int))], .int .i64 bs.length, .int .i64 m] w fun e w' => e = .returned (.tuple #[.int .u64 u, .int .i64 0]) ∧ Below w.heap.size w w') := by
    intro v w hr
    have h := pull_ok v (bs ++ P.ofVal u m) bs.length m w hr (by omega) h1 (by omega)
    rw [hval, hln, Int.natCast_add] at h
    exact h
  have HP2 := hide (fun (v : Value) (w : World) (hr : RowB w v (P.pack bs)) => pull_all v bs at' c w hr (by omega) p1)
  have HP3 : Hid (∀ (v : Value) (w : World), RowB w v (P.pack (bs ++ P.ofVal u m)) → Calls Try.prog 20 #[.agg #[v, .int .i64 ((bs.length : Int) + (m : Int))], .int .i64 at', .int .i64 c] w fun e w' => e = .returned (.tuple #[.int .u64 (P.pullV (bs ++ P.ofVal u m) at' c), .int .i64 (P.pullE (bs ++ P.ofVal u m) at' c)]) ∧ Below w.heap.size w w') := by
    intro v w hr
    have h := pull_all v (bs ++ P.ofVal u m) at' c w hr (by omega) p1
    rw [hln, Int.natCast_add] at h
    exact h
  have HCK : Hid (∀ (v : Value) (w : World), RowB w v (P.pack (bs ++ P.ofVal u m)) → Calls Try.prog 21 #[.agg #[v, .int .i64 ((bs.length : Int) + (m : Int))]] w fun e w' => e = .returned (.int .i64 0) ∧ Below w.heap.size w w') := by
    intro v w hr
    have h := check_ok v _ _ w hr hpby (by omega) hpok.out
    rw [hln, Int.natCast_add] at h
    exact h
  have hfin : P.pullE bs at' c ≠ 0 ∨ P.pullE (bs ++ P.ofVal u m) at' c = 0 ∧ P.pullV bs at' c = P.pullV (bs ++ P.ofVal u m) at' c := by
    by_cases hin : 0 ≤ c ∧ c ≤ 64 ∧ 0 ≤ at' ∧ at' + c ≤ bs.length
    · have h2 := P.pull_in (bs ++ P.ofVal u m) at' c (by rw [hln]; omega)
      exact .inr ⟨h2.1, by rw [(P.pull_in bs at' c hin).2, h2.2, hpre hin]⟩
    · exact .inl (P.pull_out bs at' c hin).1
  generalize hB : bs ++ P.ofVal u m = cs at *
  generalize P.pullE bs at' c = e1 at *
  generalize P.pullV bs at' c = r1 at *
  generalize P.pullE cs at' c = e2 at *
  generalize P.pullV cs at' c = r2 at *
  clear hval hln hpre hdt hB hpok
  by_cases he1 : e1 = 0
  · obtain ⟨rfl, rfl⟩ : e2 = 0 ∧ r1 = r2 := by rcases hfin with h | h; exact absurd he1 h; exact h
    subst he1
    clear hfin
    go_enter Try.func8, Try.ntmps8
    go_wp2_with (first
      | (go_at_call 27; refine (bitses_any _).mono ?_; rintro e w1 ⟨rfl, hb1⟩; obtain ⟨hx0, hx1, hb, hsz⟩ := box2 hb1; clear hb1)
      | (go_at_call 19; refine (HPU.out _ _ (hr.below hb (Nat.le_refl _))).mono ?_; rintro e w2 ⟨vy, rfl, hown, hb2⟩; obtain ⟨ay, capy, hvy⟩ := hown.shape; rw [hvy] at hown ⊢; clear hvy; replace hb := Below.next hb hb2; replace hx0 := keep_cell hx0 hb2; replace hx1 := keep_cell hx1 hb2; clear hb2; have hs2 : w.heap.size < w2.heap.size := World.block_lt_of_cell? _ _ hx1))
    have hry := hown.row
    refine (HP1.out _ _ (hry.below ((Below.refl _ _).alloc (Nat.le_refl _) _) (Nat.le_refl _))).mono ?_
    rintro e w4 ⟨rfl, hb4⟩
    obtain ⟨hy0, hy1, hb24, hsz4⟩ := box2 hb4
    replace hx0 := keep_cell hx0 hb24; replace hx1 := keep_cell hx1 hb24; replace hb := Below.next hb hb24; replace hry := hry.below hb24 (Nat.le_refl _)
    clear hb4 hb24
    go_wp2_with fail
    refine (HCK.out _ _ hry).mono ?_
    rintro e w5 ⟨rfl, hb5⟩
    replace hx0 := keep_cell hx0 hb5; replace hx1 := keep_cell hx1 hb5; replace hy0 := keep_cell hy0 hb5; replace hy1 := keep_cell hy1 hb5; replace hb := Below.next hb hb5; replace hry := hry.below hb5 (Nat.le_refl _)
    clear hb5
    go_wp2_with fail
    refine (HP2.out _ _ (hr.below hb (Nat.le_refl _))).mono ?_
    rintro e w6 ⟨rfl, hb6⟩
    replace hy0 := keep_cell hy0 hb6; replace hy1 := keep_cell hy1 hb6; replace hb := Below.next hb hb6; replace hry := hry.below hb6 (Nat.le_refl _)
    clear hb6 hx0 hx1
    go_wp2_with fail
    refine (HP3.out _ _ hry).mono ?_
    rintro e w7 ⟨rfl, hb7⟩
    replace hb := Below.next hb hb7
    clear hb7 hy0 hy1
    go_wp2
    go_ret
    exact ⟨rfl, hb⟩
  · have hne : (e1 != 0) = true := by rw [bne_iff_ne]; exact he1
    clear hfin he1
    go_enter Try.func8, Try.ntmps8
    go_wp2_with (first
      | (go_at_call 27; refine (bitses_any _).mono ?_; rintro e w1 ⟨rfl, hb1⟩; obtain ⟨hx0, hx1, hb, hsz⟩ := box2 hb1; clear hb1)
      | (go_at_call 19; refine (HPU.out _ _ (hr.below hb (Nat.le_refl _))).mono ?_; rintro e w2 ⟨vy, rfl, hown, hb2⟩; obtain ⟨ay, capy, hvy⟩ := hown.shape; rw [hvy] at hown ⊢; clear hvy; replace hb := Below.next hb hb2; replace hx0 := keep_cell hx0 hb2; replace hx1 := keep_cell hx1 hb2; clear hb2; have hs2 : w.heap.size < w2.heap.size := World.block_lt_of_cell? _ _ hx1))
    have hry := hown.row
    refine (HP1.out _ _ (hry.below ((Below.refl _ _).alloc (Nat.le_refl _) _) (Nat.le_refl _))).mono ?_
    rintro e w4 ⟨rfl, hb4⟩
    obtain ⟨hy0, hy1, hb24, hsz4⟩ := box2 hb4
    replace hx0 := keep_cell hx0 hb24; replace hx1 := keep_cell hx1 hb24; replace hb := Below.next hb hb24; replace hry := hry.below hb24 (Nat.le_refl _)
    clear hb4 hb24
    go_wp2_with fail
    refine (HCK.out _ _ hry).mono ?_
    rintro e w5 ⟨rfl, hb5⟩
    replace hx0 := keep_cell hx0 hb5; replace hx1 := keep_cell hx1 hb5; replace hy0 := keep_cell hy0 hb5; replace hy1 := keep_cell hy1 hb5; replace hb := Below.next hb hb5; replace hry := hry.below hb5 (Nat.le_refl _)
    clear hb5
    go_wp2_with fail
    refine (HP2.out _ _ (hr.below hb (Nat.le_refl _))).mono ?_
    rintro e w6 ⟨rfl, hb6⟩
    replace hy0 := keep_cell hy0 hb6; replace hy1 := keep_cell hy1 hb6; replace hb := Below.next hb hb6; replace hry := hry.below hb6 (Nat.le_refl _)
    clear hb6 hx0 hx1
    go_wp2_with fail
    refine (HP3.out _ _ hry).mono ?_
    rintro e w7 ⟨rfl, hb7⟩
    replace hb := Below.next hb hb7
    clear hb7 hy0 hy1
    go_wp2
    go_ret
    exact ⟨rfl, hb⟩

theorem walk_BitsParts (y0 : Value) (l0 : List Int) (n0 a1 a2 a3 a4 : Int) (w : World) (hr : RowB w y0 l0) (hbt : Byt l0) (_hlen : l0.length ≤ 140737488351232) (h0 : -9223372036854775808 ≤ n0) (h0' : n0 ≤ 9223372036854775807)
    (h1 : 0 ≤ a1) (h1' : a1 ≤ 18446744073709551615) (_h2 : -9223372036854775808 ≤ a2) (_h2' : a2 ≤ 9223372036854775807) (_h3 : -9223372036854775808 ≤ a3) (h3' : a3 ≤ 9223372036854775807) (_h4 : -9223372036854775808 ≤ a4) (_h4' : a4 ≤ 9223372036854775807) :
    Calls Try.prog 8 #[.agg #[y0, .int .i64 n0], .int .u64 a1, .int .i64 a2, .int .i64 a3, .int .i64 a4] w fun e w' => e = .returned (.bool true) ∧ Below w.heap.size w w' := by
  by_cases h : P.OkB l0 n0 ∧ 0 ≤ a2 ∧ a2 ≤ 64 ∧ a1 < 2 ^ a2.toNat ∧ n0 + a2 ≤ 80000
  · obtain ⟨hok, k0, k1, hf, hl⟩ := h
    obtain ⟨bs, rfl, rfl⟩ := P.ok_pack l0 n0 hbt hok
    obtain ⟨u, rfl⟩ := Int.eq_ofNat_of_zero_le h1
    obtain ⟨m, rfl⟩ := Int.eq_ofNat_of_zero_le k0
    rw [Int.toNat_natCast] at hf
    exact parts_ok y0 bs u m a3 a4 w hr (by omega) h1' (by exact_mod_cast hf) (by omega) h3'
  · exact parts_err y0 l0 n0 a1 a2 a3 a4 w hr hbt fun w' hb => push_err y0 l0 n0 a1 a2 w' (hr.below hb (Nat.le_refl _)) hbt h0 h0' h1 h1' h

set_option maxRecDepth 100000 in
theorem lifted_BitsParts (os : Os) (started : os.Started) (H : Type) (enc : TypeId × Value → H) :
    ReturnsInHanded {} Try.checked os 8 .any (Rows.bitsPartsSpec.pre6 enc Try.prog Try.f8 Rows.bitsPartsRow.domain false) (Rows.bitsPartsSpec.post enc Try.prog Try.f8 false true false false) := by
  refine returnsInHanded_of_change_sized (C := Try.checked) own started (by kernel_rfl) Try.func8
    (ChangeSpec.witness6 (enc := enc) (C := Try.checked) false ⟨#[], #[.agg #[.slice none 0 0, .int .i64 0], .int .u64 0, .int .i64 0, .int .i64 0, .int .i64 0], []⟩ 8 (by kernel_rfl) (by kernel_rfl) (by kernel_rfl) (by kernel_rfl)) ?_
  intro W base args ds gs before hval0 hW hcnd hsz0 _
  have hsz : (DataW.weightsEach Try.prog (Try.f8.params.toList ++ Rows.bitsPartsSpec.plain.varTypes Try.prog) (ds ++ gs)).all (· ≤ reachBytes) = true := hsz0
  have hval : ∀ (j : Nat) t v, Try.f8.params[j]? = some t → args[j]? = some v → Value.okWide Try.prog W .any base t v := hval0
  have hW' := hW
  obtain ⟨p, q, hA0, hV, rfl, hfz, hnd⟩ := hW
  have hA : DataW.TrodAll enc Try.prog W 0 (fun _ => true) true Try.f8.params.toList args.toList ds p := hA0
  rw [Try.params8] at hA hval hsz
  obtain ⟨v0, vs0, d0, ds0, p0, q0, hargs, rfl, rfl, h0, r0⟩ := trodAll_cons hA
  obtain ⟨v1, vs1, d1, ds1, p1, q1, rfl, rfl, rfl, h1, r1⟩ := trodAll_cons r0
  obtain ⟨v2, vs2, d2, ds2, p2, q2, rfl, rfl, rfl, h2, r2⟩ := trodAll_cons r1
  obtain ⟨v3, vs3, d3, ds3, p3, q3, rfl, rfl, rfl, h3, r3⟩ := trodAll_cons r2
  obtain ⟨v4, vs4, d4, ds4, p4, q4, rfl, rfl, rfl, h4, r4⟩ := trodAll_cons r3
  obtain ⟨rfl, rfl, rfl⟩ := trodAll_nil r4
  obtain rfl : args = #[v0, v1, v2, v3, v4] := by cases args; simp_all
  obtain ⟨rfl, rfl⟩ := trodVars_none hV
  have k0 := h0
  have lt0 : ∀ x ∈ p0, x.block < W.heap.size := by obtain ⟨m, hm⟩ := k0; exact DataW.trod_lt m _ _ _ hm
  obtain ⟨y0, l0, n0, rfl, row0, wf0, rc0, b0, es0, sp0, sh0⟩ := open_bits (hval 0 33 v0 rfl rfl) h0 hsz (j := 0) rfl rfl
  have k1 := h1
  have lt1 : ∀ x ∈ p1, x.block < W.heap.size := by obtain ⟨m, hm⟩ := k1; exact DataW.trod_lt m _ _ _ hm
  obtain ⟨a1, rfl, rfl, rfl, w1⟩ := open_int Try.underlying22 (hval 1 22 v1 rfl rfl) h1
  have b1 := bounds_u64 w1
  have k2 := h2
  have lt2 : ∀ x ∈ p2, x.block < W.heap.size := by obtain ⟨m, hm⟩ := k2; exact DataW.trod_lt m _ _ _ hm
  obtain ⟨a2, rfl, rfl, rfl, w2⟩ := open_int Try.underlying3 (hval 2 3 v2 rfl rfl) h2
  have b2 := bounds_i64 w2
  have k3 := h3
  have lt3 : ∀ x ∈ p3, x.block < W.heap.size := by obtain ⟨m, hm⟩ := k3; exact DataW.trod_lt m _ _ _ hm
  obtain ⟨a3, rfl, rfl, rfl, w3⟩ := open_int Try.underlying3 (hval 3 3 v3 rfl rfl) h3
  have b3 := bounds_i64 w3
  have k4 := h4
  have lt4 : ∀ x ∈ p4, x.block < W.heap.size := by obtain ⟨m, hm⟩ := k4; exact DataW.trod_lt m _ _ _ hm
  obtain ⟨a4, rfl, rfl, rfl, w4⟩ := open_int Try.underlying3 (hval 4 3 v4 rfl rfl) h4
  have b4 := bounds_i64 w4
  clear hA0 hval0
  refine (walk_BitsParts y0 l0 n0 a1 a2 a3 a4 W row0 wf0 rc0 b0.1 b0.2 b1.1 b1.2 b2.1 b2.2 b3.1 b3.2 b4.1 b4.2).mono fun e W' ⟨he, bel⟩ => ?_
  subst he
  exact ⟨_, rfl, _, _, _, [], _, [], hW', trodAll_mk1 (shut_bool Try.underlying4 _), (trodAll_cons_mk (Below.trod laidOut (by kernel_rfl) (of_decide_eq_true (by kernel_rfl)) k0 bel lt0) (trodAll_cons_mk (Below.trod laidOut (by kernel_rfl) (of_decide_eq_true (by kernel_rfl)) k1 bel lt1) (trodAll_cons_mk (Below.trod laidOut (by kernel_rfl) (of_decide_eq_true (by kernel_rfl)) k2 bel lt2) (trodAll_cons_mk (Below.trod laidOut (by kernel_rfl) (of_decide_eq_true (by kernel_rfl)) k3 bel lt3) (trodAll_cons_mk (Below.trod laidOut (by kernel_rfl) (of_decide_eq_true (by kernel_rfl)) k4 bel lt4) trodAll_mk0))))), rfl, bel.frame _, fun h => by cases h⟩

theorem proved_BitsParts : Rows.BitsPartsSaid :=
  OpenClaim.holds_of_wide 8 Try.f8 rfl rfl rfl rfl rfl rfl rfl ⟨rfl, rfl, rfl, rfl, rfl⟩ rfl rfl rfl rfl rfl (by kernel_rfl) Try.func8 (by kernel_rfl)
    (of_decide_eq_true (by kernel_rfl)) (by unfold Func.isWrapper; first | (rw [if_pos (by decide +kernel)]; kernel_rfl) | (rw [if_neg (by decide +kernel)]; exact ⟨rfl, rfl⟩))
    (fun os started H enc _ => lifted_BitsParts os started H enc)
#print axioms proved_BitsParts
end Go.Proofs.Ytimenpceegcboaa
