/- What delta.pullChange answers. -/
import Derived.Test.YtlejpbghakaooaaDoorDpull
namespace Go.Proofs.YtlejpbghakaooaaDoor
open Go.RowKit
set_option linter.unusedVariables false

theorem wd_inj (k k' : Nat) (h : k ≤ 4) (h' : k' ≤ 4) (he : P.wd k = P.wd k') : k = k' := by
  have g : ∀ k, k ≤ 4 → (P.wd k = 0 ∧ k = 0) ∨ (P.wd k = 7 ∧ k = 1) ∨ (P.wd k = 9 ∧ k = 2) ∨ (P.wd k = 12 ∧ k = 3) ∨ (P.wd k = 64 ∧ k = 4) := by
    intro k hk
    have : k = 0 ∨ k = 1 ∨ k = 2 ∨ k = 3 ∨ k = 4 := by omega
    rcases this with rfl | rfl | rfl | rfl | rfl <;> simp [P.wd]
  have := g k h; have := g k' h'
  omega
/-- A box of three words that the call has made, behind a call that leaves old memory alone. -/
theorem box3 {w w2 : World} {c0 c1 c2 : Value} {t : TypeId} (hb : Below (w.alloc (.cells #[c0, c1, c2] t)).heap.size (w.alloc (.cells #[c0, c1, c2] t)) w2) :
    w2.cell? ⟨w.heap.size, 0, none⟩ = some c0 ∧ w2.cell? ⟨w.heap.size, 1, none⟩ = some c1 ∧ w2.cell? ⟨w.heap.size, 2, none⟩ = some c2 ∧ Below w.heap.size w w2 := by
  have h0 := hb.cell (p := ⟨w.heap.size, 0, none⟩) (by simp)
  have h1 := hb.cell (p := ⟨w.heap.size, 1, none⟩) (by simp)
  have h2 := hb.cell (p := ⟨w.heap.size, 2, none⟩) (by simp)
  exact ⟨h0.trans (by simp), h1.trans (by simp), h2.trans (by simp), ((Below.refl _ _).alloc (Nat.le_refl _) _).trans (hb.mono (by simp))⟩
theorem neq_shape (w : World) (a b d a' b' d' : Int) (h : (d' == d) = false) :
    (binOp .neq 62 (.agg #[.int .u64 a', .int .i64 b', .int .i64 d']) (.agg #[.int .u64 a, .int .i64 b, .int .i64 d])).run Tryd.prog w = .ok (.bool true) w := by
  rw [run_neq_struct, run_equalIn_struct w 9999 62 _ _ (by kernel_rfl) (by kernel_rfl)]
  have hf : (Tryd.prog.fieldsOf 62) = #[⟨"head", 46, 0, false, "", "gaugehouse/delta", 0⟩, ⟨"headBits", 3, 1, false, "", "gaugehouse/delta", 8⟩, ⟨"bodyBits", 3, 2, false, "", "gaugehouse/delta", 16⟩] := by kernel_rfl
  rw [hf]
  obtain ⟨D, hD⟩ : ∃ D, D + 1 = 9999 := ⟨9998, rfl⟩
  rw [← hD]
  clear hD hf
  by_cases h1 : (a' == a) = true
  · by_cases h2 : (b' == b) = true
    · simp [go_sem, Tryd.underlying46, Tryd.underlying3, h, h1, h2]
    · rw [Bool.not_eq_true] at h2
      simp [go_sem, Tryd.underlying46, Tryd.underlying3, h1, h2]
  · rw [Bool.not_eq_true] at h1
    simp [go_sem, Tryd.underlying46, Tryd.underlying3, h1]
/-- No change can be read here. -/
def NoChg (X : List Bool) : Prop := ∀ c : Int, -9223372036854775808 ≤ c → c ≤ 9223372036854775807 → ¬ P.Fr X (P.chg c)

set_option maxHeartbeats 2000000 in
theorem pullChange_any (v : Value) (bs : List Bool) (p : Nat) (w : World) (hr : RowB w v (P.pack bs)) (n1 : (bs.length : Int) ≤ 9223372036854775000) (hp : p ≤ bs.length) (hs : Shp w) :
    Calls Tryd.prog 36 #[.agg #[v, .int .i64 bs.length], .int .i64 p] w fun e w' => Below w.heap.size w w' ∧
      ((∃ c : Int, -9223372036854775808 ≤ c ∧ c ≤ 9223372036854775807 ∧ P.Fr (bs.drop p) (P.chg c) ∧ e = .returned (.tuple #[.int .i64 c, .int .i64 ((P.chg c).length : Nat), .int .i64 0])) ∨
       (∃ er : Int, er ≠ 0 ∧ NoChg (bs.drop p) ∧ e = .returned (.tuple #[.int .i64 0, .int .i64 0, .int .i64 er]))) := by
  have HS := hide (fun (w : World) (hr : RowB w v (P.pack bs)) (hs : Shp w) => pullShape_any v bs p w hr n1 hp hs)
  have hr1 := hr.below ((Below.refl _ _).alloc (Nat.le_refl _) (.cells #[v, .int .i64 bs.length] 25)) (Nat.le_refl _)
  have hs1 := hs.next ((Below.refl _ _).alloc (Nat.le_refl _) (.cells #[v, .int .i64 bs.length] 25))
  go_enter Tryd.func36, Tryd.ntmps36
  go_wp2_with fail
  refine (HS.out _ hr1 hs1).mono ?_
  rintro e w2 ⟨hb2, ⟨k, hk, rfl⟩ | ⟨hno, rfl⟩⟩
  · obtain ⟨x0, x1, hbw, hsz⟩ := box2 hb2
    have hr2 : RowB w2 v (P.pack bs) := hr.below hbw (Nat.le_refl _)
    have hs2 : Shp w2 := hs.next hbw
    clear hb2 hr1 hs1 HS hs
    unfold shapeV
    have hb4 := P.hb_le k
    have hd4 := P.wd_le k
    by_cases hl : P.hb k + P.wd k ≤ (bs.drop p).length
    · have hval : Hid (P.val ((bs.drop (p + P.hb k)).take (P.wd k)) = P.val (((bs.drop p).drop (P.hb k)).take (P.wd k))) := by show _ = _; rw [List.drop_drop]
      have hlp : p + P.hb k + P.wd k ≤ bs.length := by rw [List.length_drop] at hl; omega
      have HC : Hid (∀ (w : World), RowB w v (P.pack bs) → Calls Tryd.prog 35 #[.agg #[v, .int .i64 bs.length], .int .i64 ((p : Int) + (P.hb k : Nat)), .int .i64 (P.wd k : Nat)] w fun e w' => e = .returned (.tuple #[.int .u64 (P.val (((bs.drop p).drop (P.hb k)).take (P.wd k)) : Nat), .int .i64 0]) ∧ Below w.heap.size w w') := by
        intro w hr
        have h := pull_ok v bs (p + P.hb k) (P.wd k) w hr (by omega) hd4 hlp
        rw [hval.out, Int.natCast_add] at h
        exact h
      have HR := hide (P.read_sound (bs.drop p) k hk hl _ rfl)
      have HF := hide (fun c h0 h1 hf => P.read_full (bs.drop p) c h0 h1 hf)
      have hvl := P.val_lt (((bs.drop p).drop (P.hb k)).take (P.wd k))
      have hvl2 : P.val (((bs.drop p).drop (P.hb k)).take (P.wd k)) < 2 ^ 64 := Nat.lt_of_lt_of_le hvl (Nat.pow_le_pow_right (by decide) (by rw [List.length_take]; omega))
      have HLo := P.sgn_lo (P.val (((bs.drop p).drop (P.hb k)).take (P.wd k))) k hk.1
      have HSg : Hid (∀ w : World, Calls Tryd.prog 40 #[.int .u64 (P.val (((bs.drop p).drop (P.hb k)).take (P.wd k)) : Nat), .int .i64 (P.wd k : Nat)] w fun e w' => e = .returned (.int .i64 (sgn (P.val (((bs.drop p).drop (P.hb k)).take (P.wd k)) : Nat) (P.wd k))) ∧ w' = w) :=
        fun w => signed_any _ _ w (by omega) (by omega) hd4
      have HCl : Hid (∀ c' : Int, -9223372036854775808 ≤ c' → c' ≤ 9223372036854775807 → P.Fr (bs.drop p) (P.chg c') → P.cls c' = k ∧ c' = sgn (P.val (((bs.drop p).drop (P.hb k)).take (P.wd k)) : Nat) (P.wd k)) := by
        intro c' h0 h1 hf
        obtain ⟨a1, _, a3⟩ := P.read_full (bs.drop p) c' h0 h1 hf
        have e := P.head_one _ _ _ a1 hk
        rw [e] at a3
        exact ⟨e, a3.symm⟩
      have hk4 := hk.1
      clear hvl HF hval
      generalize hbody : P.val (((bs.drop p).drop (P.hb k)).take (P.wd k)) = body at *
      clear hbody
      generalize hc : sgn (body : Int) (P.wd k) = c at *
      clear hc
      obtain ⟨hc0, hc1⟩ := HLo
      have HSh := hide (fun (w : World) (hs : Shp w) => shapeOf_any c w hc0 hc1 hs)
      unfold shapeV at HSh
      have hr3 := fun o => hr2.below ((Below.refl _ _).alloc (Nat.le_refl _) o) (Nat.le_refl _)
      by_cases hcls : P.cls c = k
      · rw [hcls] at HSh
        have HR2 := hide (HR.out hcls)
        have HLn : Hid ((P.chg c).length = P.hb k + P.wd k) := by show _ = _; rw [P.chg_len, hcls]
        clear HR HCl hcls hl hlp
        generalize P.hv k = a at *
        generalize P.hb k = b at *
        generalize P.wd k = d at *
        go_wp2_with (first
          | (go_at_call 35; go_must (refine (HC.out _ (hr3 _)).mono ?_); rintro e w4 ⟨rfl, hb4⟩; obtain ⟨y0, y1, y2, hb5⟩ := box3 hb4; have hs4 := hs2.next hb5; have hb6 := Below.next hbw hb5; clear hb4 hb5)
          | (go_at_call 40; go_must (refine (HSg.out _).mono ?_); rintro e W4 ⟨rfl, rfl⟩))
        go_region_held3 (fun wx => wx.cell? ⟨w2.heap.size, 0, none⟩ = some (.int .u64 a) ∧ wx.cell? ⟨w2.heap.size, 1, none⟩ = some (.int .i64 b) ∧ wx.cell? ⟨w2.heap.size, 2, none⟩ = some (.int .i64 d)) (first | (refine ⟨?_, ?_, ?_⟩ <;> with_reducible assumption) | go_keep) (first
          | (go_at_call 34; refine (HSh.out _ (hs4.next (Below.refl _ _).drew)).mono ?_; rintro e w5 ⟨rfl, hb7⟩; have z0 := keep_cell (w := W4.drew) y0 hb7; have z1 := keep_cell (w := W4.drew) y1 hb7; have z2 := keep_cell (w := W4.drew) y2 hb7; have hb8 := Below.next (w1 := W4.drew) hb6.drew hb7; clear hb7))
        go_wp2
        go_quiet (fail)
        go_wp2
        exact bodyPost_ret (v := .tuple #[.int .i64 c, .int .i64 ((P.chg c).length : Nat), .int .i64 0]) (by rw [HLn.out]; simp [results, Tryd.results36, go_sem]) rfl ⟨Below.drewN hb8 _, .inl ⟨c, hc0, hc1, HR2.out, rfl⟩⟩
      · have HN : Hid (NoChg (bs.drop p)) := by
          intro c' h0 h1 hf
          obtain ⟨e1, e2⟩ := HCl.out c' h0 h1 hf
          rw [e2] at e1
          exact hcls e1
        have hdn : ((P.wd (P.cls c) : Int) == (P.wd k : Int)) = false := by
          rw [beq_eq_false_iff_ne]
          intro e
          exact hcls (wd_inj _ _ (P.cls_le c) hk4 (by omega))
        clear HR HCl hcls hl hlp
        generalize P.hv k = a at *
        generalize P.hb k = b at *
        generalize P.wd k = d at *
        obtain ⟨sv, hsv⟩ : ∃ sv, sv = Value.agg #[.int .u64 (P.hv (P.cls c) : Nat), .int .i64 (P.hb (P.cls c) : Nat), .int .i64 (P.wd (P.cls c) : Nat)] := ⟨_, rfl⟩
        have hq : ∀ w : World, (binOp .neq 62 sv (.agg #[.int .u64 a, .int .i64 b, .int .i64 d])).run Tryd.prog w = .ok (.bool true) w := by
          intro w; rw [hsv]; exact neq_shape w _ _ _ _ _ _ hdn
        have hg : ∀ (x y : Operand) (w : World), (eqGuard .neq 62 x y sv (.agg #[.int .u64 a, .int .i64 b, .int .i64 d])).run Tryd.prog w = .ok () w := by
          intro x y w; rw [hsv]; exact run_eqGuard_agg w _ _ _ _ _ _ (by kernel_rfl)
        rw [← hsv] at HSh
        clear hdn hsv
        go_wp2_with (first
          | (go_at_call 35; go_must (refine (HC.out _ (hr3 _)).mono ?_); rintro e w4 ⟨rfl, hb4⟩; obtain ⟨y0, y1, y2, hb5⟩ := box3 hb4; have hs4 := hs2.next hb5; have hb6 := Below.next hbw hb5; clear hb4 hb5)
          | (go_at_call 40; go_must (refine (HSg.out _).mono ?_); rintro e W4 ⟨rfl, rfl⟩))
        go_region_held3 (fun wx => wx.cell? ⟨w2.heap.size, 0, none⟩ = some (.int .u64 a) ∧ wx.cell? ⟨w2.heap.size, 1, none⟩ = some (.int .i64 b) ∧ wx.cell? ⟨w2.heap.size, 2, none⟩ = some (.int .i64 d)) (first | (refine ⟨?_, ?_, ?_⟩ <;> with_reducible assumption) | go_keep) (first
          | (go_at_call 34; refine (HSh.out _ (hs4.next (Below.refl _ _).drew)).mono ?_; rintro e w5 ⟨rfl, hb7⟩; have z0 := keep_cell (w := W4.drew) y0 hb7; have z1 := keep_cell (w := W4.drew) y1 hb7; have z2 := keep_cell (w := W4.drew) y2 hb7; have hb8 := Below.next (w1 := W4.drew) hb6.drew hb7; clear hb7))
        go_wp2
        exact bodyPost_ret (v := .tuple #[.int .i64 0, .int .i64 0, .int .i64 4]) (by simp [results, Tryd.results36, go_sem]) rfl ⟨hb8, .inr ⟨4, by decide, HN.out, rfl⟩⟩
    · have HN : Hid (NoChg (bs.drop p)) := by
        intro c h0 h1 hf
        obtain ⟨a1, a2, _⟩ := P.read_full _ c h0 h1 hf
        rw [P.head_one _ _ _ a1 hk] at a2
        exact hl a2
      have HC := hide (fun (w : World) (hr : RowB w v (P.pack bs)) => pull_none v bs p (P.hb k) (P.wd k) w hr (by omega) hp (by omega) hd4 n1 (by omega))
      generalize P.hv k = a at *
      generalize P.hb k = b at *
      generalize P.wd k = d at *
      clear hl hk
      have hr3 := fun o => hr2.below ((Below.refl _ _).alloc (Nat.le_refl _) o) (Nat.le_refl _)
      go_wp2_with (go_at_call 35; go_must (refine (HC.out _ (hr3 _)).mono ?_); rintro e w4 ⟨rfl, hb4⟩)
      exact bodyPost_ret (v := .tuple #[.int .i64 0, .int .i64 0, .int .i64 3]) (by simp [results, Tryd.results36, go_sem]) rfl ⟨Below.next (below_alloc hbw _) hb4, .inr ⟨3, by decide, HN.out, rfl⟩⟩
  · obtain ⟨x0, x1, hbw, hsz⟩ := box2 hb2
    have HN : Hid (NoChg (bs.drop p)) := fun c h0 h1 hf => hno _ (P.read_full _ c h0 h1 hf).1
    clear hb2 hno hr1 hs1 HS hr hs
    unfold shape0
    go_wp2
    exact bodyPost_ret (v := .tuple #[.int .i64 0, .int .i64 0, .int .i64 3]) (by simp [results, Tryd.results36, go_sem]) rfl ⟨below_alloc hbw _, .inr ⟨3, by decide, HN.out, rfl⟩⟩
end Go.Proofs.YtlejpbghakaooaaDoor
