/- What delta.signed and delta.shapeOf answer. -/
import Derived.Test.YtlejpbghakaooaaDoorShapes
import Derived.Test.YtlejpbghakaooaaDoorDeltaP
import Derived.Deep.QuietTactic
import Derived.BigQuiet
namespace Go.Proofs.YtlejpbghakaooaaDoor
open Go.RowKit
set_option linter.unusedVariables false

/-- The number that the lowest n bits of u are. -/
def sgn (u : Int) (n : Nat) : Int := wrap64 (IntKind.u64.wrap (u * 2 ^ (64 - n))) / 2 ^ (64 - n)
theorem signed_any (u : Int) (n : Nat) (w : World) (u0 : 0 ≤ u) (u1 : u ≤ 18446744073709551615) (hn : n ≤ 64) :
    Calls Tryd.prog 40 #[.int .u64 u, .int .i64 n] w fun e w' => e = .returned (.int .i64 (sgn u n)) ∧ w' = w := by
  go_enter Tryd.func40, Tryd.ntmps40
  go_wp2
  go_ret
  exact ⟨rfl, rfl⟩

theorem sgn0 (u : Int) : sgn u 0 = 0 := by
  unfold sgn; rw [IntKind.wrap_u64]; unfold wrap64; simp
theorem sgn7 (u : Int) : sgn u 7 = (u + 64) % 128 - 64 := by
  unfold sgn; rw [IntKind.wrap_u64]; unfold wrap64; simp; omega
theorem sgn9 (u : Int) : sgn u 9 = (u + 256) % 512 - 256 := by
  unfold sgn; rw [IntKind.wrap_u64]; unfold wrap64; simp; omega
theorem sgn12 (u : Int) : sgn u 12 = (u + 2048) % 4096 - 2048 := by
  unfold sgn; rw [IntKind.wrap_u64]; unfold wrap64; simp; omega
theorem sgn64 (u : Int) : sgn u 64 = wrap64 u := by
  unfold sgn; rw [IntKind.wrap_u64]; unfold wrap64; simp
/-- A change's class is the first width that holds it. -/
theorem sgn_ne (c : Int) (j : Nat) (h : j < P.cls c) : sgn (IntKind.u64.wrap c) (P.wd j) ≠ c := by
  have h4 := P.cls_le c
  rw [IntKind.wrap_u64]
  match j, h with
  | 0, h => show sgn _ 0 ≠ c; rw [sgn0]; unfold P.cls at h; split at h <;> omega
  | 1, h => show sgn _ 7 ≠ c; rw [sgn7]; unfold P.cls at h; (repeat' split at h) <;> omega
  | 2, h => show sgn _ 9 ≠ c; rw [sgn9]; unfold P.cls at h; (repeat' split at h) <;> omega
  | 3, h => show sgn _ 12 ≠ c; rw [sgn12]; unfold P.cls at h; (repeat' split at h) <;> omega
  | (n + 4), h => omega
theorem sgn_eq (c : Int) (h0 : -9223372036854775808 ≤ c) (h1 : c ≤ 9223372036854775807) : sgn (IntKind.u64.wrap c) (P.wd (P.cls c)) = c := by
  rw [IntKind.wrap_u64]
  unfold P.cls
  by_cases e0 : c = 0
  · rw [if_pos e0]; show sgn _ 0 = c; rw [sgn0]; omega
  rw [if_neg e0]
  by_cases e1 : -64 ≤ c ∧ c ≤ 63
  · rw [if_pos e1]; show sgn _ 7 = c; rw [sgn7]; omega
  rw [if_neg e1]
  by_cases e2 : -256 ≤ c ∧ c ≤ 255
  · rw [if_pos e2]; show sgn _ 9 = c; rw [sgn9]; omega
  rw [if_neg e2]
  by_cases e3 : -2048 ≤ c ∧ c ≤ 2047
  · rw [if_pos e3]; show sgn _ 12 = c; rw [sgn12]; omega
  rw [if_neg e3]; show sgn _ 64 = c; rw [sgn64]; unfold wrap64; omega

/-- A shape as a value. -/
def shapeV (k : Nat) : Value := .agg #[.int .u64 (P.hv k : Nat), .int .i64 (P.hb k : Nat), .int .i64 (P.wd k : Nat)]
theorem Shp.all {w : World} (h : Shp w) : w.cell? ⟨0, 0, none⟩ = some (.int .u64 0) ∧ w.cell? ⟨0, 1, none⟩ = some (.int .i64 1) ∧ w.cell? ⟨0, 2, none⟩ = some (.int .i64 0) ∧
    w.cell? ⟨0, 3, none⟩ = some (.int .u64 2) ∧ w.cell? ⟨0, 4, none⟩ = some (.int .i64 2) ∧ w.cell? ⟨0, 5, none⟩ = some (.int .i64 7) ∧
    w.cell? ⟨0, 6, none⟩ = some (.int .u64 6) ∧ w.cell? ⟨0, 7, none⟩ = some (.int .i64 3) ∧ w.cell? ⟨0, 8, none⟩ = some (.int .i64 9) ∧
    w.cell? ⟨0, 9, none⟩ = some (.int .u64 14) ∧ w.cell? ⟨0, 10, none⟩ = some (.int .i64 4) ∧ w.cell? ⟨0, 11, none⟩ = some (.int .i64 12) ∧
    w.cell? ⟨0, 12, none⟩ = some (.int .u64 15) ∧ w.cell? ⟨0, 13, none⟩ = some (.int .i64 4) ∧ w.cell? ⟨0, 14, none⟩ = some (.int .i64 64) :=
  ⟨h.2 0 (by decide), h.2 1 (by decide), h.2 2 (by decide), h.2 3 (by decide), h.2 4 (by decide), h.2 5 (by decide), h.2 6 (by decide), h.2 7 (by decide), h.2 8 (by decide), h.2 9 (by decide), h.2 10 (by decide), h.2 11 (by decide), h.2 12 (by decide), h.2 13 (by decide), h.2 14 (by decide)⟩

set_option maxHeartbeats 1000000 in
theorem shapeOf_any (c : Int) (w : World) (h0 : -9223372036854775808 ≤ c) (h1 : c ≤ 9223372036854775807) (hs : Shp w) :
    Calls Tryd.prog 34 #[.int .i64 c] w fun e w' => e = .returned (shapeV (P.cls c)) ∧ Below w.heap.size w w' := by
  have hu := (IntKind.wrap_u64 c)
  have u0 : 0 ≤ IntKind.u64.wrap c := by rw [hu]; omega
  have u1 : IntKind.u64.wrap c ≤ 18446744073709551615 := by rw [hu]; omega
  have HN := hide (sgn_ne c)
  have HE := hide (sgn_eq c h0 h1)
  have HU : Hid (∀ (n : Nat) (w : World), n ≤ 64 → Calls Tryd.prog 40 #[.int .u64 (IntKind.u64.wrap c), .int .i64 n] w fun e w' => e = .returned (.int .i64 (sgn (IntKind.u64.wrap c) n)) ∧ w' = w) :=
    fun n w hn => signed_any _ n w u0 u1 hn
  have h4 := P.cls_le c
  clear hu u0 u1
  generalize hW : w.alloc (.cells #[.int .u64 0, .int .i64 0, .int .i64 0] 62) = W
  have hbW : Below w.heap.size w W := by rw [← hW]; exact (Below.refl _ _).alloc (Nat.le_refl _) _
  have r0 : W.cell? ⟨w.heap.size, 0, none⟩ = some (.int .u64 0) := by rw [← hW]; simp
  have r1 : W.cell? ⟨w.heap.size, 1, none⟩ = some (.int .i64 0) := by rw [← hW]; simp
  have r2 : W.cell? ⟨w.heap.size, 2, none⟩ = some (.int .i64 0) := by rw [← hW]; simp
  have f0 : W.frozen? ⟨w.heap.size, 0, none⟩ = false := by rw [← hW]; simp
  have f1 : W.frozen? ⟨w.heap.size, 1, none⟩ = false := by rw [← hW]; simp
  have f2 : W.frozen? ⟨w.heap.size, 2, none⟩ = false := by rw [← hW]; simp
  obtain ⟨c0, c1, c2, c3, c4, c5, c6, c7, c8, c9, c10, c11, c12, c13, c14⟩ := (hs.next hbW).all
  have HW := hide hW
  clear hW hs
  go_enter Tryd.func34, Tryd.ntmps34
  go_wp2
  rw [HW.out]
  go_loop [3] (fun i => ∃ j : Nat, j ≤ P.cls c ∧ i = .int .i64 j) (fun i => 5 - (intOf i).toNat)
  case atStart => exact ⟨0, by omega, rfl⟩
  case round =>
    obtain ⟨j, hj, rfl⟩ := hrel
    by_cases hlt : j < P.cls c
    · have hne := HN.out j hlt
      have hst : Hid (j + 1 ≤ P.cls c) := hlt
      match j, hlt, hne, hst with
      | 0, _, hne, hst =>
        have hsg := HU.out 0
        have hd : (sgn (IntKind.u64.wrap c) 0 != c) = true := bne_iff_ne.2 hne
        clear hne
        go_wp2_with (go_at_call 40; refine (hsg _ (by decide)).mono ?_; rintro e w' ⟨rfl, rfl⟩)
        go_round
        case rel => exact ⟨1, hst, by go_num⟩
        case measure => simp [intOf]
      | 1, _, hne, hst =>
        have hsg := HU.out 7
        have hd : (sgn (IntKind.u64.wrap c) 7 != c) = true := bne_iff_ne.2 hne
        clear hne
        go_wp2_with (go_at_call 40; refine (hsg _ (by decide)).mono ?_; rintro e w' ⟨rfl, rfl⟩)
        go_round
        case rel => exact ⟨2, hst, by go_num⟩
        case measure => simp [intOf]
      | 2, _, hne, hst =>
        have hsg := HU.out 9
        have hd : (sgn (IntKind.u64.wrap c) 9 != c) = true := bne_iff_ne.2 hne
        clear hne
        go_wp2_with (go_at_call 40; refine (hsg _ (by decide)).mono ?_; rintro e w' ⟨rfl, rfl⟩)
        go_round
        case rel => exact ⟨3, hst, by go_num⟩
        case measure => simp [intOf]
      | 3, _, hne, hst =>
        have hsg := HU.out 12
        have hd : (sgn (IntKind.u64.wrap c) 12 != c) = true := bne_iff_ne.2 hne
        clear hne
        go_wp2_with (go_at_call 40; refine (hsg _ (by decide)).mono ?_; rintro e w' ⟨rfl, rfl⟩)
        go_round
        case rel => exact ⟨4, hst, by go_num⟩
        case measure => simp [intOf]
      | (n + 4), h, _, _ => omega
    · obtain rfl : j = P.cls c := by omega
      have he := HE.out
      clear HN HE hj hlt
      generalize hk : P.cls c = k at he h4 ⊢
      have HK := hide hk
      clear hk
      match k, h4, he, HK with
      | 0, _, he, HK =>
        have hsg := HU.out 0
        have hd : (sgn (IntKind.u64.wrap c) 0 != c) = false := bne_eq_false_iff_eq.2 he
        clear he
        go_wp2_with (go_at_call 40; refine (hsg _ (by decide)).mono ?_; rintro e w' ⟨rfl, rfl⟩)
        exact bodyPost_ret (v := shapeV 0) (by simp [results, Tryd.results34, go_sem, r0, r1, r2]; rfl) rfl ⟨by rw [HK.out], ((hbW.setCell (by simp) _).setCell (by simp) _).setCell (by simp) _⟩
      | 1, _, he, HK =>
        have hsg := HU.out 7
        have hd : (sgn (IntKind.u64.wrap c) 7 != c) = false := bne_eq_false_iff_eq.2 he
        clear he
        go_wp2_with (go_at_call 40; refine (hsg _ (by decide)).mono ?_; rintro e w' ⟨rfl, rfl⟩)
        exact bodyPost_ret (v := shapeV 1) (by simp [results, Tryd.results34, go_sem, r0, r1, r2]; rfl) rfl ⟨by rw [HK.out], ((hbW.setCell (by simp) _).setCell (by simp) _).setCell (by simp) _⟩
      | 2, _, he, HK =>
        have hsg := HU.out 9
        have hd : (sgn (IntKind.u64.wrap c) 9 != c) = false := bne_eq_false_iff_eq.2 he
        clear he
        go_wp2_with (go_at_call 40; refine (hsg _ (by decide)).mono ?_; rintro e w' ⟨rfl, rfl⟩)
        exact bodyPost_ret (v := shapeV 2) (by simp [results, Tryd.results34, go_sem, r0, r1, r2]; rfl) rfl ⟨by rw [HK.out], ((hbW.setCell (by simp) _).setCell (by simp) _).setCell (by simp) _⟩
      | 3, _, he, HK =>
        have hsg := HU.out 12
        have hd : (sgn (IntKind.u64.wrap c) 12 != c) = false := bne_eq_false_iff_eq.2 he
        clear he
        go_wp2_with (go_at_call 40; refine (hsg _ (by decide)).mono ?_; rintro e w' ⟨rfl, rfl⟩)
        exact bodyPost_ret (v := shapeV 3) (by simp [results, Tryd.results34, go_sem, r0, r1, r2]; rfl) rfl ⟨by rw [HK.out], ((hbW.setCell (by simp) _).setCell (by simp) _).setCell (by simp) _⟩
      | 4, _, he, HK =>
        clear he
        go_wp2
        exact bodyPost_ret (v := shapeV 4) (by simp [results, Tryd.results34, go_sem, r0, r1, r2]; rfl) rfl ⟨by rw [HK.out], ((hbW.setCell (by simp) _).setCell (by simp) _).setCell (by simp) _⟩
      | (n + 5), h, _, _ => omega
end Go.Proofs.YtlejpbghakaooaaDoor
