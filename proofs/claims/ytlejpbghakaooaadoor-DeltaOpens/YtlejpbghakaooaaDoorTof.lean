/- What the document's own signed and TimesOf answer. -/
import Derived.Test.YtlejpbghakaooaaDoorTofP
namespace Go.Proofs.YtlejpbghakaooaaDoor
open Go.RowKit
set_option linter.unusedVariables false
theorem add_bit (v i L : Nat) (hv : v < 2 ^ L) (hL : L ≤ i) (hi : i < 64) : IntKind.u64.wrap (((v + (2 ^ i - 2 ^ L) : Nat) : Int) + IntKind.u64.wrap (2 ^ i)) = ((v + (2 ^ (i + 1) - 2 ^ L) : Nat) : Int) := by
  have h1 : (2 : Nat) ^ L ≤ 2 ^ i := Nat.pow_le_pow_right (by decide) hL
  have h2 : (2 : Nat) ^ i ≤ 2 ^ 63 := Nat.pow_le_pow_right (by decide) (by omega)
  have h3 : ((2 : Int) ^ i) = ((2 ^ i : Nat) : Int) := by simp
  have h4 : (2 : Nat) ^ (i + 1) = 2 * 2 ^ i := by rw [Nat.pow_succ]; omega
  rw [IntKind.wrap_u64, IntKind.wrap_u64, h3, h4]
  generalize (2 : Nat) ^ i = p at *
  generalize (2 : Nat) ^ L = r at *
  omega
set_option maxHeartbeats 1000000 in
theorem refSigned_any (Y : List Bool) (w : World) (h0 : 0 < Y.length) (h1 : Y.length ≤ 64) :
    Calls Tryd.prog 28 #[.string (P.strB Y)] w fun e w' => e = .returned (.int .i64 (P.rsg Y)) ∧ w' = w := by
  have HV := hide (valueOf_any Y w h1)
  have hsz := P.strB_size Y
  have hsz1 := Nat.le_of_eq hsz
  have hsz2 := Nat.le_of_eq hsz.symm
  have HAt := hide (P.strB_at Y)
  have hbl := P.bit_le Y 0
  have hv := P.val_lt Y
  have hR : Hid (P.rsg Y = wrap64 ((P.val Y + (if P.bit Y 0 = 1 then 18446744073709551616 - 2 ^ Y.length else 0) : Nat) : Int)) := rfl
  have hv64 : P.val Y < 18446744073709551616 := Nat.lt_of_lt_of_le hv (by
    have : (2 : Nat) ^ Y.length ≤ 2 ^ 64 := Nat.pow_le_pow_right (by decide) h1
    omega)
  have HA := hide (fun i hL hi => add_bit (P.val Y) i Y.length hv hL hi)
  generalize P.rsg Y = res at hR ⊢
  generalize P.val Y = v at *
  generalize P.strB Y = s at *
  generalize hL : Y.length = L at *
  clear hL hsz
  have hs0 : 0 < s.size := by omega
  have hat := HAt.out 0 hs0
  clear HAt
  by_cases hb : P.bit Y 0 = 1
  · rw [if_pos hb] at hR
    have ht : ((s[0].toNat : Int) == 49) = true := by rw [beq_iff_eq, hat, hb]; rfl
    clear hb hat hbl
    go_enter Tryd.func28, Tryd.ntmps28
    go_wp2_with (go_at_call 24; go_must (refine HV.out.mono ?_); rintro e w' ⟨rfl, rfl⟩)
    go_loop [3, 4] (fun x i => ∃ j : Nat, L ≤ j ∧ j ≤ 64 ∧ i = .int .i64 j ∧ x = .int .u64 ((v + (2 ^ j - 2 ^ L) : Nat) : Int)) (fun _ i => 64 - (intOf i).toNat)
    case atStart => exact ⟨L, by omega, h1, by congr 1; omega, by simp⟩
    case round =>
      obtain ⟨j, hj0, hj, rfl, rfl⟩ := hrel
      by_cases hlt : j < 64
      · have HB := hide (HA.out j hj0 hlt)
        go_wp2
        go_round
        case rel => exact ⟨j + 1, by omega, by omega, by go_num, by rw [← HB.out, Int.natCast_add]⟩
        case measure => simp [intOf]; omega
      · obtain rfl : j = 64 := by omega
        go_wp2
        go_ret
        exact ⟨ret_int (by rw [hR.out]; congr 2), rfl⟩
  · rw [if_neg hb, Nat.add_zero] at hR
    have ht : ((s[0].toNat : Int) == 49) = false := by
      rw [beq_eq_false_iff_ne, hat]; omega
    clear hb hat hbl
    go_enter Tryd.func28, Tryd.ntmps28
    go_wp2_with (go_at_call 24; go_must (refine HV.out.mono ?_); rintro e w' ⟨rfl, rfl⟩)
    go_ret
    exact ⟨ret_int hR.out.symm, rfl⟩

/-- take, and what it leaves: n signs, the box' rest, and all else as it was. -/
theorem take_keep (bx n : Nat) (rs : List Bool) (w : World) (hc : w.cell? ⟨bx, 0, none⟩ = some (.string (P.strB rs))) (hf : w.frozen? ⟨bx, 0, none⟩ = false) (hn : n ≤ 64) (hl : rs.length ≤ 2000) :
    Calls Tryd.prog 27 #[.int .i64 n, .pointer (some ⟨bx, 0, none⟩)] w fun e w' => e = .returned (.string (P.strB (P.tkX rs n))) ∧ w'.cell? ⟨bx, 0, none⟩ = some (.string (P.strB (P.tkR rs n))) ∧ w'.frozen? ⟨bx, 0, none⟩ = false ∧
      (∀ (base : Nat) (v : Value) (l : List Int), bx < base → OwnK 2 .i64 w base v l → OwnK 2 .i64 w' base v l) ∧ (∀ w0, Below bx w0 w → Below bx w0 w') ∧ w.heap.size ≤ w'.heap.size := by
  refine (take_any bx n rs w hc hf hn hl).mono ?_
  rintro e w' ⟨rfl, rfl⟩
  exact ⟨rfl, World.cell?_setCell_same _ _ _ hc, (World.frozen?_setCell _ _ _ _).trans hf, fun base v l hb h => ownsRow_setCell_below h hb _, fun w0 h => h.setCell (Nat.le_refl _) _, by simp⟩
theorem tk1_one (r : List Bool) : P.strB (P.tkX (true :: r) 1) = ⟨#[49]⟩ ∧ P.tkR (true :: r) 1 = r := by
  unfold P.tkX P.tkR; simp; rfl
theorem tk1_zero (r : List Bool) (h : P.bit r 0 = 0) : P.strB (P.tkX r 1) = ⟨#[48]⟩ ∧ P.tkR r 1 = r.drop 1 := by
  match r, h with
  | [], _ => exact ⟨rfl, rfl⟩
  | false :: r, _ => exact ⟨rfl, by unfold P.tkR; simp⟩
theorem hb_lt (k : Nat) (h : k < 4) : P.hb k = k + 1 := by
  have : k = 0 ∨ k = 1 ∨ k = 2 ∨ k = 3 := by omega
  rcases this with rfl | rfl | rfl | rfl <;> rfl
theorem hdr_zero (rs : List Bool) (k : Nat) (hk : k < 4) (hX : rs.take k = List.replicate k true) (hz : P.bit (rs.drop k) 0 = 0) : P.HdR rs k ((rs.drop k).drop 1) := by
  refine ⟨by omega, ?_⟩
  rw [List.drop_drop]
  rcases Nat.lt_or_ge k rs.length with h | h
  · rw [bit_drop] at hz
    exact .inl ⟨P.head_zero rs k hk hX h hz, by rw [hb_lt k hk]⟩
  · exact .inr ⟨fun k' => P.no_head rs k hk hX h k', List.drop_of_length_le (by omega)⟩
theorem hdr_four (rs : List Bool) (hX : rs.take 4 = List.replicate 4 true) : P.HdR rs 4 (rs.drop 4) := ⟨by omega, .inl ⟨P.head_four rs hX, rfl⟩⟩
theorem ones_step (rs : List Bool) (k : Nat) (hX : rs.take k = List.replicate k true) (hz : P.bit (rs.drop k) 0 ≠ 0) : rs.take (k + 1) = List.replicate (k + 1) true ∧ ∃ r, rs.drop k = true :: r ∧ r = rs.drop (k + 1) := by
  rw [bit_drop] at hz
  have hl : k < rs.length := by
    rcases Nat.lt_or_ge k rs.length with h | h
    · exact h
    · exact absurd (P.bit_past rs (k + 0) (by omega)) hz
  refine ⟨P.ones_next rs k hX hl hz, rs.drop (k + 1), ?_, rfl⟩
  rw [List.drop_eq_getElem_cons hl]
  unfold P.bit at hz
  rw [Nat.add_zero, List.getD_eq_getElem?_getD, List.getElem?_eq_getElem hl, Option.getD_some] at hz
  have : rs[k] = true := by cases h : rs[k] <;> simp_all
  rw [this]
end Go.Proofs.YtlejpbghakaooaaDoor
