/- Several texts in one. -/
import Derived.Test.YtfjbdgkdkbcnhaaDoorPlainAll
import Derived.Test.YtfjbdgkdkbcnhaaDoorTsignsAll
import Derived.Test.YtfjbdgkdkbcnhaaDoorDpullAll
/- Plain: how the document's own TimesOf reads noughts and ones; what its parts answer. -/
namespace Go.Proofs.YtfjbdgkdkbcnhaaDoor
open P
namespace D
open Go.RowKit
set_option linter.unusedVariables false
namespace P
def tkX (rs : List Bool) (n : Nat) : List Bool := if rs.length < n then [false] else rs.take n
def tkR (rs : List Bool) (n : Nat) : List Bool := if rs.length < n then [] else rs.drop n
theorem tkX_len (rs : List Bool) (n : Nat) (h : n ≤ 64) : (tkX rs n).length ≤ 64 := by
  unfold tkX; split
  · simp
  · rw [List.length_take]; omega
theorem tkX_pos (rs : List Bool) (n : Nat) (h : 0 < n) : 0 < (tkX rs n).length := by
  unfold tkX; split
  · simp
  · rw [List.length_take]; omega
theorem tkR_len (rs : List Bool) (n : Nat) : (tkR rs n).length ≤ rs.length := by
  unfold tkR; split
  · simp
  · rw [List.length_drop]; omega
/-- The number of signs, its first one its sign. -/
def rsg (Y : List Bool) : Int := wrap64 ((val Y + (if bit Y 0 = 1 then 18446744073709551616 - 2 ^ Y.length else 0) : Nat) : Int)
theorem rsg_lo (Y : List Bool) : -9223372036854775808 ≤ rsg Y := wrap64_lo _
theorem rsg_hi (Y : List Bool) : rsg Y ≤ 9223372036854775807 := wrap64_hi _
theorem bit_top (Y : List Bool) (L : Nat) (h : Y.length = L + 1) : bit Y 0 = val Y / 2 ^ L := by
  match Y, h with
  | b :: Y, h =>
    simp at h
    subst h
    have hv := val_lt Y
    rw [val_cons]
    have : bit (b :: Y) 0 = b.toNat := rfl
    rw [this, Nat.mul_comm, Nat.mul_add_div (Nat.pow_pos (by decide)), Nat.div_eq_of_lt hv]
    rfl
theorem rsg_sgn (Y : List Bool) (k : Nat) (h0 : 0 < k) (h4 : k ≤ 4) (h : Y.length = wd k) : rsg Y = Go.Proofs.YtfjbdgkdkbcnhaaDoor.D.sgn (val Y : Nat) (wd k) := by
  have hv := val_lt Y
  unfold rsg
  have : k = 1 ∨ k = 2 ∨ k = 3 ∨ k = 4 := by omega
  rcases this with rfl | rfl | rfl | rfl
  · have h : Y.length = 7 := h
    have hb := bit_top Y 6 h
    rw [h] at hv ⊢
    show _ = Go.Proofs.YtfjbdgkdkbcnhaaDoor.D.sgn _ 7
    rw [sgn7, hb]
    generalize val Y = v at hv
    split <;> (unfold wrap64; omega)
  · have h : Y.length = 9 := h
    have hb := bit_top Y 8 h
    rw [h] at hv ⊢
    show _ = Go.Proofs.YtfjbdgkdkbcnhaaDoor.D.sgn _ 9
    rw [sgn9, hb]
    generalize val Y = v at hv
    split <;> (unfold wrap64; omega)
  · have h : Y.length = 12 := h
    have hb := bit_top Y 11 h
    rw [h] at hv ⊢
    show _ = Go.Proofs.YtfjbdgkdkbcnhaaDoor.D.sgn _ 12
    rw [sgn12, hb]
    generalize val Y = v at hv
    split <;> (unfold wrap64; omega)
  · have h : Y.length = 64 := h
    have hb := bit_top Y 63 h
    rw [h] at hv ⊢
    show _ = Go.Proofs.YtfjbdgkdkbcnhaaDoor.D.sgn _ 64
    rw [sgn64]
    generalize val Y = v at hv
    have e : (18446744073709551616 - 2 ^ 64 : Nat) = 0 := by decide
    rw [e]
    split <;> rfl
/-- What the inner loop finds: a head, and what stands behind it; or none, and nothing. -/
def HdR (rs : List Bool) (k : Nat) (R : List Bool) : Prop := k ≤ 4 ∧ ((Head rs k ∧ R = rs.drop (hb k)) ∨ ((∀ k', ¬ Head rs k') ∧ R = []))
def cOf (k : Nat) (R : List Bool) : Int := if k = 0 then 0 else rsg (tkX R (wd k))
theorem cOf_lo (k : Nat) (R : List Bool) : -9223372036854775808 ≤ cOf k R ∧ cOf k R ≤ 9223372036854775807 := by
  unfold cOf; split
  · decide
  · exact ⟨rsg_lo _, rsg_hi _⟩
/-- The condition that the loops keep. -/
def Cnd (bs : List Bool) (many : Nat) (acc : List Int) (rs : List Bool) : Prop := ∀ m, Isx bs m → m.length = many ∧ m.take acc.length = acc ∧ rs = bs.drop (front acc many acc.length).length
theorem cnd_start (bs : List Bool) : Cnd bs (val (tkX bs 16)) [] (tkR bs 16) := by
  intro m hm
  obtain ⟨h16, hc⟩ := hm.is.count
  have e1 : tkX bs 16 = bs.take 16 := by unfold tkX; rw [if_neg (by omega)]
  have e2 : tkR bs 16 = bs.drop 16 := by unfold tkR; rw [if_neg (by omega)]
  rw [e1, e2]
  refine ⟨hc.symm, rfl, ?_⟩
  show _ = bs.drop (front [] _ 0).length
  rw [front_zero, ofVal_len]
theorem cnd_at {bs : List Bool} {many : Nat} {acc : List Int} {rs : List Bool} (h : Cnd bs many acc rs) (hl : acc.length < many) (m : List Int) (hm : Isx bs m) : Fr rs (tb m acc.length) := by
  obtain ⟨h1, h2, h3⟩ := h m hm
  have h4 := hm.is.at h2 (by omega)
  rw [h1] at h4
  rw [h3]
  exact h4
theorem cnd_next {bs : List Bool} {many : Nat} {acc : List Int} {rs R' : List Bool} {y : Int} (h : Cnd bs many acc rs) (hl : acc.length < many)
    (hy : ∀ m, Isx bs m → m.getD acc.length 0 = y) (hR : ∀ m, Isx bs m → R' = rs.drop (tb m acc.length).length) : Cnd bs many (acc ++ [y]) R' := by
  intro m hm
  obtain ⟨h1, h2, h3⟩ := h m hm
  have e1 : (acc ++ [y]).length = acc.length + 1 := by simp
  have e2 : m.take (acc.length + 1) = acc ++ [y] := by rw [take_next m acc h2 (by omega), hy m hm]
  refine ⟨h1, by rw [e1]; exact e2, ?_⟩
  rw [e1, hR m hm, h3, List.drop_drop, front_succ, List.length_append, front_app acc [y] many acc.length (Nat.le_refl _)]
  have e3 : tb (acc ++ [y]) acc.length = tb m acc.length := by
    have := tb_app (acc ++ [y]) (m.drop (acc.length + 1)) acc.length (by simp)
    rw [← e2, List.take_append_drop] at this
    rw [e2] at this
    exact this.symm
  rw [e3]
theorem cnd_first {bs : List Bool} {many : Nat} {acc : List Int} {rs : List Bool} (h : Cnd bs many acc rs) (hz : acc.length = 0) (hl : acc.length < many) : Cnd bs many (acc ++ [wrap64 (val (tkX rs 64) : Nat)]) (tkR rs 64) := by
  have key : ∀ m, Isx bs m → 64 ≤ rs.length ∧ m.getD 0 0 = wrap64 (val (rs.take 64) : Nat) := fun m hm => by
    have h4 := cnd_at h hl m hm
    rw [hz] at h4
    exact first_full rs m hm.2.1 h4
  refine cnd_next h hl (fun m hm => ?_) (fun m hm => ?_)
  · have := key m hm
    rw [hz, this.2]
    unfold tkX; rw [if_neg (by omega)]
  · have := key m hm
    rw [hz, tb_zero, ofVal_len]
    unfold tkR; rw [if_neg (by omega)]
theorem cnd_change {bs : List Bool} {many : Nat} {acc : List Int} {rs : List Bool} (h : Cnd bs many acc rs) (hp : 0 < acc.length) (hl : acc.length < many) (k : Nat) (R : List Bool) (hd : HdR rs k R) (y : Int) (hy : y = nxt acc (cOf k R)) :
    Cnd bs many (acc ++ [y]) (tkR R (wd k)) := by
  have key : ∀ m, Isx bs m → tb m acc.length = chg (cg m acc.length) ∧ cls (cg m acc.length) = k ∧ wd k ≤ R.length ∧ R = rs.drop (hb k) ∧ cOf k R = cg m acc.length ∧ Fr rs (chg (cg m acc.length)) := fun m hm => by
    have h4 := cnd_at h hl m hm
    have e1 : tb m acc.length = chg (cg m acc.length) := by unfold tb; rw [if_neg (by omega)]
    rw [e1] at h4
    obtain ⟨a1, a2, a3⟩ := read_full rs (cg m acc.length) (wrap64_lo _) (wrap64_hi _) h4
    obtain ⟨hk4, hd⟩ := hd
    rcases hd with ⟨hd1, hd2⟩ | ⟨hd1, _⟩
    · have ek := head_one rs _ _ a1 hd1
      rw [ek] at a2 a3
      refine ⟨e1, ek, by rw [hd2, List.length_drop]; omega, hd2, ?_, h4⟩
      unfold cOf
      split
      · rename_i h0
        subst h0
        rw [← a3]
        show (0 : Int) = Go.Proofs.YtfjbdgkdkbcnhaaDoor.D.sgn _ 0
        rw [sgn0]
      · have hlen : ((rs.drop (hb k)).take (wd k)).length = wd k := by rw [List.length_take, List.length_drop]; omega
        have e2 : tkX R (wd k) = (rs.drop (hb k)).take (wd k) := by
          unfold tkX; rw [hd2, if_neg (by rw [List.length_drop]; omega)]
        rw [e2, rsg_sgn _ k (by omega) hk4 hlen, a3]
    · exact absurd a1 (hd1 _)
  refine cnd_next h hl (fun m hm => ?_) (fun m hm => ?_)
  · obtain ⟨e1, ek, _, _, ec, hf⟩ := key m hm
    have h4 := cnd_at h hl m hm
    rw [hy, ec]
    exact next_full m acc hm.2.1 (h m hm).2.1 hp _ (wrap64_lo _) (wrap64_hi _) rs hf h4
  · obtain ⟨e1, ek, hl2, hR, _, _⟩ := key m hm
    rw [e1, chg_len, ek]
    unfold tkR
    rw [if_neg (by omega), hR, List.drop_drop]
/-- At the end all is read. -/
theorem cnd_end {bs : List Bool} {many : Nat} {acc : List Int} {rs : List Bool} (h : Cnd bs many acc rs) (hl : acc.length ≤ many) (he : many ≤ acc.length ∨ rs = []) (m : List Int) (hm : Isx bs m) : acc = m := by
  obtain ⟨h1, h2, h3⟩ := h m hm
  rcases Nat.lt_or_ge acc.length many with h4 | h4
  · have h5 := (cnd_at h h4 m hm).len
    have h6 : 1 ≤ (tb m acc.length).length := by
      unfold tb; split
      · rw [ofVal_len]; omega
      · rw [chg_len]; have : 1 ≤ hb (cls (cg m acc.length)) := by unfold hb; (repeat' split) <;> omega
        omega
    rcases he with he | he
    · omega
    · rw [he, List.length_nil] at h5; omega
  · have : acc.length = m.length := by omega
    rw [this, List.take_length] at h2
    exact h2.symm
theorem nxt_alt (acc : List Int) (c : Int) : wrap64 (wrap64 (lst acc acc.length + stp acc acc.length) + c) = nxt acc c := by
  unfold nxt wrap64; omega
end P

theorem extract_front (rs : List Bool) (n : Nat) : (P.strB rs).extract 0 n = P.strB (rs.take n) := by rw [P.strB_extract]; simp
theorem extract_rest (rs : List Bool) (n : Nat) : (P.strB rs).extract n (P.strB rs).size = P.strB (rs.drop n) := by
  rw [P.strB_extract, P.strB_size, List.take_of_length_le (by rw [List.length_drop]; omega)]
set_option maxHeartbeats 1000000 in
theorem take_any (bx n : Nat) (rs : List Bool) (w : World) (hc : w.cell? ⟨bx, 0, none⟩ = some (.string (P.strB rs))) (hf : w.frozen? ⟨bx, 0, none⟩ = false) (hn : n ≤ 64) (hl : rs.length ≤ 4000) :
    Calls Tryd.prog 51 #[.int .i64 n, .pointer (some ⟨bx, 0, none⟩)] w fun e w' => e = .returned (.string (P.strB (P.tkX rs n))) ∧ w' = w.setCell ⟨bx, 0, none⟩ (.string (P.strB (P.tkR rs n))) := by
  have hsz := P.strB_size rs
  have hsz1 := Nat.le_of_eq hsz
  have hsz2 := Nat.le_of_eq hsz.symm
  by_cases h : rs.length < n
  · have e1 : P.tkX rs n = [false] := by unfold P.tkX; rw [if_pos h]
    have e2 : P.tkR rs n = [] := by unfold P.tkR; rw [if_pos h]
    rw [e1, e2, ← P.lit0]
    clear e1 e2 hsz
    generalize P.strB rs = s at *
    go_enter Tryd.func51, Tryd.ntmps51
    go_wp2
    go_ret
    exact ⟨rfl, rfl⟩
  · have e1 : P.tkX rs n = rs.take n := by unfold P.tkX; rw [if_neg h]
    have e2 : P.tkR rs n = rs.drop n := by unfold P.tkR; rw [if_neg h]
    rw [e1, e2, ← extract_front, ← extract_rest]
    clear e1 e2 hsz
    generalize P.strB rs = s at *
    have hd : decide ((s.size : Int) < (n : Int)) = false := by simp; omega
    go_enter Tryd.func51, Tryd.ntmps51
    go_wp2
    go_ret
    exact ⟨rfl, rfl⟩
end D
end Go.Proofs.YtfjbdgkdkbcnhaaDoor
/- What the document's own signed and TimesOf answer. -/
namespace Go.Proofs.YtfjbdgkdkbcnhaaDoor
open P
namespace D
open Go.RowKit
set_option linter.unusedVariables false
theorem add_bit (v i L : Nat) (hv : v < 2 ^ L) (hL : L ≤ i) (hi : i < 64) : IntKind.u64.wrap (((v + (2 ^ i - 2 ^ L) : Nat) : Int) + IntKind.u64.wrap (2 ^ i)) = ((v + (2 ^ (i + 1) - 2 ^ L) : Nat) : Int) := by
  have h1 : (2 : Nat) ^ L ≤ 2 ^ i := Nat.pow_le_pow_right (by decide) hL
  have h2 : (2 : Nat) ^ i ≤ 2 ^ 63 := Nat.pow_le_pow_right (by decide) (by omega)
  have h3 : ((2 : Int) ^ i) = ((2 ^ i : Nat) : Int) := by simp
  have h4 : (2 : Nat) ^ (i + 1) = 2 * 2 ^ i := by rw [Nat.pow_succ]; omega
  rw [IntKind.wrap_u64, IntKind.wrap_u64, h3, h4]
  generalize (2 : Nat) ^ i = p at *
  generalize (2 : Nat) ^ L = r at *
  omega
set_option maxHeartbeats 1000000 in
theorem refSigned_any (Y : List Bool) (w : World) (h0 : 0 < Y.length) (h1 : Y.length ≤ 64) :
    Calls Tryd.prog 52 #[.string (P.strB Y)] w fun e w' => e = .returned (.int .i64 (P.rsg Y)) ∧ w' = w := by
  have HV := hide (valueOf_any Y w h1)
  have hsz := P.strB_size Y
  have hsz1 := Nat.le_of_eq hsz
  have hsz2 := Nat.le_of_eq hsz.symm
  have HAt := hide (P.strB_at Y)
  have hbl := P.bit_le Y 0
  have hv := P.val_lt Y
  have hR : Hid (P.rsg Y = wrap64 ((P.val Y + (if P.bit Y 0 = 1 then 18446744073709551616 - 2 ^ Y.length else 0) : Nat) : Int)) := rfl
  have hv64 : P.val Y < 18446744073709551616 := Nat.lt_of_lt_of_le hv (by
    have : (2 : Nat) ^ Y.length ≤ 2 ^ 64 := Nat.pow_le_pow_right (by decide) h1
    omega)
  have HA := hide (fun i hL hi => add_bit (P.val Y) i Y.length hv hL hi)
  generalize P.rsg Y = res at hR ⊢
  generalize P.val Y = v at *
  generalize P.strB Y = s at *
  generalize hL : Y.length = L at *
  clear hL hsz
  have hs0 : 0 < s.size := by omega
  have hat := HAt.out 0 hs0
  clear HAt
  by_cases hb : P.bit Y 0 = 1
  · rw [if_pos hb] at hR
    have ht : ((s[0].toNat : Int) == 49) = true := by rw [beq_iff_eq, hat, hb]; rfl
    clear hb hat hbl
    go_enter Tryd.func52, Tryd.ntmps52
    go_wp2_with (go_at_call 43; go_must (refine HV.out.mono ?_); rintro e w' ⟨rfl, rfl⟩)
    go_loop [3, 4] (fun x i => ∃ j : Nat, L ≤ j ∧ j ≤ 64 ∧ i = .int .i64 j ∧ x = .int .u64 ((v + (2 ^ j - 2 ^ L) : Nat) : Int)) (fun _ i => 64 - (intOf i).toNat)
    case atStart => exact ⟨L, by omega, h1, by congr 1; omega, by simp⟩
    case round =>
      obtain ⟨j, hj0, hj, rfl, rfl⟩ := hrel
      by_cases hlt : j < 64
      · have HB := hide (HA.out j hj0 hlt)
        go_wp2
        go_round
        case rel => exact ⟨j + 1, by omega, by omega, by go_num, by rw [← HB.out, Int.natCast_add]⟩
        case measure => simp [intOf]; omega
      · obtain rfl : j = 64 := by omega
        go_wp2
        go_ret
        exact ⟨ret_int (by rw [hR.out]; congr 2), rfl⟩
  · rw [if_neg hb, Nat.add_zero] at hR
    have ht : ((s[0].toNat : Int) == 49) = false := by
      rw [beq_eq_false_iff_ne, hat]; omega
    clear hb hat hbl
    go_enter Tryd.func52, Tryd.ntmps52
    go_wp2_with (go_at_call 43; go_must (refine HV.out.mono ?_); rintro e w' ⟨rfl, rfl⟩)
    go_ret
    exact ⟨ret_int hR.out.symm, rfl⟩

/-- take, and what it leaves: n signs, the box' rest, and all else as it was. -/
theorem take_keep (bx n : Nat) (rs : List Bool) (w : World) (hc : w.cell? ⟨bx, 0, none⟩ = some (.string (P.strB rs))) (hf : w.frozen? ⟨bx, 0, none⟩ = false) (hn : n ≤ 64) (hl : rs.length ≤ 4000) :
    Calls Tryd.prog 51 #[.int .i64 n, .pointer (some ⟨bx, 0, none⟩)] w fun e w' => e = .returned (.string (P.strB (P.tkX rs n))) ∧ w'.cell? ⟨bx, 0, none⟩ = some (.string (P.strB (P.tkR rs n))) ∧ w'.frozen? ⟨bx, 0, none⟩ = false ∧
      (∀ (base : Nat) (v : Value) (l : List Int), bx < base → OwnK 2 .i64 w base v l → OwnK 2 .i64 w' base v l) ∧ (∀ w0, Below bx w0 w → Below bx w0 w') ∧ w.heap.size ≤ w'.heap.size := by
  refine (take_any bx n rs w hc hf hn hl).mono ?_
  rintro e w' ⟨rfl, rfl⟩
  exact ⟨rfl, World.cell?_setCell_same _ _ _ hc, (World.frozen?_setCell _ _ _ _).trans hf, fun base v l hb h => ownsRow_setCell_below h hb _, fun w0 h => h.setCell (Nat.le_refl _) _, by simp⟩
theorem tk1_one (r : List Bool) : P.strB (P.tkX (true :: r) 1) = ⟨#[49]⟩ ∧ P.tkR (true :: r) 1 = r := by
  unfold P.tkX P.tkR; simp; rfl
theorem tk1_zero (r : List Bool) (h : P.bit r 0 = 0) : P.strB (P.tkX r 1) = ⟨#[48]⟩ ∧ P.tkR r 1 = r.drop 1 := by
  match r, h with
  | [], _ => exact ⟨rfl, rfl⟩
  | false :: r, _ => exact ⟨rfl, by unfold P.tkR; simp⟩
theorem hb_lt (k : Nat) (h : k < 4) : P.hb k = k + 1 := by
  have : k = 0 ∨ k = 1 ∨ k = 2 ∨ k = 3 := by omega
  rcases this with rfl | rfl | rfl | rfl <;> rfl
theorem hdr_zero (rs : List Bool) (k : Nat) (hk : k < 4) (hX : rs.take k = List.replicate k true) (hz : P.bit (rs.drop k) 0 = 0) : P.HdR rs k ((rs.drop k).drop 1) := by
  refine ⟨by omega, ?_⟩
  rw [List.drop_drop]
  rcases Nat.lt_or_ge k rs.length with h | h
  · rw [bit_drop] at hz
    exact .inl ⟨P.head_zero rs k hk hX h hz, by rw [hb_lt k hk]⟩
  · exact .inr ⟨fun k' => P.no_head rs k hk hX h k', List.drop_of_length_le (by omega)⟩
theorem hdr_four (rs : List Bool) (hX : rs.take 4 = List.replicate 4 true) : P.HdR rs 4 (rs.drop 4) := ⟨by omega, .inl ⟨P.head_four rs hX, rfl⟩⟩
theorem ones_step (rs : List Bool) (k : Nat) (hX : rs.take k = List.replicate k true) (hz : P.bit (rs.drop k) 0 ≠ 0) : rs.take (k + 1) = List.replicate (k + 1) true ∧ ∃ r, rs.drop k = true :: r ∧ r = rs.drop (k + 1) := by
  rw [bit_drop] at hz
  have hl : k < rs.length := by
    rcases Nat.lt_or_ge k rs.length with h | h
    · exact h
    · exact absurd (P.bit_past rs (k + 0) (by omega)) hz
  refine ⟨P.ones_next rs k hX hl hz, rs.drop (k + 1), ?_, rfl⟩
  rw [List.drop_eq_getElem_cons hl]
  unfold P.bit at hz
  rw [Nat.add_zero, List.getD_eq_getElem?_getD, List.getElem?_eq_getElem hl, Option.getD_some] at hz
  have : rs[k] = true := by cases h : rs[k] <;> simp_all
  rw [this]
end D
end Go.Proofs.YtfjbdgkdkbcnhaaDoor
