/- Plain: how the document's own TimesOf reads noughts and ones; what its parts answer. -/
import Derived.Test.YtlejpbghakaooaaDoorTsigns
import Derived.Test.YtlejpbghakaooaaDoorDunpack
namespace Go.Proofs.YtlejpbghakaooaaDoor
open Go.RowKit
set_option linter.unusedVariables false
namespace P
def tkX (rs : List Bool) (n : Nat) : List Bool := if rs.length < n then [false] else rs.take n
def tkR (rs : List Bool) (n : Nat) : List Bool := if rs.length < n then [] else rs.drop n
theorem tkX_len (rs : List Bool) (n : Nat) (h : n ≤ 64) : (tkX rs n).length ≤ 64 := by
  unfold tkX; split
  · simp
  · rw [List.length_take]; omega
theorem tkX_pos (rs : List Bool) (n : Nat) (h : 0 < n) : 0 < (tkX rs n).length := by
  unfold tkX; split
  · simp
  · rw [List.length_take]; omega
theorem tkR_len (rs : List Bool) (n : Nat) : (tkR rs n).length ≤ rs.length := by
  unfold tkR; split
  · simp
  · rw [List.length_drop]; omega
/-- The number of signs, its first one its sign. -/
def rsg (Y : List Bool) : Int := wrap64 ((val Y + (if bit Y 0 = 1 then 18446744073709551616 - 2 ^ Y.length else 0) : Nat) : Int)
theorem rsg_lo (Y : List Bool) : -9223372036854775808 ≤ rsg Y := wrap64_lo _
theorem rsg_hi (Y : List Bool) : rsg Y ≤ 9223372036854775807 := wrap64_hi _
theorem bit_top (Y : List Bool) (L : Nat) (h : Y.length = L + 1) : bit Y 0 = val Y / 2 ^ L := by
  match Y, h with
  | b :: Y, h =>
    simp at h
    subst h
    have hv := val_lt Y
    rw [val_cons]
    have : bit (b :: Y) 0 = b.toNat := rfl
    rw [this, Nat.mul_comm, Nat.mul_add_div (Nat.pow_pos (by decide)), Nat.div_eq_of_lt hv]
    rfl
theorem rsg_sgn (Y : List Bool) (k : Nat) (h0 : 0 < k) (h4 : k ≤ 4) (h : Y.length = wd k) : rsg Y = Go.Proofs.YtlejpbghakaooaaDoor.sgn (val Y : Nat) (wd k) := by
  have hv := val_lt Y
  unfold rsg
  have : k = 1 ∨ k = 2 ∨ k = 3 ∨ k = 4 := by omega
  rcases this with rfl | rfl | rfl | rfl
  · have h : Y.length = 7 := h
    have hb := bit_top Y 6 h
    rw [h] at hv ⊢
    show _ = Go.Proofs.YtlejpbghakaooaaDoor.sgn _ 7
    rw [sgn7, hb]
    generalize val Y = v at hv
    split <;> (unfold wrap64; omega)
  · have h : Y.length = 9 := h
    have hb := bit_top Y 8 h
    rw [h] at hv ⊢
    show _ = Go.Proofs.YtlejpbghakaooaaDoor.sgn _ 9
    rw [sgn9, hb]
    generalize val Y = v at hv
    split <;> (unfold wrap64; omega)
  · have h : Y.length = 12 := h
    have hb := bit_top Y 11 h
    rw [h] at hv ⊢
    show _ = Go.Proofs.YtlejpbghakaooaaDoor.sgn _ 12
    rw [sgn12, hb]
    generalize val Y = v at hv
    split <;> (unfold wrap64; omega)
  · have h : Y.length = 64 := h
    have hb := bit_top Y 63 h
    rw [h] at hv ⊢
    show _ = Go.Proofs.YtlejpbghakaooaaDoor.sgn _ 64
    rw [sgn64]
    generalize val Y = v at hv
    have e : (18446744073709551616 - 2 ^ 64 : Nat) = 0 := by decide
    rw [e]
    split <;> rfl
/-- What the inner loop finds: a head, and what stands behind it; or none, and nothing. -/
def HdR (rs : List Bool) (k : Nat) (R : List Bool) : Prop := k ≤ 4 ∧ ((Head rs k ∧ R = rs.drop (hb k)) ∨ ((∀ k', ¬ Head rs k') ∧ R = []))
def cOf (k : Nat) (R : List Bool) : Int := if k = 0 then 0 else rsg (tkX R (wd k))
theorem cOf_lo (k : Nat) (R : List Bool) : -9223372036854775808 ≤ cOf k R ∧ cOf k R ≤ 9223372036854775807 := by
  unfold cOf; split
  · decide
  · exact ⟨rsg_lo _, rsg_hi _⟩
/-- The condition that the loops keep. -/
def Cnd (bs : List Bool) (many : Nat) (acc : List Int) (rs : List Bool) : Prop := ∀ m, Isx bs m → m.length = many ∧ m.take acc.length = acc ∧ rs = bs.drop (front acc many acc.length).length
theorem cnd_start (bs : List Bool) : Cnd bs (val (tkX bs 16)) [] (tkR bs 16) := by
  intro m hm
  obtain ⟨h16, hc⟩ := hm.is.count
  have e1 : tkX bs 16 = bs.take 16 := by unfold tkX; rw [if_neg (by omega)]
  have e2 : tkR bs 16 = bs.drop 16 := by unfold tkR; rw [if_neg (by omega)]
  rw [e1, e2]
  refine ⟨hc.symm, rfl, ?_⟩
  show _ = bs.drop (front [] _ 0).length
  rw [front_zero, ofVal_len]
theorem cnd_at {bs : List Bool} {many : Nat} {acc : List Int} {rs : List Bool} (h : Cnd bs many acc rs) (hl : acc.length < many) (m : List Int) (hm : Isx bs m) : Fr rs (tb m acc.length) := by
  obtain ⟨h1, h2, h3⟩ := h m hm
  have h4 := hm.is.at h2 (by omega)
  rw [h1] at h4
  rw [h3]
  exact h4
theorem cnd_next {bs : List Bool} {many : Nat} {acc : List Int} {rs R' : List Bool} {y : Int} (h : Cnd bs many acc rs) (hl : acc.length < many)
    (hy : ∀ m, Isx bs m → m.getD acc.length 0 = y) (hR : ∀ m, Isx bs m → R' = rs.drop (tb m acc.length).length) : Cnd bs many (acc ++ [y]) R' := by
  intro m hm
  obtain ⟨h1, h2, h3⟩ := h m hm
  have e1 : (acc ++ [y]).length = acc.length + 1 := by simp
  have e2 : m.take (acc.length + 1) = acc ++ [y] := by rw [take_next m acc h2 (by omega), hy m hm]
  refine ⟨h1, by rw [e1]; exact e2, ?_⟩
  rw [e1, hR m hm, h3, List.drop_drop, front_succ, List.length_append, front_app acc [y] many acc.length (Nat.le_refl _)]
  have e3 : tb (acc ++ [y]) acc.length = tb m acc.length := by
    have := tb_app (acc ++ [y]) (m.drop (acc.length + 1)) acc.length (by simp)
    rw [← e2, List.take_append_drop] at this
    rw [e2] at this
    exact this.symm
  rw [e3]
theorem cnd_first {bs : List Bool} {many : Nat} {acc : List Int} {rs : List Bool} (h : Cnd bs many acc rs) (hz : acc.length = 0) (hl : acc.length < many) : Cnd bs many (acc ++ [wrap64 (val (tkX rs 64) : Nat)]) (tkR rs 64) := by
  have key : ∀ m, Isx bs m → 64 ≤ rs.length ∧ m.getD 0 0 = wrap64 (val (rs.take 64) : Nat) := fun m hm => by
    have h4 := cnd_at h hl m hm
    rw [hz] at h4
    exact first_full rs m hm.2.1 h4
  refine cnd_next h hl (fun m hm => ?_) (fun m hm => ?_)
  · have := key m hm
    rw [hz, this.2]
    unfold tkX; rw [if_neg (by omega)]
  · have := key m hm
    rw [hz, tb_zero, ofVal_len]
    unfold tkR; rw [if_neg (by omega)]
theorem cnd_change {bs : List Bool} {many : Nat} {acc : List Int} {rs : List Bool} (h : Cnd bs many acc rs) (hp : 0 < acc.length) (hl : acc.length < many) (k : Nat) (R : List Bool) (hd : HdR rs k R) (y : Int) (hy : y = nxt acc (cOf k R)) :
    Cnd bs many (acc ++ [y]) (tkR R (wd k)) := by
  have key : ∀ m, Isx bs m → tb m acc.length = chg (cg m acc.length) ∧ cls (cg m acc.length) = k ∧ wd k ≤ R.length ∧ R = rs.drop (hb k) ∧ cOf k R = cg m acc.length ∧ Fr rs (chg (cg m acc.length)) := fun m hm => by
    have h4 := cnd_at h hl m hm
    have e1 : tb m acc.length = chg (cg m acc.length) := by unfold tb; rw [if_neg (by omega)]
    rw [e1] at h4
    obtain ⟨a1, a2, a3⟩ := read_full rs (cg m acc.length) (wrap64_lo _) (wrap64_hi _) h4
    obtain ⟨hk4, hd⟩ := hd
    rcases hd with ⟨hd1, hd2⟩ | ⟨hd1, _⟩
    · have ek := head_one rs _ _ a1 hd1
      rw [ek] at a2 a3
      refine ⟨e1, ek, by rw [hd2, List.length_drop]; omega, hd2, ?_, h4⟩
      unfold cOf
      split
      · rename_i h0
        subst h0
        rw [← a3]
        show (0 : Int) = Go.Proofs.YtlejpbghakaooaaDoor.sgn _ 0
        rw [sgn0]
      · have hlen : ((rs.drop (hb k)).take (wd k)).length = wd k := by rw [List.length_take, List.length_drop]; omega
        have e2 : tkX R (wd k) = (rs.drop (hb k)).take (wd k) := by
          unfold tkX; rw [hd2, if_neg (by rw [List.length_drop]; omega)]
        rw [e2, rsg_sgn _ k (by omega) hk4 hlen, a3]
    · exact absurd a1 (hd1 _)
  refine cnd_next h hl (fun m hm => ?_) (fun m hm => ?_)
  · obtain ⟨e1, ek, _, _, ec, hf⟩ := key m hm
    have h4 := cnd_at h hl m hm
    rw [hy, ec]
    exact next_full m acc hm.2.1 (h m hm).2.1 hp _ (wrap64_lo _) (wrap64_hi _) rs hf h4
  · obtain ⟨e1, ek, hl2, hR, _, _⟩ := key m hm
    rw [e1, chg_len, ek]
    unfold tkR
    rw [if_neg (by omega), hR, List.drop_drop]
/-- At the end all is read. -/
theorem cnd_end {bs : List Bool} {many : Nat} {acc : List Int} {rs : List Bool} (h : Cnd bs many acc rs) (hl : acc.length ≤ many) (he : many ≤ acc.length ∨ rs = []) (m : List Int) (hm : Isx bs m) : acc = m := by
  obtain ⟨h1, h2, h3⟩ := h m hm
  rcases Nat.lt_or_ge acc.length many with h4 | h4
  · have h5 := (cnd_at h h4 m hm).len
    have h6 : 1 ≤ (tb m acc.length).length := by
      unfold tb; split
      · rw [ofVal_len]; omega
      · rw [chg_len]; have : 1 ≤ hb (cls (cg m acc.length)) := by unfold hb; (repeat' split) <;> omega
        omega
    rcases he with he | he
    · omega
    · rw [he, List.length_nil] at h5; omega
  · have : acc.length = m.length := by omega
    rw [this, List.take_length] at h2
    exact h2.symm
theorem nxt_alt (acc : List Int) (c : Int) : wrap64 (wrap64 (lst acc acc.length + stp acc acc.length) + c) = nxt acc c := by
  unfold nxt wrap64; omega
end P

theorem extract_front (rs : List Bool) (n : Nat) : (P.strB rs).extract 0 n = P.strB (rs.take n) := by rw [P.strB_extract]; simp
theorem extract_rest (rs : List Bool) (n : Nat) : (P.strB rs).extract n (P.strB rs).size = P.strB (rs.drop n) := by
  rw [P.strB_extract, P.strB_size, List.take_of_length_le (by rw [List.length_drop]; omega)]
set_option maxHeartbeats 1000000 in
theorem take_any (bx n : Nat) (rs : List Bool) (w : World) (hc : w.cell? ⟨bx, 0, none⟩ = some (.string (P.strB rs))) (hf : w.frozen? ⟨bx, 0, none⟩ = false) (hn : n ≤ 64) (hl : rs.length ≤ 2000) :
    Calls Tryd.prog 27 #[.int .i64 n, .pointer (some ⟨bx, 0, none⟩)] w fun e w' => e = .returned (.string (P.strB (P.tkX rs n))) ∧ w' = w.setCell ⟨bx, 0, none⟩ (.string (P.strB (P.tkR rs n))) := by
  have hsz := P.strB_size rs
  have hsz1 := Nat.le_of_eq hsz
  have hsz2 := Nat.le_of_eq hsz.symm
  by_cases h : rs.length < n
  · have e1 : P.tkX rs n = [false] := by unfold P.tkX; rw [if_pos h]
    have e2 : P.tkR rs n = [] := by unfold P.tkR; rw [if_pos h]
    rw [e1, e2, ← P.lit0]
    clear e1 e2 hsz
    generalize P.strB rs = s at *
    go_enter Tryd.func27, Tryd.ntmps27
    go_wp2
    go_ret
    exact ⟨rfl, rfl⟩
  · have e1 : P.tkX rs n = rs.take n := by unfold P.tkX; rw [if_neg h]
    have e2 : P.tkR rs n = rs.drop n := by unfold P.tkR; rw [if_neg h]
    rw [e1, e2, ← extract_front, ← extract_rest]
    clear e1 e2 hsz
    generalize P.strB rs = s at *
    have hd : decide ((s.size : Int) < (n : Int)) = false := by simp; omega
    go_enter Tryd.func27, Tryd.ntmps27
    go_wp2
    go_ret
    exact ⟨rfl, rfl⟩
end Go.Proofs.YtlejpbghakaooaaDoor
