/- Several texts in one. -/
import Derived.Test.YtfjbdgkdkbcnhaaDoorPlainAll
import Derived.Test.YtfjbdgkdkbcnhaaDoorXsignsAll
import Derived.Test.YtfjbdgkdkbcnhaaDoorXtanyAll
/- Plain: how the document's own MeasuresOf reads noughts and ones; what its take answers. -/
namespace Go.Proofs.YtfjbdgkdkbcnhaaDoor
open P
namespace X
open Go.RowKit
set_option linter.unusedVariables false
set_option linter.unusedSimpArgs false
namespace P
def tkX (rs : List Bool) (n : Nat) : List Bool := if rs.length < n then [false] else rs.take n
def tkR (rs : List Bool) (n : Nat) : List Bool := if rs.length < n then rs else rs.drop n
def tkB (bad : Bool) (rs : List Bool) (n : Nat) : Bool := bad || decide (rs.length < n)
theorem tkX_len (rs : List Bool) (n : Nat) (h : n ≤ 64) : (tkX rs n).length ≤ 64 := by
  unfold tkX; split
  · simp
  · rw [List.length_take]; omega
theorem tkX_val (rs : List Bool) (n : Nat) (h : 1 ≤ n) : val (tkX rs n) < 2 ^ n := by
  unfold tkX; split
  · have : val [false] = 0 := rfl
    rw [this]; exact Nat.pow_pos (by decide)
  · exact val_take_len rs n
theorem tkR_len (rs : List Bool) (n : Nat) : (tkR rs n).length ≤ rs.length := by
  unfold tkR; split
  · exact Nat.le_refl _
  · rw [List.length_drop]; omega
theorem tk_full {rs : List Bool} {n : Nat} (h : n ≤ rs.length) (bad : Bool) : tkX rs n = rs.take n ∧ tkR rs n = rs.drop n ∧ tkB bad rs n = bad := by
  unfold tkX tkR tkB
  rw [if_neg (by omega), if_neg (by omega)]
  refine ⟨rfl, rfl, ?_⟩
  have : decide (rs.length < n) = false := by simp; omega
  rw [this, Bool.or_false]
/-- One sign. -/
theorem tk_one (rs : List Bool) (h : val (rs.take 1) = 1) : strB (tkX rs 1) = ⟨#[49]⟩ ∧ 1 ≤ rs.length := by
  match rs, h with
  | [], h => cases h
  | true :: r, _ => exact ⟨by unfold tkX; simp; rfl, by simp⟩
  | false :: r, h => cases h
theorem tk_zero (rs : List Bool) (h : val (rs.take 1) ≠ 1) : strB (tkX rs 1) = ⟨#[48]⟩ := by
  match rs, h with
  | [], _ => rfl
  | true :: r, h => exact absurd rfl h
  | false :: r, _ => unfold tkX; simp; rfl
/-- How the document's own window stands to ours. -/
def Rs (le sz : Int) (p : Nat × Nat) : Prop := p.1 = 64 ∧ p.2 = 64 ∧ le = -1 ∨ p.1 + p.2 ≤ 63 ∧ le = p.1 ∧ sz = ((64 - p.1 - p.2 : Nat) : Int)
/-- The condition that the loop keeps. -/
def Cnd (bs : List Bool) (many : Nat) (acc : List Int) (rs : List Bool) (bad : Bool) (le sz : Int) : Prop := ∀ m, Isx bs m → m.length = many ∧ m.take acc.length = acc ∧ bad = false ∧ rs = bs.drop (front acc many acc.length).length ∧ Rs le sz (win acc acc.length)
theorem cnd_none {bs : List Bool} {many : Nat} {acc : List Int} {rs : List Bool} {bad : Bool} {le sz : Int} (h : ∀ m, ¬ Isx bs m) : Cnd bs many acc rs bad le sz := fun m hm => absurd hm (h m)
theorem cnd_start (bs : List Bool) : Cnd bs (val (tkX bs 16)) [] (tkR bs 16) (tkB false bs 16) (-1) 0 := by
  intro m hm
  obtain ⟨h16, hc⟩ := hm.is.count
  obtain ⟨e1, e2, e3⟩ := tk_full h16 false
  rw [e1, e2, e3]
  refine ⟨hc.symm, rfl, rfl, ?_, .inl ⟨rfl, rfl, rfl⟩⟩
  show _ = bs.drop (front [] _ 0).length
  rw [front_zero, ofVal_len]
theorem cnd_at {bs : List Bool} {many : Nat} {acc : List Int} {rs : List Bool} {bad : Bool} {le sz : Int} (h : Cnd bs many acc rs bad le sz) (hl : acc.length < many) (m : List Int) (hm : Isx bs m) : Fr rs (tb m acc.length) := by
  obtain ⟨h1, h2, _, h3, _⟩ := h m hm
  have h4 := hm.is.at h2 (by omega)
  rw [h1] at h4
  rw [h3]
  exact h4
theorem cnd_next {bs : List Bool} {many : Nat} {acc : List Int} {rs R' : List Bool} {bad bad' : Bool} {le sz le' sz' : Int} {y : Int} (h : Cnd bs many acc rs bad le sz) (hl : acc.length < many)
    (hy : ∀ m, Isx bs m → m.getD acc.length 0 = y ∧ R' = rs.drop (tb m acc.length).length ∧ bad' = false ∧ Rs le' sz' (win (acc ++ [y]) (acc.length + 1))) : Cnd bs many (acc ++ [y]) R' bad' le' sz' := by
  intro m hm
  obtain ⟨h1, h2, _, h3, _⟩ := h m hm
  obtain ⟨y1, y2, y3, y4⟩ := hy m hm
  have e1 : (acc ++ [y]).length = acc.length + 1 := by simp
  have e2 : m.take (acc.length + 1) = acc ++ [y] := by rw [take_next m acc h2 (by omega), y1]
  refine ⟨h1, by rw [e1]; exact e2, y3, ?_, by rw [e1]; exact y4⟩
  rw [e1, y2, h3, List.drop_drop, front_succ, List.length_append, front_app acc [y] many acc.length (Nat.le_refl _)]
  have e3 : tb (acc ++ [y]) acc.length = tb m acc.length := by
    have := tb_app (acc ++ [y]) (m.drop (acc.length + 1)) acc.length (by simp)
    rw [← e2, List.take_append_drop] at this
    rw [e2] at this
    exact this.symm
  rw [e3]
theorem cnd_first {bs : List Bool} {many : Nat} {acc : List Int} {rs : List Bool} {bad : Bool} {le sz : Int} (h : Cnd bs many acc rs bad le sz) (hz : acc.length = 0) (hl : acc.length < many) : Cnd bs many (acc ++ [((val (tkX rs 64) : Nat) : Int)]) (tkR rs 64) (tkB bad rs 64) le sz := by
  refine cnd_next h hl fun m hm => ?_
  have h4 := cnd_at h hl m hm
  rw [hz] at h4
  obtain ⟨k1, k2⟩ := first_full rs m hm.2.1 h4
  obtain ⟨e1, e2, e3⟩ := tk_full k1 bad
  obtain ⟨_, _, hb, _, hr⟩ := h m hm
  rw [e1, e2, e3, hz]
  refine ⟨k2, by rw [tb_zero, ofVal_len], hb, ?_⟩
  have ea : acc = [] := List.length_eq_zero_iff.1 hz
  rw [hz] at hr
  exact hr
/-- Behind the first number: the bits of a turn stand there. -/
theorem cnd_turn {bs : List Bool} {many : Nat} {acc : List Int} {rs : List Bool} {bad : Bool} {le sz : Int} (h : Cnd bs many acc rs bad le sz) (hp : 0 < acc.length) (hl : acc.length < many) (m : List Int) (hm : Isx bs m) :
    ∃ t, t < 18446744073709551616 ∧ Fr rs (tbits (win acc acc.length) t) ∧ tb m acc.length = tbits (win acc acc.length) t ∧ m.getD acc.length 0 = nxt acc t := by
  have h4 := cnd_at h hl m hm
  have h2 := (h m hm).2.1
  have ht := tn_lt hm.2.1 acc.length
  have e : tb m acc.length = tbits (win acc acc.length) (tn m acc.length) := by
    unfold tb; rw [if_neg (by omega), win_take h2]
  rw [e] at h4
  refine ⟨tn m acc.length, ht, h4, e, ?_⟩
  exact next_full m acc hm.2.1 h2 hp _ ht rs h4 (by rw [e]; exact h4)
theorem one_of {rs : List Bool} (h : 1 ≤ rs.length) : val (rs.take 1) = 0 ∨ val (rs.take 1) = 1 := by
  have := val_take_len rs 1
  omega
theorem nxt_zero (acc : List Int) (h : U64 acc) : nxt acc 0 = lst acc acc.length := by
  have := lst_lt h
  unfold nxt; rw [Nat.xor_zero]; omega
/-- The first sign is not 1: the number stays. -/
theorem cnd_zero {bs : List Bool} {many : Nat} {acc : List Int} {rs : List Bool} {bad : Bool} {le sz : Int} (h : Cnd bs many acc rs bad le sz) (hu : U64 acc) (hp : 0 < acc.length) (hl : acc.length < many) (hv : val (rs.take 1) ≠ 1) :
    Cnd bs many (acc ++ [lst acc acc.length]) (tkR rs 1) (tkB bad rs 1) le sz := by
  refine cnd_next h hl fun m hm => ?_
  obtain ⟨t, ht, hf, et, em⟩ := cnd_turn h hp hl m hm
  obtain ⟨_, _, hb, _, hr⟩ := h m hm
  have h0 : t = 0 := by
    have hl2 := hf.len
    have hl3 := tbits_pos (win acc acc.length) t
    rcases fr_ways rs _ t ht hf with h | h | h
    · exact h.1
    · have := val_two rs h.2.2.1
      have := val_take_len (rs.drop 1) 1
      have := one_of (rs := rs) (by omega)
      omega
    · have := val_two rs h.2.2.1
      have := val_take_len (rs.drop 1) 1
      have := one_of (rs := rs) (by omega)
      omega
  subst h0
  have hl2 := hf.len
  have e1 : (tbits (win acc acc.length) 0).length = 1 := by unfold tbits; rw [if_pos rfl, ofVal_len]
  obtain ⟨_, e2, e3⟩ := tk_full (rs := rs) (n := 1) (by omega) bad
  rw [nxt_zero acc hu] at em
  refine ⟨em, by rw [e2, et, e1], by rw [e3]; exact hb, ?_⟩
  have e4 := win_new acc 0 hp
  rw [nxt_zero acc hu] at e4
  rw [e4]
  unfold nw; rw [if_pos rfl]; exact hr
/-- The signs 1, and not 1: a turn within the window, just where there is one. -/
theorem cnd_in {bs : List Bool} {many : Nat} {acc : List Int} {rs : List Bool} {bad : Bool} {le sz : Int} (h : Cnd bs many acc rs bad le sz) (hu : U64 acc) (hp : 0 < acc.length) (hl : acc.length < many) (hv : val (rs.take 1) = 1) (hv2 : val ((rs.drop 1).take 1) ≠ 1) (m : List Int) (hm : Isx bs m) :
    bad = false ∧ 2 ≤ rs.length ∧ ∃ t, t < 18446744073709551616 ∧ t ≠ 0 ∧ (win acc acc.length).1 + (win acc acc.length).2 ≤ 63 ∧ le = (win acc acc.length).1 ∧ sz = ((64 - (win acc acc.length).1 - (win acc acc.length).2 : Nat) : Int) ∧
      64 - (win acc acc.length).1 - (win acc acc.length).2 ≤ (rs.drop 2).length ∧ val ((rs.drop 2).take (64 - (win acc acc.length).1 - (win acc acc.length).2)) * 2 ^ (win acc acc.length).2 = t ∧ tb m acc.length = tbits (win acc acc.length) t ∧ (tbits (win acc acc.length) t).length = 2 + (64 - (win acc acc.length).1 - (win acc acc.length).2) ∧ m.getD acc.length 0 = nxt acc t ∧ nw (win acc acc.length) t = win acc acc.length := by
  obtain ⟨t, ht, hf, et, em⟩ := cnd_turn h hp hl m hm
  obtain ⟨_, _, hb, _, hr⟩ := h m hm
  have v1 := val_take_len (rs.drop 1) 1
  rcases fr_ways rs _ t ht hf with h | ⟨h0, hh, h2, h3⟩ | ⟨h0, hh, h2, h3⟩
  · omega
  · have e := (fr_hold rs _ t h0 ht hh).1 hf
    have hw : (win acc acc.length).1 + (win acc acc.length).2 ≤ 63 := win_holds (win_ok hu _) t h0 ht hh.1
    refine ⟨hb, h2, t, ht, h0, hw, ?_, ?_, e.2.1, by rw [e.2.2]; exact body_back _ t h0 ht hh.2, et, ?_, em, ?_⟩
    · rcases hr with hr | hr <;> omega
    · rcases hr with hr | hr <;> omega
    · unfold tbits; rw [if_neg h0, if_pos hh, List.length_append, ofVal_len, body_len]
    · unfold nw; rw [if_neg h0, if_pos hh]
  · have := val_two rs h2
    omega
/-- The turn that the document's own reckoning finds. -/
def mulT (x k : Nat) : Nat := x * 2 ^ k % 18446744073709551616
theorem cnd_hold {bs : List Bool} {many : Nat} {acc : List Int} {rs : List Bool} {bad : Bool} {le sz : Nat} (h : Cnd bs many acc rs bad le sz) (hu : U64 acc) (hp : 0 < acc.length) (hl : acc.length < many) (hv : val (rs.take 1) = 1) (hv2 : val ((rs.drop 1).take 1) ≠ 1) (bad2 : Bool) (hb2 : bad2 = tkB (tkB bad rs 1) (tkR rs 1) 1) (rs2 : List Bool) (hr2 : rs2 = tkR (tkR rs 1) 1) :
    Cnd bs many (acc ++ [nxt acc (mulT (val (tkX rs2 sz)) (64 - le - sz))]) (tkR rs2 sz) (tkB bad2 rs2 sz) le sz := by
  refine cnd_next h hl fun m hm => ?_
  obtain ⟨hb, h2, t, ht, h0, hw, el, es, hl2, hx, et, e3, em, en⟩ := cnd_in h hu hp hl hv hv2 m hm
  generalize hpw : win acc acc.length = p at *
  obtain ⟨a1, a2, a3⟩ := tk_full (rs := rs) (n := 1) (by omega) bad
  obtain ⟨b1, b2, b3⟩ := tk_full (rs := rs.drop 1) (n := 1) (by rw [List.length_drop]; omega) bad
  rw [a2, b2, List.drop_drop] at hr2
  rw [a3, a2, b3, hb] at hb2
  subst hr2
  have esz : sz = 64 - p.1 - p.2 := by omega
  have ele : le = p.1 := by omega
  subst esz
  subst ele
  obtain ⟨c1, c2, c3⟩ := tk_full hl2 bad2
  have ek : 64 - p.1 - (64 - p.1 - p.2) = p.2 := by omega
  have eT : mulT (val (tkX (rs.drop 2) (64 - p.1 - p.2))) (64 - p.1 - (64 - p.1 - p.2)) = t := by
    unfold mulT
    rw [ek, c1, hx, Nat.mod_eq_of_lt ht]
  rw [show rs.drop (1 + 1) = rs.drop 2 from rfl, eT, c2, c3]
  refine ⟨em, by rw [et, e3, List.drop_drop], hb2, ?_⟩
  rw [win_new acc t hp, hpw, en]
  exact .inr ⟨hw, rfl, rfl⟩
theorem cnd_hold_none {bs : List Bool} {many : Nat} {acc : List Int} {rs : List Bool} {bad : Bool} {le sz : Int} (h : Cnd bs many acc rs bad le sz) (hu : U64 acc) (hp : 0 < acc.length) (hl : acc.length < many) (hv : val (rs.take 1) = 1) (hv2 : val ((rs.drop 1).take 1) ≠ 1) (he : le < 0 ∨ 64 < le + sz) : ∀ m, ¬ Isx bs m := by
  intro m hm
  obtain ⟨hb, h2, t, ht, h0, hw, el, es, _⟩ := cnd_in h hu hp hl hv hv2 m hm
  omega
/-- The signs 1 and 1: a window is told, just where one is. -/
theorem cnd_out {bs : List Bool} {many : Nat} {acc : List Int} {rs : List Bool} {bad : Bool} {le sz : Int} (h : Cnd bs many acc rs bad le sz) (hp : 0 < acc.length) (hl : acc.length < many) (hv : val (rs.take 1) = 1) (hv2 : val ((rs.drop 1).take 1) = 1) (m : List Int) (hm : Isx bs m) :
    bad = false ∧ ∃ t, t < 18446744073709551616 ∧ 14 ≤ rs.length ∧ val ((rs.drop 2).take 6) = lz t ∧ val ((rs.drop 8).take 6) = 63 - lz t - tz t ∧ lz t + tz t ≤ 63 ∧ 64 - lz t - tz t ≤ (rs.drop 14).length ∧
      t = val ((rs.drop 14).take (64 - lz t - tz t)) * 2 ^ tz t ∧ tb m acc.length = tbits (win acc acc.length) t ∧ (tbits (win acc acc.length) t).length = 14 + (64 - lz t - tz t) ∧ m.getD acc.length 0 = nxt acc t ∧ nw (win acc acc.length) t = (lz t, tz t) := by
  obtain ⟨t, ht, hf, et, em⟩ := cnd_turn h hp hl m hm
  obtain ⟨_, _, hb, _, hr⟩ := h m hm
  have hl1 : 1 ≤ rs.length := by have := hf.len; have := tbits_pos (win acc acc.length) t; omega
  have hl2 : 2 ≤ rs.length := by
    rcases Nat.lt_or_ge rs.length 2 with h | h
    · have e : rs.drop 1 = [] := List.drop_of_length_le (by omega)
      rw [e] at hv2; cases hv2
    · exact h
  have hv3 : val (rs.take 2) = 3 := by rw [val_two rs hl2]; omega
  obtain ⟨a1, a2, a3, a4, a5, a6, a7, a8⟩ := new_full rs _ hv3 t ht hf
  have h0 : t ≠ 0 := by
    intro e
    subst e
    have := (fr_zero rs _).1 hf
    omega
  refine ⟨hb, t, ht, a1, a2, a3, a4, a5, a7, et, ?_, em, ?_⟩
  · unfold tbits; rw [if_neg h0, if_neg a8]; simp only [List.length_append, ofVal_len, body_len]; omega
  · unfold nw; rw [if_neg h0, if_neg a8]
theorem cnd_new {bs : List Bool} {many : Nat} {acc : List Int} {rs : List Bool} {bad : Bool} {le sz : Int} (h : Cnd bs many acc rs bad le sz) (hp : 0 < acc.length) (hl : acc.length < many) (hv : val (rs.take 1) = 1) (hv2 : val ((rs.drop 1).take 1) = 1)
    (rs2 rs3 rs4 : List Bool) (hr2 : rs2 = tkR (tkR rs 1) 1) (hr3 : rs3 = tkR rs2 6) (hr4 : rs4 = tkR rs3 6) (bad4 : Bool) (hb4 : bad4 = tkB (tkB (tkB (tkB bad rs 1) (tkR rs 1) 1) rs2 6) rs3 6) (c s : Nat) (hc : c = val (tkX rs2 6)) (hs : s = val (tkX rs3 6) + 1) :
    Cnd bs many (acc ++ [nxt acc (mulT (val (tkX rs4 s)) (64 - c - s))]) (tkR rs4 s) (tkB bad4 rs4 s) c s := by
  refine cnd_next h hl fun m hm => ?_
  obtain ⟨hb, t, ht, h14, b2, b3, b4, b5, b7, et, e3, em, en⟩ := cnd_out h hp hl hv hv2 m hm
  obtain ⟨_, a2, a3⟩ := tk_full (rs := rs) (n := 1) (by omega) bad
  obtain ⟨_, c2, c3⟩ := tk_full (rs := rs.drop 1) (n := 1) (by rw [List.length_drop]; omega) bad
  obtain ⟨d1, d2, d3⟩ := tk_full (rs := rs.drop 2) (n := 6) (by rw [List.length_drop]; omega) bad
  obtain ⟨f1, f2, f3⟩ := tk_full (rs := rs.drop 8) (n := 6) (by rw [List.length_drop]; omega) bad
  have E2 : rs2 = rs.drop 2 := by rw [hr2, a2, c2, List.drop_drop]
  have E3 : rs3 = rs.drop 8 := by rw [hr3, E2, d2, List.drop_drop]
  have E4 : rs4 = rs.drop 14 := by rw [hr4, E3, f2, List.drop_drop]
  have EB : bad4 = false := by rw [hb4, a3, a2, c3, E2, d3, E3, f3, hb]
  have Ec : c = lz t := by rw [hc, E2, d1, b2]
  have Es : s = 64 - lz t - tz t := by rw [hs, E3, f1, b3]; omega
  obtain ⟨g1, g2, g3⟩ := tk_full (rs := rs.drop 14) (n := s) (by rw [Es]; exact b5) bad4
  have eT : mulT (val (tkX rs4 s)) (64 - c - s) = t := by
    unfold mulT
    have e1 : 64 - c - s = tz t := by omega
    rw [E4, g1, e1, Es, ← b7, Nat.mod_eq_of_lt ht]
  rw [eT, E4, g2, g3]
  refine ⟨em, by rw [et, e3, List.drop_drop, Es], EB, ?_⟩
  rw [win_new acc t hp, en]
  exact .inr ⟨b4, by rw [Ec], by rw [Es]⟩
theorem cnd_new_none {bs : List Bool} {many : Nat} {acc : List Int} {rs : List Bool} {bad : Bool} {le sz : Int} (h : Cnd bs many acc rs bad le sz) (hp : 0 < acc.length) (hl : acc.length < many) (hv : val (rs.take 1) = 1) (hv2 : val ((rs.drop 1).take 1) = 1)
    (rs2 rs3 : List Bool) (hr2 : rs2 = tkR (tkR rs 1) 1) (hr3 : rs3 = tkR rs2 6) (c s : Nat) (hc : c = val (tkX rs2 6)) (hs : s = val (tkX rs3 6) + 1) (he : 64 < c + s) : ∀ m, ¬ Isx bs m := by
  intro m hm
  obtain ⟨hb, t, ht, h14, b2, b3, b4, b5, b7, et, e3, em, en⟩ := cnd_out h hp hl hv hv2 m hm
  obtain ⟨_, a2, a3⟩ := tk_full (rs := rs) (n := 1) (by omega) bad
  obtain ⟨_, c2, c3⟩ := tk_full (rs := rs.drop 1) (n := 1) (by rw [List.length_drop]; omega) bad
  obtain ⟨d1, d2, d3⟩ := tk_full (rs := rs.drop 2) (n := 6) (by rw [List.length_drop]; omega) bad
  obtain ⟨f1, f2, f3⟩ := tk_full (rs := rs.drop 8) (n := 6) (by rw [List.length_drop]; omega) bad
  have E2 : rs2 = rs.drop 2 := by rw [hr2, a2, c2, List.drop_drop]
  have E3 : rs3 = rs.drop 8 := by rw [hr3, E2, d2, List.drop_drop]
  have Ec : c = lz t := by rw [hc, E2, d1, b2]
  have Es : s = 64 - lz t - tz t := by rw [hs, E3, f1, b3]; omega
  omega
/-- At the end all is read. -/
theorem cnd_end {bs : List Bool} {many : Nat} {acc : List Int} {rs : List Bool} {bad : Bool} {le sz : Int} (h : Cnd bs many acc rs bad le sz) (hl : acc.length ≤ many) (he : many ≤ acc.length ∨ bad = true) (m : List Int) (hm : Isx bs m) : acc = m ∧ bad = false := by
  obtain ⟨h1, h2, h3, _⟩ := h m hm
  refine ⟨?_, h3⟩
  rcases he with he | he
  · have : acc.length = m.length := by omega
    rw [this, List.take_length] at h2
    exact h2.symm
  · rw [h3] at he; cases he
end P
end X
end Go.Proofs.YtfjbdgkdkbcnhaaDoor
