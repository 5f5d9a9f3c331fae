/- What xor.reader's turn answers, by the bits that stand there. -/
import Derived.Test.YteohlkpejdjenaaDoorXturn
namespace Go.Proofs.YteohlkpejdjenaaDoor
open Go.RowKit
set_option linter.unusedVariables false
set_option linter.unusedSimpArgs false

/-- No turn stands here. -/
def NoTurn (X : List Bool) (p : Nat × Nat) : Prop := ∀ t, t < 18446744073709551616 → ¬ P.Fr X (P.tbits p t)
theorem rpull_w (v : Value) (bs : List Bool) (q g a b : Nat) (br : Bool) (w0 w : World) (hr : RowB w0 v (P.pack bs)) (n1 : (bs.length : Int) ≤ 9223372036854775000) (h : Rd w0 w g v bs q br) (hab : a + b ≤ 63) (hq : q ≤ bs.length) :
    Calls Tryd.prog 43 #[ptr g, .int .i64 (64 - (a : Int) - (b : Int))] w fun e w' => ∃ (x q' : Nat) (br' : Bool), e = .returned (.int .u64 x) ∧ x < 2 ^ (64 - a - b) ∧ Rd w0 w' g v bs q' br' ∧ But g w w' ∧
      (q' ≤ bs.length ∧ (br = true → br' = true) ∧ (br' = false → 64 - a - b ≤ (bs.drop q).length ∧ x = P.val ((bs.drop q).take (64 - a - b)) ∧ q' = q + (64 - a - b)) ∧ (br = false → br' = true → (bs.drop q).length < 64 - a - b)) := by
  have e : 64 - (a : Int) - (b : Int) = ((64 - a - b : Nat) : Int) := by omega
  rw [e]
  generalize hk : 64 - a - b = k
  by_cases hl : q + k ≤ bs.length
  · refine (rpull_ok v bs q k g br w0 w hr n1 h (by omega) hl).mono ?_
    rintro e w' ⟨rfl, h1, h2⟩
    refine ⟨_, q + k, br, rfl, P.val_take_len _ _, h1, h2, hl, id, fun _ => ⟨by rw [List.length_drop]; omega, rfl, rfl⟩, fun h1 h2 => ?_⟩
    rw [h1] at h2; cases h2
  · refine (rpull_bad v bs q k g br w0 w hr n1 h (by omega) hq (by omega)).mono ?_
    rintro e w' ⟨rfl, h1, h2⟩
    exact ⟨0, q, true, rfl, Nat.pow_pos (by decide), h1, h2, hq, fun _ => rfl, (fun h => by cases h), fun _ _ => by rw [List.length_drop]; omega⟩
/-- turnWithin of a window that is one. -/
theorem tw_win (v : Value) (bs : List Bool) (q g a b : Nat) (br : Bool) (w0 w : World) (hr : RowB w0 v (P.pack bs)) (n1 : (bs.length : Int) ≤ 9223372036854775000) (h : Rd w0 w g v bs q br) (hab : a + b ≤ 63) (hq : q ≤ bs.length) :
    Calls Tryd.prog 51 #[ptr g, winV a b] w fun e w' => ∃ (t q' : Nat) (br' : Bool), e = .returned (.int .u64 t) ∧ t < 18446744073709551616 ∧ Rd w0 w' g v bs q' br' ∧ But g w w' ∧
      (q' ≤ bs.length ∧ (br = true → br' = true) ∧ (br' = false → 64 - a - b ≤ (bs.drop q).length ∧ P.val ((bs.drop q).take (64 - a - b)) ≠ 0 ∧ t = P.val ((bs.drop q).take (64 - a - b)) * 2 ^ b ∧ q' = q + (64 - a - b)) ∧
        (br = false → br' = true → ¬ (64 - a - b ≤ (bs.drop q).length ∧ P.val ((bs.drop q).take (64 - a - b)) ≠ 0))) := by
  refine (tw_gen v bs q g a b br w0 w _ h hab (fun w h => rpull_w v bs q g a b br w0 w hr n1 h hab hq)).mono ?_
  rintro e w' ⟨x, q', br', rfl, hx, h1, h2, h3, h4, h5, h6⟩
  refine ⟨_, q', _, rfl, hx, h1, h2, h3, ?_, ?_, ?_⟩
  · intro hb; rw [h4 hb]; rfl
  · intro hb
    rw [Bool.or_eq_false_iff] at hb
    obtain ⟨a1, a2, a3⟩ := h5 hb.1
    have a4 := of_decide_eq_false hb.2
    subst a2
    exact ⟨a1, a4, rfl, a3⟩
  · intro hb hb' hg
    cases hbr : br' with
    | true => have := h6 hb hbr; omega
    | false =>
      obtain ⟨a1, a2, a3⟩ := h5 hbr
      rw [hbr, Bool.false_or] at hb'
      have := of_decide_eq_true hb'
      subst a2
      exact hg.2 this
theorem tw_any (v : Value) (bs : List Bool) (q g a : Nat) (d : Int) (br : Bool) (w0 w : World) (hr : RowB w0 v (P.pack bs)) (n1 : (bs.length : Int) ≤ 9223372036854775000) (h : Rd w0 w g v bs q br) (ha : a ≤ 64) (d0 : -64 ≤ d) (d1 : d ≤ 64) (hq : q ≤ bs.length) :
    Calls Tryd.prog 51 #[ptr g, winV a d] w fun e w' => ∃ (t q' : Nat) (br' : Bool), e = .returned (.int .u64 t) ∧ t < 18446744073709551616 ∧ Rd w0 w' g v bs q' br' ∧ But g w w' ∧
      (q' ≤ bs.length ∧ (br = true → br' = true) ∧ (br' = false → ∃ b : Nat, d = b ∧ a + b ≤ 63 ∧ 64 - a - b ≤ (bs.drop q).length ∧ P.val ((bs.drop q).take (64 - a - b)) ≠ 0 ∧ t = P.val ((bs.drop q).take (64 - a - b)) * 2 ^ b ∧ q' = q + (64 - a - b)) ∧
        (br = false → br' = true → ¬ ∃ b : Nat, d = b ∧ a + b ≤ 63 ∧ 64 - a - b ≤ (bs.drop q).length ∧ P.val ((bs.drop q).take (64 - a - b)) ≠ 0)) := by
  by_cases hno : 63 < (a : Int) + d ∨ d < 0
  · refine (tw_no v bs q g a d br w0 w h ha d0 d1 hno).mono ?_
    rintro e w' ⟨rfl, h1, h2⟩
    refine ⟨0, q, true, rfl, by decide, h1, h2, hq, fun _ => rfl, (fun h => by cases h), fun _ _ => ?_⟩
    rintro ⟨b, rfl, hab, _⟩
    omega
  · obtain ⟨b, rfl⟩ := Int.eq_ofNat_of_zero_le (show 0 ≤ d by omega)
    refine (tw_win v bs q g a b br w0 w hr n1 h (by omega) hq).mono ?_
    rintro e w' ⟨t, q', br', rfl, ht, h1, h2, h3, h4, h5, h6⟩
    refine ⟨t, q', br', rfl, ht, h1, h2, h3, h4, fun hb => ⟨b, rfl, by omega, h5 hb⟩, fun hb hb' => ?_⟩
    rintro ⟨b', he, _, h7⟩
    obtain rfl : b = b' := by omega
    exact h6 hb hb' h7
theorem val_one (X : List Bool) : P.val (X.take 1) = 0 ∨ P.val (X.take 1) = 1 := by
  have := P.val_take_len X 1
  omega

theorem turn_any (v : Value) (bs : List Bool) (q g : Nat) (p : Nat × Nat) (w0 w : World) (hr : RowB w0 v (P.pack bs)) (n1 : (bs.length : Int) ≤ 9223372036854775000) (ht : Tab w0) (h : Rd w0 w g v bs q false) (hq : q ≤ bs.length) (hp : P.Win p) :
    Calls Tryd.prog 44 #[ptr g, winV p.1 p.2] w fun e w' => But g w w' ∧
      ((∃ t : Nat, t < 18446744073709551616 ∧ P.Fr (bs.drop q) (P.tbits p t) ∧ e = .returned (.tuple #[.int .u64 t, winV (P.nw p t).1 (P.nw p t).2]) ∧ Rd w0 w' g v bs (q + (P.tbits p t).length) false) ∨
       (∃ (t : Nat) (c d : Int) (q' : Nat), NoTurn (bs.drop q) p ∧ e = .returned (.tuple #[.int .u64 t, winV c d]) ∧ Rd w0 w' g v bs q' true)) := by
  have hXl : (bs.drop q).length = bs.length - q := List.length_drop
  have hp64 : p.1 ≤ 64 ∧ p.2 ≤ 64 := by rcases hp with hp | hp <;> omega
  by_cases hX0 : bs.length ≤ q
  · -- no bit at all
    refine (turn_zero v bs q q g p.1 p.2 false true w0 w h (fun w h => rpull_bad v bs q 1 g false w0 w hr n1 h (by decide) hq (by omega))).mono ?_
    rintro e w' ⟨rfl, h1, h2⟩
    refine ⟨h2, .inr ⟨0, p.1, p.2, q, fun t _ hf => ?_, rfl, h1⟩⟩
    have := hf.len
    have := P.tbits_pos p t
    omega
  have H1 : ∀ w : World, Rd w0 w g v bs q false → Calls Tryd.prog 43 #[ptr g, .int .i64 1] w fun e w' => e = .returned (.int .u64 (P.val ((bs.drop q).take 1) : Nat)) ∧ Rd w0 w' g v bs (q + 1) false ∧ But g w w' := fun w h => rpull_ok v bs q 1 g false w0 w hr n1 h (by decide) (by omega)
  rcases val_one (bs.drop q) with hv | hv
  · -- the bit 0
    rw [hv] at H1
    refine (turn_zero v bs q (q + 1) g p.1 p.2 false false w0 w h H1).mono ?_
    rintro e w' ⟨rfl, h1, h2⟩
    refine ⟨h2, .inl ⟨0, by decide, (P.fr_zero _ p).2 ⟨by omega, hv⟩, ?_, ?_⟩⟩
    · unfold P.nw; rw [if_pos rfl]; rfl
    · have e : (P.tbits p 0).length = 1 := by unfold P.tbits; rw [if_pos rfl, P.ofVal_len]
      rw [e]; exact h1
  rw [hv] at H1
  by_cases hX1 : bs.length ≤ q + 1
  · -- one bit alone
    refine (turn_hold v bs q (q + 1) (q + 1) g p.1 p.2 false false true w0 w (fun t q' br' => br' = true) h H1 (fun w h => rpull_bad v bs (q + 1) 1 g false w0 w hr n1 h (by decide) (by omega) (by omega)) (fun w h => ?_)).mono ?_
    · refine (tw_any v bs (q + 1) g p.1 p.2 true w0 w hr n1 h hp64.1 (by omega) (by omega) (by omega)).mono ?_
      rintro e w' ⟨t, q', br', rfl, _, h1, h2, _, h4, _⟩
      exact ⟨t, q', br', rfl, h1, h2, h4 rfl⟩
    · rintro e w' ⟨t, q', br', rfl, h1, h2, rfl⟩
      refine ⟨h2, .inr ⟨t, p.1, p.2, q', fun t ht hf => ?_, rfl, h1⟩⟩
      rcases P.fr_ways _ p t ht hf with h | h | h <;> omega
  have H2 : ∀ w : World, Rd w0 w g v bs (q + 1) false → Calls Tryd.prog 43 #[ptr g, .int .i64 1] w fun e w' => e = .returned (.int .u64 (P.val ((bs.drop (q + 1)).take 1) : Nat)) ∧ Rd w0 w' g v bs (q + 1 + 1) false ∧ But g w w' := fun w h => rpull_ok v bs (q + 1) 1 g false w0 w hr n1 h (by decide) (by omega)
  have hv2 := P.val_two (bs.drop q) (by omega)
  rw [List.drop_drop, hv] at hv2
  have hd2 : (bs.drop q).drop 2 = bs.drop (q + 1 + 1) := by rw [List.drop_drop]
  rcases val_one (bs.drop (q + 1)) with hu | hu
  · -- the bits 10
    rw [hu] at H2 hv2
    refine (turn_hold v bs q (q + 1) (q + 1 + 1) g p.1 p.2 false false false w0 w _ h H1 H2 (fun w h => (tw_any v bs (q + 1 + 1) g p.1 p.2 false w0 w hr n1 h hp64.1 (by omega) (by omega) (by omega)).mono (by
      rintro e w' ⟨t, q', br', rfl, ht, h1, h2, h3⟩
      exact ⟨t, q', br', rfl, h1, h2, h3⟩))).mono ?_
    rintro e w' ⟨t, q', br', rfl, h1, h2, h3, _, h5, h6⟩
    refine ⟨h2, ?_⟩
    cases br' with
    | false =>
      obtain ⟨b, hb, hab, hl, hx, ht, hq'⟩ := h5 rfl
      obtain rfl : p.2 = b := by omega
      rw [← hd2] at hl hx ht
      obtain ⟨s1, s2, s3, s4⟩ := P.hold_sound (bs.drop q) p (by omega) hv2 hab hl hx
      rw [← ht] at s1 s2 s3 s4
      refine .inl ⟨t, s4, s1, by rw [s2], ?_⟩
      rw [s3]
      have : q + (2 + (64 - p.1 - p.2)) = q' := by omega
      rw [this]; exact h1
    | true =>
      refine .inr ⟨t, p.1, p.2, q', fun t' ht' hf => ?_, rfl, h1⟩
      obtain ⟨a1, a2, a3⟩ := P.hold_full (bs.drop q) p hp hv2 t' ht' hf
      rw [hd2] at a2 a3
      exact h6 rfl rfl ⟨p.2, rfl, a1, a2, a3⟩
  · -- the bits 11
    rw [hu] at H2 hv2
    have hd14 : (bs.drop q).drop 14 = bs.drop (q + 14) := by rw [List.drop_drop]
    have hd8 : (bs.drop q).drop 8 = bs.drop (q + 8) := by rw [List.drop_drop]
    by_cases h14 : q + 14 ≤ bs.length
    · refine (turn_new v bs q (q + 1) (q + 1 + 1) g p.1 p.2 false false false w0 w
        (fun c d q' br' => ∃ y : Nat, c = P.val ((bs.drop (q + 1 + 1)).take 6) ∧ y = P.val ((bs.drop (q + 8)).take 6) ∧ c < 64 ∧ y < 64 ∧ d = 64 - (c : Int) - ((y : Int) + 1) ∧ q' = q + 14 ∧ br' = false)
        (fun c d t q' br' => ∃ y : Nat, c = P.val ((bs.drop (q + 1 + 1)).take 6) ∧ y = P.val ((bs.drop (q + 8)).take 6) ∧ c < 64 ∧ y < 64 ∧ d = 64 - (c : Int) - ((y : Int) + 1) ∧
          (br' = false → ∃ b : Nat, d = b ∧ c + b ≤ 63 ∧ 64 - c - b ≤ (bs.drop (q + 14)).length ∧ P.val ((bs.drop (q + 14)).take (64 - c - b)) ≠ 0 ∧ t = P.val ((bs.drop (q + 14)).take (64 - c - b)) * 2 ^ b ∧ q' = q + 14 + (64 - c - b)) ∧
          (br' = true → ¬ ∃ b : Nat, d = b ∧ c + b ≤ 63 ∧ 64 - c - b ≤ (bs.drop (q + 14)).length ∧ P.val ((bs.drop (q + 14)).take (64 - c - b)) ≠ 0))
        h ht H1 H2 (fun w h => ?_) ?_).mono ?_
      · refine (window_gen v bs (q + 1 + 1) g false w0 w (fun x q' br' => x = P.val ((bs.drop (q + 1 + 1)).take 6) ∧ q' = q + 8 ∧ br' = false)
          (fun x y q' br' => x = P.val ((bs.drop (q + 1 + 1)).take 6) ∧ y = P.val ((bs.drop (q + 8)).take 6) ∧ q' = q + 14 ∧ br' = false) h (fun w h => ?_) ?_).mono ?_
        · refine (rpull_ok v bs (q + 1 + 1) 6 g false w0 w hr n1 h (by decide) (by omega)).mono ?_
          rintro e w' ⟨rfl, h1, h2⟩
          exact ⟨_, _, _, rfl, P.val_take_len _ _, h1, h2, rfl, by omega, rfl⟩
        · rintro x q1 br1 ⟨rfl, rfl, rfl⟩ w h
          refine (rpull_ok v bs (q + 8) 6 g false w0 w hr n1 h (by decide) (by omega)).mono ?_
          rintro e w' ⟨rfl, h1, h2⟩
          exact ⟨_, _, _, rfl, P.val_take_len _ _, h1, h2, rfl, rfl, by omega, rfl⟩
        · rintro e w' ⟨x, y, q', br', rfl, hx, hy, h1, h2, e1, e2, e3, e4⟩
          exact ⟨x, _, q', br', rfl, h1, h2, y, e1, e2, hx, hy, rfl, e3, e4⟩
      · rintro c d q3 br3 ⟨y, e1, e2, hc, hy, ed, rfl, rfl⟩ w h
        refine (tw_any v bs (q + 14) g c d false w0 w hr n1 h (by omega) (by omega) (by omega) (by omega)).mono ?_
        rintro e w' ⟨t, q', br', rfl, htt, h1, h2, h3, _, h5, h6⟩
        exact ⟨t, q', br', rfl, htt, h1, h2, y, e1, e2, hc, hy, ed, h5, h6 rfl⟩
      · rintro e w' ⟨c, d, t, q', br', rfl, h1, h2, y, e1, e2, hc, hy, ed, h5, h6⟩
        refine ⟨h2, ?_⟩
        rw [← hd2] at e1
        rw [← hd8] at e2
        rw [← hd14] at h5 h6
        cases br' with
        | true =>
          refine .inr ⟨t, c, d, q', fun t' ht' hf => ?_, rfl, by simpa using h1⟩
          obtain ⟨a1, a2, a3, a4, a5, a6, a7, a8⟩ := P.new_full (bs.drop q) p hv2 t' ht' hf
          have ec : c = P.lz t' := by omega
          refine h6 rfl ⟨P.tz t', by omega, by omega, ?_, ?_⟩
          · rw [ec]; exact a5
          · rw [ec]; exact a6
        | false =>
          obtain ⟨b, hb, hcb, hl, hx, htt, hq'⟩ := h5 rfl
          rw [Bool.false_or] at h1
          by_cases hbad : Bad t c d p.1 p.2
          · refine .inr ⟨t, c, d, q', fun t' ht' hf => ?_, rfl, by simpa [hbad] using h1⟩
            obtain ⟨a1, a2, a3, a4, a5, a6, a7, a8⟩ := P.new_full (bs.drop q) p hv2 t' ht' hf
            have ec : c = P.lz t' := by omega
            have eb : b = P.tz t' := by omega
            have et : t = t' := by rw [htt, ec, eb]; exact a7.symm
            rcases hbad with hbad | hbad
            · exact hbad ⟨by rw [et]; omega, by rw [et]; omega⟩
            · exact a8 ⟨by omega, by omega⟩
          · have hlz : P.lz t = c ∧ P.tz t = b := by
              unfold Bad at hbad
              have := Decidable.not_not.1 (fun hh => hbad (.inl hh))
              omega
            have hnh : ¬ (p.1 ≤ c ∧ p.2 ≤ b) := fun hh => hbad (.inr ⟨by omega, by omega⟩)
            obtain ⟨s1, s2, s3, s4⟩ := P.new_sound (bs.drop q) p c b t (by omega) hv2 (by omega) e1.symm (by omega) hcb hl hx htt hlz.1 hlz.2 hnh
            refine .inl ⟨t, s4, s1, by rw [s2, hb], ?_⟩
            rw [s3]
            have : q + (14 + (64 - c - b)) = q' := by omega
            rw [this]
            simpa [hbad] using h1
    · -- too few bits for a window
      refine (turn_new v bs q (q + 1) (q + 1 + 1) g p.1 p.2 false false false w0 w
        (fun c d q' br' => c ≤ 64 ∧ -64 ≤ d ∧ d ≤ 64 ∧ q' ≤ bs.length ∧ br' = true) (fun c d t q' br' => br' = true) h ht H1 H2 (fun w h => ?_) ?_).mono ?_
      · refine (window_gen v bs (q + 1 + 1) g false w0 w (fun x q' br' => (q' = q + 8 ∧ br' = false ∨ br' = true) ∧ q' ≤ bs.length) (fun x y q' br' => q' ≤ bs.length ∧ br' = true) h (fun w h => ?_) ?_).mono ?_
        · by_cases h8 : q + 8 ≤ bs.length
          · refine (rpull_ok v bs (q + 1 + 1) 6 g false w0 w hr n1 h (by decide) (by omega)).mono ?_
            rintro e w' ⟨rfl, h1, h2⟩
            exact ⟨_, _, _, rfl, P.val_take_len _ _, h1, h2, .inl ⟨by omega, rfl⟩, by omega⟩
          · refine (rpull_bad v bs (q + 1 + 1) 6 g false w0 w hr n1 h (by decide) (by omega) (by omega)).mono ?_
            rintro e w' ⟨rfl, h1, h2⟩
            exact ⟨0, _, _, rfl, by decide, h1, h2, .inr rfl, by omega⟩
        · rintro x q1 br1 ⟨⟨rfl, rfl⟩ | rfl, hq1⟩ w h
          · refine (rpull_bad v bs (q + 8) 6 g false w0 w hr n1 h (by decide) (by omega) (by omega)).mono ?_
            rintro e w' ⟨rfl, h1, h2⟩
            exact ⟨0, _, _, rfl, by decide, h1, h2, hq1, rfl⟩
          · refine (rpull_any v bs q1 6 g true w0 w hr n1 h (by decide) hq1).mono ?_
            rintro e w' ⟨x, q', br', rfl, hx, h1, h2, h3, h4⟩
            exact ⟨x, q', br', rfl, hx, h1, h2, h3, h4 rfl⟩
        · rintro e w' ⟨x, y, q', br', rfl, hx, hy, h1, h2, h3, h4⟩
          exact ⟨x, _, q', br', rfl, h1, h2, by omega, by omega, by omega, h3, h4⟩
      · rintro c d q3 br3 ⟨hc, d0, d1, hq3, rfl⟩ w h
        refine (tw_any v bs q3 g c d true w0 w hr n1 h hc d0 d1 hq3).mono ?_
        rintro e w' ⟨t, q', br', rfl, htt, h1, h2, h3, h4, _⟩
        exact ⟨t, q', br', rfl, htt, h1, h2, h4 rfl⟩
      · rintro e w' ⟨c, d, t, q', br', rfl, h1, h2, rfl⟩
        refine ⟨h2, .inr ⟨t, c, d, q', fun t' ht' hf => ?_, rfl, by simpa using h1⟩⟩
        have := (P.new_full (bs.drop q) p hv2 t' ht' hf).1
        omega
end Go.Proofs.YteohlkpejdjenaaDoor
