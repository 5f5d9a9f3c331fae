/- Several texts in one. -/
import Derived.Test.YtfjbdgkdkbcnhaaDoorPlainAll
import Derived.Test.YtfjbdgkdkbcnhaaDoorXorQAll
/- What xor.reader's turn answers, by the bits that stand there. -/
namespace Go.Proofs.YtfjbdgkdkbcnhaaDoor
open P
namespace X
open Go.RowKit
set_option linter.unusedVariables false
set_option linter.unusedSimpArgs false

/-- No turn stands here. -/
def NoTurn (X : List Bool) (p : Nat × Nat) : Prop := ∀ t, t < 18446744073709551616 → ¬ P.Fr X (P.tbits p t)
theorem rpull_w (v : Value) (bs : List Bool) (q g a b : Nat) (br : Bool) (w0 w : World) (hr : RowB w0 v (P.pack bs)) (n1 : (bs.length : Int) ≤ 9223372036854775000) (h : Rd w0 w g v bs q br) (hab : a + b ≤ 63) (hq : q ≤ bs.length) :
    Calls Tryd.prog 63 #[ptr g, .int .i64 (64 - (a : Int) - (b : Int))] w fun e w' => ∃ (x q' : Nat) (br' : Bool), e = .returned (.int .u64 x) ∧ x < 2 ^ (64 - a - b) ∧ Rd w0 w' g v bs q' br' ∧ But g w w' ∧
      (q' ≤ bs.length ∧ (br = true → br' = true) ∧ (br' = false → 64 - a - b ≤ (bs.drop q).length ∧ x = P.val ((bs.drop q).take (64 - a - b)) ∧ q' = q + (64 - a - b)) ∧ (br = false → br' = true → (bs.drop q).length < 64 - a - b)) := by
  have e : 64 - (a : Int) - (b : Int) = ((64 - a - b : Nat) : Int) := by omega
  rw [e]
  generalize hk : 64 - a - b = k
  by_cases hl : q + k ≤ bs.length
  · refine (rpull_ok v bs q k g br w0 w hr n1 h (by omega) hl).mono ?_
    rintro e w' ⟨rfl, h1, h2⟩
    refine ⟨_, q + k, br, rfl, P.val_take_len _ _, h1, h2, hl, id, fun _ => ⟨by rw [List.length_drop]; omega, rfl, rfl⟩, fun h1 h2 => ?_⟩
    rw [h1] at h2; cases h2
  · refine (rpull_bad v bs q k g br w0 w hr n1 h (by omega) hq (by omega)).mono ?_
    rintro e w' ⟨rfl, h1, h2⟩
    exact ⟨0, q, true, rfl, Nat.pow_pos (by decide), h1, h2, hq, fun _ => rfl, (fun h => by cases h), fun _ _ => by rw [List.length_drop]; omega⟩
/-- turnWithin of a window that is one. -/
theorem tw_win (v : Value) (bs : List Bool) (q g a b : Nat) (br : Bool) (w0 w : World) (hr : RowB w0 v (P.pack bs)) (n1 : (bs.length : Int) ≤ 9223372036854775000) (h : Rd w0 w g v bs q br) (hab : a + b ≤ 63) (hq : q ≤ bs.length) :
    Calls Tryd.prog 73 #[ptr g, winV a b] w fun e w' => ∃ (t q' : Nat) (br' : Bool), e = .returned (.int .u64 t) ∧ t < 18446744073709551616 ∧ Rd w0 w' g v bs q' br' ∧ But g w w' ∧
      (q' ≤ bs.length ∧ (br = true → br' = true) ∧ (br' = false → 64 - a - b ≤ (bs.drop q).length ∧ P.val ((bs.drop q).take (64 - a - b)) ≠ 0 ∧ t = P.val ((bs.drop q).take (64 - a - b)) * 2 ^ b ∧ q' = q + (64 - a - b)) ∧
        (br = false → br' = true → ¬ (64 - a - b ≤ (bs.drop q).length ∧ P.val ((bs.drop q).take (64 - a - b)) ≠ 0))) := by
  refine (tw_gen v bs q g a b br w0 w _ h hab (fun w h => rpull_w v bs q g a b br w0 w hr n1 h hab hq)).mono ?_
  rintro e w' ⟨x, q', br', rfl, hx, h1, h2, h3, h4, h5, h6⟩
  refine ⟨_, q', _, rfl, hx, h1, h2, h3, ?_, ?_, ?_⟩
  · intro hb; rw [h4 hb]; rfl
  · intro hb
    rw [Bool.or_eq_false_iff] at hb
    obtain ⟨a1, a2, a3⟩ := h5 hb.1
    have a4 := of_decide_eq_false hb.2
    subst a2
    exact ⟨a1, a4, rfl, a3⟩
  · intro hb hb' hg
    cases hbr : br' with
    | true => have := h6 hb hbr; omega
    | false =>
      obtain ⟨a1, a2, a3⟩ := h5 hbr
      rw [hbr, Bool.false_or] at hb'
      have := of_decide_eq_true hb'
      subst a2
      exact hg.2 this
theorem tw_any (v : Value) (bs : List Bool) (q g a : Nat) (d : Int) (br : Bool) (w0 w : World) (hr : RowB w0 v (P.pack bs)) (n1 : (bs.length : Int) ≤ 9223372036854775000) (h : Rd w0 w g v bs q br) (ha : a ≤ 64) (d0 : -64 ≤ d) (d1 : d ≤ 64) (hq : q ≤ bs.length) :
    Calls Tryd.prog 73 #[ptr g, winV a d] w fun e w' => ∃ (t q' : Nat) (br' : Bool), e = .returned (.int .u64 t) ∧ t < 18446744073709551616 ∧ Rd w0 w' g v bs q' br' ∧ But g w w' ∧
      (q' ≤ bs.length ∧ (br = true → br' = true) ∧ (br' = false → ∃ b : Nat, d = b ∧ a + b ≤ 63 ∧ 64 - a - b ≤ (bs.drop q).length ∧ P.val ((bs.drop q).take (64 - a - b)) ≠ 0 ∧ t = P.val ((bs.drop q).take (64 - a - b)) * 2 ^ b ∧ q' = q + (64 - a - b)) ∧
        (br = false → br' = true → ¬ ∃ b : Nat, d = b ∧ a + b ≤ 63 ∧ 64 - a - b ≤ (bs.drop q).length ∧ P.val ((bs.drop q).take (64 - a - b)) ≠ 0)) := by
  by_cases hno : 63 < (a : Int) + d ∨ d < 0
  · refine (tw_no v bs q g a d br w0 w h ha d0 d1 hno).mono ?_
    rintro e w' ⟨rfl, h1, h2⟩
    refine ⟨0, q, true, rfl, by decide, h1, h2, hq, fun _ => rfl, (fun h => by cases h), fun _ _ => ?_⟩
    rintro ⟨b, rfl, hab, _⟩
    omega
  · obtain ⟨b, rfl⟩ := Int.eq_ofNat_of_zero_le (show 0 ≤ d by omega)
    refine (tw_win v bs q g a b br w0 w hr n1 h (by omega) hq).mono ?_
    rintro e w' ⟨t, q', br', rfl, ht, h1, h2, h3, h4, h5, h6⟩
    refine ⟨t, q', br', rfl, ht, h1, h2, h3, h4, fun hb => ⟨b, rfl, by omega, h5 hb⟩, fun hb hb' => ?_⟩
    rintro ⟨b', he, _, h7⟩
    obtain rfl : b = b' := by omega
    exact h6 hb hb' h7
theorem val_one (X : List Bool) : P.val (X.take 1) = 0 ∨ P.val (X.take 1) = 1 := by
  have := P.val_take_len X 1
  omega

theorem turn_any (v : Value) (bs : List Bool) (q g : Nat) (p : Nat × Nat) (w0 w : World) (hr : RowB w0 v (P.pack bs)) (n1 : (bs.length : Int) ≤ 9223372036854775000) (ht : Tab w0) (h : Rd w0 w g v bs q false) (hq : q ≤ bs.length) (hp : P.Win p) :
    Calls Tryd.prog 64 #[ptr g, winV p.1 p.2] w fun e w' => But g w w' ∧
      ((∃ t : Nat, t < 18446744073709551616 ∧ P.Fr (bs.drop q) (P.tbits p t) ∧ e = .returned (.tuple #[.int .u64 t, winV (P.nw p t).1 (P.nw p t).2]) ∧ Rd w0 w' g v bs (q + (P.tbits p t).length) false) ∨
       (∃ (t : Nat) (c d : Int) (q' : Nat), NoTurn (bs.drop q) p ∧ e = .returned (.tuple #[.int .u64 t, winV c d]) ∧ Rd w0 w' g v bs q' true)) := by
  have hXl : (bs.drop q).length = bs.length - q := List.length_drop
  have hp64 : p.1 ≤ 64 ∧ p.2 ≤ 64 := by rcases hp with hp | hp <;> omega
  by_cases hX0 : bs.length ≤ q
  · -- no bit at all
    refine (turn_zero v bs q q g p.1 p.2 false true w0 w h (fun w h => rpull_bad v bs q 1 g false w0 w hr n1 h (by decide) hq (by omega))).mono ?_
    rintro e w' ⟨rfl, h1, h2⟩
    refine ⟨h2, .inr ⟨0, p.1, p.2, q, fun t _ hf => ?_, rfl, h1⟩⟩
    have := hf.len
    have := P.tbits_pos p t
    omega
  have H1 : ∀ w : World, Rd w0 w g v bs q false → Calls Tryd.prog 63 #[ptr g, .int .i64 1] w fun e w' => e = .returned (.int .u64 (P.val ((bs.drop q).take 1) : Nat)) ∧ Rd w0 w' g v bs (q + 1) false ∧ But g w w' := fun w h => rpull_ok v bs q 1 g false w0 w hr n1 h (by decide) (by omega)
  rcases val_one (bs.drop q) with hv | hv
  · -- the bit 0
    rw [hv] at H1
    refine (turn_zero v bs q (q + 1) g p.1 p.2 false false w0 w h H1).mono ?_
    rintro e w' ⟨rfl, h1, h2⟩
    refine ⟨h2, .inl ⟨0, by decide, (P.fr_zero _ p).2 ⟨by omega, hv⟩, ?_, ?_⟩⟩
    · unfold P.nw; rw [if_pos rfl]; rfl
    · have e : (P.tbits p 0).length = 1 := by unfold P.tbits; rw [if_pos rfl, P.ofVal_len]
      rw [e]; exact h1
  rw [hv] at H1
  by_cases hX1 : bs.length ≤ q + 1
  · -- one bit alone
    refine (turn_hold v bs q (q + 1) (q + 1) g p.1 p.2 false false true w0 w (fun t q' br' => br' = true) h H1 (fun w h => rpull_bad v bs (q + 1) 1 g false w0 w hr n1 h (by decide) (by omega) (by omega)) (fun w h => ?_)).mono ?_
    · refine (tw_any v bs (q + 1) g p.1 p.2 true w0 w hr n1 h hp64.1 (by omega) (by omega) (by omega)).mono ?_
      rintro e w' ⟨t, q', br', rfl, _, h1, h2, _, h4, _⟩
      exact ⟨t, q', br', rfl, h1, h2, h4 rfl⟩
    · rintro e w' ⟨t, q', br', rfl, h1, h2, rfl⟩
      refine ⟨h2, .inr ⟨t, p.1, p.2, q', fun t ht hf => ?_, rfl, h1⟩⟩
      rcases P.fr_ways _ p t ht hf with h | h | h <;> omega
  have H2 : ∀ w : World, Rd w0 w g v bs (q + 1) false → Calls Tryd.prog 63 #[ptr g, .int .i64 1] w fun e w' => e = .returned (.int .u64 (P.val ((bs.drop (q + 1)).take 1) : Nat)) ∧ Rd w0 w' g v bs (q + 1 + 1) false ∧ But g w w' := fun w h => rpull_ok v bs (q + 1) 1 g false w0 w hr n1 h (by decide) (by omega)
  have hv2 := P.val_two (bs.drop q) (by omega)
  rw [List.drop_drop, hv] at hv2
  have hd2 : (bs.drop q).drop 2 = bs.drop (q + 1 + 1) := by rw [List.drop_drop]
  rcases val_one (bs.drop (q + 1)) with hu | hu
  · -- the bits 10
    rw [hu] at H2 hv2
    refine (turn_hold v bs q (q + 1) (q + 1 + 1) g p.1 p.2 false false false w0 w _ h H1 H2 (fun w h => (tw_any v bs (q + 1 + 1) g p.1 p.2 false w0 w hr n1 h hp64.1 (by omega) (by omega) (by omega)).mono (by
      rintro e w' ⟨t, q', br', rfl, ht, h1, h2, h3⟩
      exact ⟨t, q', br', rfl, h1, h2, h3⟩))).mono ?_
    rintro e w' ⟨t, q', br', rfl, h1, h2, h3, _, h5, h6⟩
    refine ⟨h2, ?_⟩
    cases br' with
    | false =>
      obtain ⟨b, hb, hab, hl, hx, ht, hq'⟩ := h5 rfl
      obtain rfl : p.2 = b := by omega
      rw [← hd2] at hl hx ht
      obtain ⟨s1, s2, s3, s4⟩ := P.hold_sound (bs.drop q) p (by omega) hv2 hab hl hx
      rw [← ht] at s1 s2 s3 s4
      refine .inl ⟨t, s4, s1, by rw [s2], ?_⟩
      rw [s3]
      have : q + (2 + (64 - p.1 - p.2)) = q' := by omega
      rw [this]; exact h1
    | true =>
      refine .inr ⟨t, p.1, p.2, q', fun t' ht' hf => ?_, rfl, h1⟩
      obtain ⟨a1, a2, a3⟩ := P.hold_full (bs.drop q) p hp hv2 t' ht' hf
      rw [hd2] at a2 a3
      exact h6 rfl rfl ⟨p.2, rfl, a1, a2, a3⟩
  · -- the bits 11
    rw [hu] at H2 hv2
    have hd14 : (bs.drop q).drop 14 = bs.drop (q + 14) := by rw [List.drop_drop]
    have hd8 : (bs.drop q).drop 8 = bs.drop (q + 8) := by rw [List.drop_drop]
    by_cases h14 : q + 14 ≤ bs.length
    · refine (turn_new v bs q (q + 1) (q + 1 + 1) g p.1 p.2 false false false w0 w
        (fun c d q' br' => ∃ y : Nat, c = P.val ((bs.drop (q + 1 + 1)).take 6) ∧ y = P.val ((bs.drop (q + 8)).take 6) ∧ c < 64 ∧ y < 64 ∧ d = 64 - (c : Int) - ((y : Int) + 1) ∧ q' = q + 14 ∧ br' = false)
        (fun c d t q' br' => ∃ y : Nat, c = P.val ((bs.drop (q + 1 + 1)).take 6) ∧ y = P.val ((bs.drop (q + 8)).take 6) ∧ c < 64 ∧ y < 64 ∧ d = 64 - (c : Int) - ((y : Int) + 1) ∧
          (br' = false → ∃ b : Nat, d = b ∧ c + b ≤ 63 ∧ 64 - c - b ≤ (bs.drop (q + 14)).length ∧ P.val ((bs.drop (q + 14)).take (64 - c - b)) ≠ 0 ∧ t = P.val ((bs.drop (q + 14)).take (64 - c - b)) * 2 ^ b ∧ q' = q + 14 + (64 - c - b)) ∧
          (br' = true → ¬ ∃ b : Nat, d = b ∧ c + b ≤ 63 ∧ 64 - c - b ≤ (bs.drop (q + 14)).length ∧ P.val ((bs.drop (q + 14)).take (64 - c - b)) ≠ 0))
        h ht H1 H2 (fun w h => ?_) ?_).mono ?_
      · refine (window_gen v bs (q + 1 + 1) g false w0 w (fun x q' br' => x = P.val ((bs.drop (q + 1 + 1)).take 6) ∧ q' = q + 8 ∧ br' = false)
          (fun x y q' br' => x = P.val ((bs.drop (q + 1 + 1)).take 6) ∧ y = P.val ((bs.drop (q + 8)).take 6) ∧ q' = q + 14 ∧ br' = false) h (fun w h => ?_) ?_).mono ?_
        · refine (rpull_ok v bs (q + 1 + 1) 6 g false w0 w hr n1 h (by decide) (by omega)).mono ?_
          rintro e w' ⟨rfl, h1, h2⟩
          exact ⟨_, _, _, rfl, P.val_take_len _ _, h1, h2, rfl, by omega, rfl⟩
        · rintro x q1 br1 ⟨rfl, rfl, rfl⟩ w h
          refine (rpull_ok v bs (q + 8) 6 g false w0 w hr n1 h (by decide) (by omega)).mono ?_
          rintro e w' ⟨rfl, h1, h2⟩
          exact ⟨_, _, _, rfl, P.val_take_len _ _, h1, h2, rfl, rfl, by omega, rfl⟩
        · rintro e w' ⟨x, y, q', br', rfl, hx, hy, h1, h2, e1, e2, e3, e4⟩
          exact ⟨x, _, q', br', rfl, h1, h2, y, e1, e2, hx, hy, rfl, e3, e4⟩
      · rintro c d q3 br3 ⟨y, e1, e2, hc, hy, ed, rfl, rfl⟩ w h
        refine (tw_any v bs (q + 14) g c d false w0 w hr n1 h (by omega) (by omega) (by omega) (by omega)).mono ?_
        rintro e w' ⟨t, q', br', rfl, htt, h1, h2, h3, _, h5, h6⟩
        exact ⟨t, q', br', rfl, htt, h1, h2, y, e1, e2, hc, hy, ed, h5, h6 rfl⟩
      · rintro e w' ⟨c, d, t, q', br', rfl, h1, h2, y, e1, e2, hc, hy, ed, h5, h6⟩
        refine ⟨h2, ?_⟩
        rw [← hd2] at e1
        rw [← hd8] at e2
        rw [← hd14] at h5 h6
        cases br' with
        | true =>
          refine .inr ⟨t, c, d, q', fun t' ht' hf => ?_, rfl, by simpa using h1⟩
          obtain ⟨a1, a2, a3, a4, a5, a6, a7, a8⟩ := P.new_full (bs.drop q) p hv2 t' ht' hf
          have ec : c = P.lz t' := by omega
          refine h6 rfl ⟨P.tz t', by omega, by omega, ?_, ?_⟩
          · rw [ec]; exact a5
          · rw [ec]; exact a6
        | false =>
          obtain ⟨b, hb, hcb, hl, hx, htt, hq'⟩ := h5 rfl
          rw [Bool.false_or] at h1
          by_cases hbad : Bad t c d p.1 p.2
          · refine .inr ⟨t, c, d, q', fun t' ht' hf => ?_, rfl, by simpa [hbad] using h1⟩
            obtain ⟨a1, a2, a3, a4, a5, a6, a7, a8⟩ := P.new_full (bs.drop q) p hv2 t' ht' hf
            have ec : c = P.lz t' := by omega
            have eb : b = P.tz t' := by omega
            have et : t = t' := by rw [htt, ec, eb]; exact a7.symm
            rcases hbad with hbad | hbad
            · exact hbad ⟨by rw [et]; omega, by rw [et]; omega⟩
            · exact a8 ⟨by omega, by omega⟩
          · have hlz : P.lz t = c ∧ P.tz t = b := by
              unfold Bad at hbad
              have := Decidable.not_not.1 (fun hh => hbad (.inl hh))
              omega
            have hnh : ¬ (p.1 ≤ c ∧ p.2 ≤ b) := fun hh => hbad (.inr ⟨by omega, by omega⟩)
            obtain ⟨s1, s2, s3, s4⟩ := P.new_sound (bs.drop q) p c b t (by omega) hv2 (by omega) e1.symm (by omega) hcb hl hx htt hlz.1 hlz.2 hnh
            refine .inl ⟨t, s4, s1, by rw [s2, hb], ?_⟩
            rw [s3]
            have : q + (14 + (64 - c - b)) = q' := by omega
            rw [this]
            simpa [hbad] using h1
    · -- too few bits for a window
      refine (turn_new v bs q (q + 1) (q + 1 + 1) g p.1 p.2 false false false w0 w
        (fun c d q' br' => c ≤ 64 ∧ -64 ≤ d ∧ d ≤ 64 ∧ q' ≤ bs.length ∧ br' = true) (fun c d t q' br' => br' = true) h ht H1 H2 (fun w h => ?_) ?_).mono ?_
      · refine (window_gen v bs (q + 1 + 1) g false w0 w (fun x q' br' => (q' = q + 8 ∧ br' = false ∨ br' = true) ∧ q' ≤ bs.length) (fun x y q' br' => q' ≤ bs.length ∧ br' = true) h (fun w h => ?_) ?_).mono ?_
        · by_cases h8 : q + 8 ≤ bs.length
          · refine (rpull_ok v bs (q + 1 + 1) 6 g false w0 w hr n1 h (by decide) (by omega)).mono ?_
            rintro e w' ⟨rfl, h1, h2⟩
            exact ⟨_, _, _, rfl, P.val_take_len _ _, h1, h2, .inl ⟨by omega, rfl⟩, by omega⟩
          · refine (rpull_bad v bs (q + 1 + 1) 6 g false w0 w hr n1 h (by decide) (by omega) (by omega)).mono ?_
            rintro e w' ⟨rfl, h1, h2⟩
            exact ⟨0, _, _, rfl, by decide, h1, h2, .inr rfl, by omega⟩
        · rintro x q1 br1 ⟨⟨rfl, rfl⟩ | rfl, hq1⟩ w h
          · refine (rpull_bad v bs (q + 8) 6 g false w0 w hr n1 h (by decide) (by omega) (by omega)).mono ?_
            rintro e w' ⟨rfl, h1, h2⟩
            exact ⟨0, _, _, rfl, by decide, h1, h2, hq1, rfl⟩
          · refine (rpull_any v bs q1 6 g true w0 w hr n1 h (by decide) hq1).mono ?_
            rintro e w' ⟨x, q', br', rfl, hx, h1, h2, h3, h4⟩
            exact ⟨x, q', br', rfl, hx, h1, h2, h3, h4 rfl⟩
        · rintro e w' ⟨x, y, q', br', rfl, hx, hy, h1, h2, h3, h4⟩
          exact ⟨x, _, q', br', rfl, h1, h2, by omega, by omega, by omega, h3, h4⟩
      · rintro c d q3 br3 ⟨hc, d0, d1, hq3, rfl⟩ w h
        refine (tw_any v bs q3 g c d true w0 w hr n1 h hc d0 d1 hq3).mono ?_
        rintro e w' ⟨t, q', br', rfl, htt, h1, h2, h3, h4, _⟩
        exact ⟨t, q', br', rfl, htt, h1, h2, h4 rfl⟩
      · rintro e w' ⟨c, d, t, q', br', rfl, h1, h2, rfl⟩
        refine ⟨h2, .inr ⟨t, c, d, q', fun t' ht' hf => ?_, rfl, by simpa using h1⟩⟩
        have := (P.new_full (bs.drop q) p hv2 t' ht' hf).1
        omega
end X
end Go.Proofs.YtfjbdgkdkbcnhaaDoor
/- Plain: how bits are read as a list of measures, one behind the other. -/
namespace Go.Proofs.YtfjbdgkdkbcnhaaDoor
open P
namespace X
theorem Tryd.info50 : (Tryd.prog.info? 50).map (fun i => (i.zero, i.size, i.bytes)) = some (some (.int .u64 0), 1, 8) := by kernel_rfl
theorem cells50 : Tryd.prog.cellsOf 50 = 1 := by kernel_rfl
theorem bytes50 : Tryd.prog.bytesOf 50 = 8 := by kernel_rfl
namespace P
theorem fr_front (bs : List Bool) (l : List Int) (n j : Nat) : Fr bs (front l n (j + 1)) ↔ Fr bs (front l n j) ∧ Fr (bs.drop (front l n j).length) (tb l j) := by
  rw [front_succ, fr_app]
theorem fr_mono (bs : List Bool) (l : List Int) (n j k : Nat) (h : j ≤ k) (hf : Fr bs (front l n k)) : Fr bs (front l n j) := by
  induction k with
  | zero => obtain rfl : j = 0 := by omega
            exact hf
  | succ k ih =>
    rcases Nat.lt_or_ge j (k + 1) with h1 | h1
    · exact ih (by omega) ((fr_front bs l n k).1 hf).1
    · obtain rfl : j = k + 1 := by omega
      exact hf
/-- A list that Pack takes stands at the front. -/
def Is (bs : List Bool) (m : List Int) : Prop := m.length ≤ 1000 ∧ U64 m ∧ Fr bs (packT m)
theorem Is.count {bs : List Bool} {m : List Int} (h : Is bs m) : 16 ≤ bs.length ∧ val (bs.take 16) = m.length := by
  obtain ⟨h1, h2, h3⟩ := h
  have h4 := fr_mono bs m m.length 0 m.length (by omega) h3
  rw [front_zero] at h4
  exact (fr_ofVal bs m.length 16 (by omega)).1 h4
theorem take_app {m acc : List Int} {j : Nat} (h : m.take j = acc) : m = acc ++ m.drop j := by rw [← h, List.take_append_drop]
theorem Is.at {bs : List Bool} {m acc : List Int} (h : Is bs m) (ha : m.take acc.length = acc) (hl : acc.length < m.length) : Fr (bs.drop (front acc m.length acc.length).length) (tb m acc.length) := by
  have h4 := fr_mono bs m m.length (acc.length + 1) m.length (by omega) h.2.2
  rw [fr_front] at h4
  have e : front m m.length acc.length = front acc m.length acc.length := by
    have := front_app acc (m.drop acc.length) m.length acc.length (Nat.le_refl _)
    rw [← take_app ha] at this
    exact this
  rw [e] at h4
  exact h4.2
theorem win_take {m acc : List Int} (ha : m.take acc.length = acc) : win m acc.length = win acc acc.length := by
  have := win_app acc (m.drop acc.length) acc.length (Nat.le_refl _)
  rw [← take_app ha] at this
  exact this
theorem tb_zero (l : List Int) : tb l 0 = ofVal (l.getD 0 0).toNat 64 := by unfold tb; rw [if_pos rfl]
theorem first_sound (X : List Bool) (h : 64 ≤ X.length) : Fr X (tb ([] ++ [((val (X.take 64) : Nat) : Int)]) 0) ∧ (tb ([] ++ [((val (X.take 64) : Nat) : Int)]) 0).length = 64 := by
  have hv := val_take_len X 64
  rw [tb_zero]
  have e : (([] ++ [((val (X.take 64) : Nat) : Int)]).getD 0 0).toNat = val (X.take 64) := rfl
  rw [e]
  exact ⟨(fr_ofVal X _ 64 hv).2 ⟨h, rfl⟩, ofVal_len _ _⟩
theorem first_full (X : List Bool) (m : List Int) (hi : U64 m) (h : Fr X (tb m 0)) : 64 ≤ X.length ∧ m.getD 0 0 = ((val (X.take 64) : Nat) : Int) := by
  rw [tb_zero] at h
  have hb := hi.at 0
  obtain ⟨h1, h2⟩ := (fr_ofVal X _ 64 (by omega)).1 h
  exact ⟨h1, by rw [h2]; omega⟩
/-- The number behind acc, its turn being t. -/
def nxt (acc : List Int) (t : Nat) : Int := (((lst acc acc.length).toNat ^^^ t : Nat) : Int)
theorem getD_new (acc : List Int) (y : Int) : (acc ++ [y]).getD acc.length 0 = y := by
  rw [List.getD_eq_getElem?_getD, List.getElem?_append_right (Nat.le_refl _)]; simp
theorem getD_pred (acc r : List Int) (h : 0 < acc.length) : (acc ++ r).getD (acc.length - 1) 0 = lst acc acc.length := by
  unfold lst; rw [if_neg (by omega), getD_app acc r _ (by omega)]
theorem xor_back (a b : Nat) : (a ^^^ b) ^^^ a = b := by rw [Nat.xor_comm a b, Nat.xor_assoc, Nat.xor_self, Nat.xor_zero]
theorem tn_next (acc : List Int) (t : Nat) (hp : 0 < acc.length) : tn (acc ++ [nxt acc t]) acc.length = t := by
  unfold tn
  rw [getD_new, getD_pred acc _ hp]
  unfold nxt
  rw [Int.toNat_natCast, xor_back]
theorem tb_next (acc : List Int) (t : Nat) (hp : 0 < acc.length) : tb (acc ++ [nxt acc t]) acc.length = tbits (win acc acc.length) t := by
  unfold tb
  rw [if_neg (by omega), tn_next acc t hp, win_app acc _ _ (Nat.le_refl _)]
theorem lst_new (acc : List Int) (y : Int) : lst (acc ++ [y]) (acc.length + 1) = y := by
  unfold lst; rw [if_neg (by omega), Nat.add_sub_cancel, getD_new]
theorem win_new (acc : List Int) (t : Nat) (hp : 0 < acc.length) : win (acc ++ [nxt acc t]) (acc.length + 1) = nw (win acc acc.length) t := by
  rw [win_next _ _ hp, tn_next acc t hp, win_app acc _ _ (Nat.le_refl _)]
theorem next_full (m acc : List Int) (hi : U64 m) (ha : m.take acc.length = acc) (hp : 0 < acc.length) (t : Nat) (ht : t < 18446744073709551616) (X : List Bool) (hf : Fr X (tbits (win acc acc.length) t)) (hm : Fr X (tb m acc.length)) : m.getD acc.length 0 = nxt acc t := by
  unfold tb at hm
  rw [if_neg (by omega), win_take ha] at hm
  have e := turn_one X _ t (tn m acc.length) ht (tn_lt hi _) hf hm
  have e1 : m.getD (acc.length - 1) 0 = lst acc acc.length := by
    have := getD_pred acc (m.drop acc.length) hp
    rw [← take_app ha] at this
    exact this
  have hb := hi.at acc.length
  unfold tn at e
  rw [e1] at e
  unfold nxt
  rw [e, Nat.xor_comm (m.getD acc.length 0).toNat, ← Nat.xor_assoc, Nat.xor_self, Nat.zero_xor]
  omega
theorem take_next (m acc : List Int) (ha : m.take acc.length = acc) (hl : acc.length < m.length) : m.take (acc.length + 1) = acc ++ [m.getD acc.length 0] := by
  rw [List.take_succ_eq_append_getElem hl, ha]
  simp [List.getD_eq_getElem?_getD, hl]
theorem u64_snoc {acc : List Int} {y : Int} (h : U64 acc) (h0 : 0 ≤ y) (h1 : y ≤ 18446744073709551615) : U64 (acc ++ [y]) := by
  intro x hx
  rcases List.mem_append.1 hx with h2 | h2
  · exact h x h2
  · simp at h2; subst h2; exact ⟨h0, h1⟩
/-- One step: a number more is read. -/
theorem read_step (bs : List Bool) (acc : List Int) (n : Nat) (y : Int) (hf : Fr bs (front acc n acc.length)) (ht : Fr (bs.drop (front acc n acc.length).length) (tb (acc ++ [y]) acc.length)) : Fr bs (front (acc ++ [y]) n (acc.length + 1)) ∧ (front (acc ++ [y]) n (acc.length + 1)).length = (front acc n acc.length).length + (tb (acc ++ [y]) acc.length).length := by
  have e := front_app acc [y] n acc.length (Nat.le_refl _)
  refine ⟨(fr_front bs _ n _).2 ⟨by rw [e]; exact hf, by rw [e]; exact ht⟩, ?_⟩
  rw [front_succ, e, List.length_append]
/-- How it stands behind acc: read so far, or broken. -/
structure St (bs : List Bool) (n : Nat) (acc : List Int) (la a b : Int) (q : Nat) (br : Bool) : Prop where
  run : br = false → q = (front acc n acc.length).length ∧ la = lst acc acc.length ∧ a = (win acc acc.length).1 ∧ b = (win acc acc.length).2 ∧ Fr bs (front acc n acc.length) ∧ U64 acc ∧ ∀ m, Is bs m → m.take acc.length = acc
  stop : br = true → ∀ m, ¬ Is bs m
theorem St.dead {bs : List Bool} {n : Nat} {acc : List Int} {la a b : Int} {q : Nat} (h : ∀ m, ¬ Is bs m) : St bs n acc la a b q true := ⟨fun h => (by cases h), fun _ => h⟩
theorem lst_lt {acc : List Int} (h : U64 acc) : 0 ≤ lst acc acc.length ∧ lst acc acc.length ≤ 18446744073709551615 := by
  unfold lst; split
  · decide
  · exact h.at _
/-- The first number is there. -/
theorem St.first {bs : List Bool} {n : Nat} {la a b : Int} {q : Nat} (hn : val (bs.take 16) = n) (hl : 0 < n) (h : St bs n [] la a b q false) (h64 : 64 ≤ (bs.drop q).length) :
    St bs n ([] ++ [((val ((bs.drop q).take 64) : Nat) : Int)]) ((val ((bs.drop q).take 64) : Nat) : Int) a b (q + 64) false := by
  obtain ⟨h1, h2, h3, h4, h5, h6, h7⟩ := h.run rfl
  have hv := val_take_len (bs.drop q) 64
  obtain ⟨s1, s2⟩ := first_sound (bs.drop q) h64
  rw [h1] at s1 s2 hv h64 ⊢
  obtain ⟨s3, s4⟩ := read_step bs [] n _ h5 s1
  refine ⟨fun _ => ⟨?_, rfl, h3, h4, s3, u64_snoc h6 (by omega) (by omega), fun m hm => ?_⟩, fun h => by cases h⟩
  · have e : ([] ++ [((val ((bs.drop (front [] n ([] : List Int).length).length).take 64) : Nat) : Int)]).length = ([] : List Int).length + 1 := rfl
    rw [e, s4]
    exact congrArg _ s2.symm
  · have hc := hm.count.2
    have hm7 := h7 m hm
    have hlt : ([] : List Int).length < m.length := by simp; omega
    have hat := hm.at hm7 hlt
    rw [← hc, hn] at hat
    have hf := first_full _ m hm.2.1 hat
    have hnx := take_next m [] hm7 hlt
    have e : m.getD ([] : List Int).length 0 = m.getD 0 0 := rfl
    rw [e, hf.2] at hnx
    exact hnx
theorem St.first_none {bs : List Bool} {n : Nat} {la a b : Int} {q : Nat} (hn : val (bs.take 16) = n) (hl : 0 < n) (h : St bs n [] la a b q false) (h64 : (bs.drop q).length < 64) : ∀ m, ¬ Is bs m := by
  intro m hm
  obtain ⟨h1, h2, h3, h4, h5, h6, h7⟩ := h.run rfl
  have hc := hm.count.2
  have hlt : ([] : List Int).length < m.length := by simp; omega
  have hat := hm.at (h7 m hm) hlt
  rw [← hc, hn, ← h1] at hat
  have := (first_full _ m hm.2.1 hat).1
  omega
theorem St.next {bs : List Bool} {n : Nat} {acc : List Int} {la a b : Int} {q : Nat} (hn : val (bs.take 16) = n) (hp : 0 < acc.length) (hl : acc.length < n) (h : St bs n acc la a b q false) (t : Nat) (ht : t < 18446744073709551616) (hf : Fr (bs.drop q) (tbits (win acc acc.length) t)) :
    St bs n (acc ++ [nxt acc t]) (nxt acc t) (nw (win acc acc.length) t).1 (nw (win acc acc.length) t).2 (q + (tbits (win acc acc.length) t).length) false := by
  obtain ⟨h1, h2, h3, h4, h5, h6, h7⟩ := h.run rfl
  rw [h1] at hf ⊢
  have hlst := lst_lt h6
  have hx := xor_lt (lst acc acc.length).toNat t (by omega) ht
  have hy : 0 ≤ nxt acc t ∧ nxt acc t ≤ 18446744073709551615 := by unfold nxt; omega
  have hl1 : (acc ++ [nxt acc t]).length = acc.length + 1 := by simp
  obtain ⟨s3, s4⟩ := read_step bs acc n (nxt acc t) h5 (by rw [tb_next acc t hp]; exact hf)
  rw [tb_next acc t hp] at s4
  refine ⟨fun _ => ⟨?_, ?_, ?_, ?_, ?_, u64_snoc h6 hy.1 hy.2, fun m hm => ?_⟩, fun h => by cases h⟩
  · rw [hl1, s4]
  · rw [hl1, lst_new]
  · rw [hl1, win_new acc t hp]
  · rw [hl1, win_new acc t hp]
  · rw [hl1]; exact s3
  · have hc := hm.count.2
    have hm7 := h7 m hm
    have hlt : acc.length < m.length := by omega
    have hat := hm.at hm7 hlt
    rw [← hc, hn] at hat
    rw [hl1, take_next m acc hm7 hlt, next_full m acc hm.2.1 hm7 hp t ht _ hf hat]
theorem St.next_none {bs : List Bool} {n : Nat} {acc : List Int} {la a b : Int} {q : Nat} (hn : val (bs.take 16) = n) (hp : 0 < acc.length) (hl : acc.length < n) (h : St bs n acc la a b q false) (hf : NoTurn (bs.drop q) (win acc acc.length)) : ∀ m, ¬ Is bs m := by
  intro m hm
  obtain ⟨h1, h2, h3, h4, h5, h6, h7⟩ := h.run rfl
  have hc := hm.count.2
  have hm7 := h7 m hm
  have hlt : acc.length < m.length := by omega
  have hat := hm.at hm7 hlt
  rw [← hc, hn, ← h1] at hat
  unfold tb at hat
  rw [if_neg (by omega), win_take hm7] at hat
  exact hf _ (tn_lt hm.2.1 _) hat
theorem St.done {bs : List Bool} {n : Nat} {acc : List Int} {la a b : Int} {q : Nat} (hn : val (bs.take 16) = n) (hle : n ≤ 1000) (hl : acc.length = n) (h : St bs n acc la a b q false) : Is bs acc ∧ (∀ m, Is bs m → m = acc) ∧ q = (packT acc).length := by
  obtain ⟨h1, h2, h3, h4, h5, h6, h7⟩ := h.run rfl
  refine ⟨⟨by omega, h6, ?_⟩, fun m hm => ?_, ?_⟩
  · unfold packT; rw [← hl] at h5; exact h5
  · have hc := hm.count.2
    have := h7 m hm
    rw [List.take_of_length_le (by omega)] at this
    exact this
  · unfold packT; rw [h1, ← hl]
theorem St.start {bs : List Bool} {n : Nat} (h16 : 16 ≤ bs.length) (hn : val (bs.take 16) = n) (hle : n ≤ 1000) : St bs n [] 0 64 64 16 false :=
  ⟨fun _ => ⟨by rw [List.length_nil, front_zero, ofVal_len], rfl, rfl, rfl, by rw [List.length_nil, front_zero]; exact (fr_ofVal bs n 16 (by omega)).2 ⟨h16, hn⟩, fun x hx => (by cases hx), fun m _ => by simp⟩, fun h => by cases h⟩
end P
end X
end Go.Proofs.YtfjbdgkdkbcnhaaDoor
/- What xor.reader's measures and xor.Unpack answer. -/
namespace Go.Proofs.YtfjbdgkdkbcnhaaDoor
open P
namespace X
open Go.RowKit
set_option linter.unusedVariables false
set_option linter.unusedSimpArgs false

theorem u64_nxt {acc : List Int} (h : P.U64 acc) (t : Nat) (ht : t < 18446744073709551616) : bits BinOp.xor IntKind.u64 (P.lst acc acc.length) (t : Int) = P.nxt acc t := by
  have hl := P.lst_lt h
  have := u64_xor (P.lst acc acc.length) (t : Int) hl.1 (by omega) (by omega) (by omega)
  rw [Int.toNat_natCast] at this
  exact this

theorem Rd.belowB {w0 w w' : World} {g B : Nat} {v : Value} {bs : List Bool} {q : Nat} {br : Bool} (h : Rd w0 w g v bs q br) (hb : Below B w w') (hB : g < B) : Rd w0 w' g v bs q br :=
  ⟨h.old.trans (hb.mono (by have := h.hg; omega)), h.hg, (hb.cell (p := ⟨g, 0, none⟩) hB).trans h.x0, (hb.cell (p := ⟨g, 1, none⟩) hB).trans h.x1, (hb.cell (p := ⟨g, 2, none⟩) hB).trans h.x2, (hb.cell (p := ⟨g, 3, none⟩) hB).trans h.x3, (hb.frozen (p := ⟨g, 2, none⟩) hB).trans h.f2, (hb.frozen (p := ⟨g, 3, none⟩) hB).trans h.f3⟩
theorem B2.belowB {w w' : World} {b B : Nat} {c0 c1 : Value} (h : B2 w b c0 c1) (hb : Below B w w') (hB : b < B) : B2 w' b c0 c1 :=
  ⟨(hb.cell (p := ⟨b, 0, none⟩) hB).trans h.x0, (hb.cell (p := ⟨b, 1, none⟩) hB).trans h.x1, (hb.frozen (p := ⟨b, 0, none⟩) hB).trans h.f0, (hb.frozen (p := ⟨b, 1, none⟩) hB).trans h.f1⟩
theorem But.belowB {g B : Nat} {w w1 w2 : World} (h : But g w w1) (hb : Below B w1 w2) (hB : w.heap.size ≤ B) : But g w w2 :=
  ⟨hb.os.trans h.os, hb.tape.trans h.tape, hb.output.trans h.output, Nat.le_trans h.size hb.size, fun k hk hg => (hb.block k (by omega)).trans (h.block k hk hg)⟩
theorem _root_.Go.Proofs.YtfjbdgkdkbcnhaaDoor.OwnK.set2 {t : TypeId} {k : IntKind} {W : World} {g base : Nat} {v : Value} {l : List Int} (h : OwnK t k W base v l) (hg : g < base) (d0 d1 : Value) : OwnK t k ((W.setCell ⟨g, 0, none⟩ d0).setCell ⟨g, 1, none⟩ d1) base v l := ownsRow_setCell_below (ownsRow_setCell_below h hg _) hg _

set_option maxHeartbeats 4000000 in
/-- The loop, whatever the first pull answers. -/
theorem measures_gen (v : Value) (bs : List Bool) (n q1 g : Nat) (br1 : Bool) (w0 w : World) (hr : RowB w0 v (P.pack bs)) (n1 : (bs.length : Int) ≤ 9223372036854775000) (ht : Tab w0) (h : Rd w0 w g v bs 0 false) (hle : n ≤ 1000) (hn : br1 = false → P.val (bs.take 16) = n)
    (hst : P.St bs n [] 0 64 64 q1 br1) (hq1 : q1 ≤ bs.length)
    (HA : ∀ w : World, Rd w0 w g v bs 0 false → Calls Tryd.prog 63 #[ptr g, .int .i64 16] w fun e w' => e = .returned (.int .u64 n) ∧ Rd w0 w' g v bs q1 br1 ∧ But g w w') :
    Calls Tryd.prog 50 #[ptr g] w fun e w' => But g w w' ∧
      ((∃ (l : List Int) (a : Option Addr) (c : Nat), P.Is bs l ∧ (∀ m, P.Is bs m → m = l) ∧ OwnK 50 .u64 w' (g + 1) (.slice a l.length c) l ∧ e = .returned (.slice a l.length c) ∧ Rd w0 w' g v bs (P.packT l).length false) ∨
       (∃ (a : Option Addr) (k c q' : Nat), (∀ m, ¬ P.Is bs m) ∧ e = .returned (.slice a k c) ∧ Rd w0 w' g v bs q' true)) := by
  replace HA := hide HA
  have hlg := h.lt
  have hw0 : w0.heap.size ≤ w.heap.size := h.old.size
  have hnle : decide (1000 < (n : Int)) = false := by simp; omega
  go_enter Tryd.func50, Tryd.ntmps50
  go_wp2_with fail
  refine (HA.out _ h).mono ?_
  rintro e w3 ⟨rfl, h3, b3⟩
  clear HA h
  go_wp2_with fail
  refine (noWindow_any _).mono ?_
  rintro e w5 ⟨rfl, hb5⟩
  have h5 := h3.next hb5
  have b5 := b3.trans (But.of (g := g) hb5)
  have hl5 := h5.lt
  have hP := B2.new w5 (.int .i64 64) (.int .i64 64) 76
  have h6 := h5.next ((Below.refl _ _).alloc (Nat.le_refl _) (.cells #[.int .i64 64, .int .i64 64] 76))
  have b6 := b5.trans (But.of (g := g) ((Below.refl w5.heap.size w5).alloc (Nat.le_refl _) (.cells #[.int .i64 64, .int .i64 64] 76)))
  have hne : w5.heap.size ≠ g := by omega
  have hwl : w.heap.size ≤ w5.heap.size := b5.size
  clear h3 b3 hb5 h5 b5
  go_wp2_with fail
  generalize World.alloc w5 _ = W6 at hP h6 b6 ⊢
  go_loopw [4, 5, 8] (fun l last i wr => ∃ (j : Nat) (acc : List Int) (am : Option Addr) (cm : Nat) (la a b : Int) (q : Nat) (br : Bool), j ≤ n ∧ i = .int .i64 j ∧ l = .slice am j cm ∧ acc.length = j ∧ OwnK 50 .u64 wr (w5.heap.size + 1) (.slice am j cm) acc ∧
      last = .int .u64 la ∧ B2 wr w5.heap.size (.int .i64 a) (.int .i64 b) ∧ Rd w0 wr g v bs q br ∧ But g w wr ∧ Hid (P.St bs n acc la a b q br) ∧ Hid (br = false → q ≤ bs.length) ∧ Hid (br = false → P.val (bs.take 16) = n)) (fun _ _ i _ => n - (intOf i).toNat)
  case atStart => exact ⟨0, [], none, 0, 0, 64, 64, q1, br1, by omega, rfl, rfl, rfl, OwnK.nil _ _ _ _, rfl, hP, h6, b6, hide hst, hide (fun _ => hq1), hide hn⟩
  case round =>
    clear hP h6 b6
    obtain ⟨j, acc, am, cm, la, a, b, q, br, hj, rfl, rfl, hal, ho, rfl, hP, hR, hb, Hst, HQ, HV⟩ := hrel
    have hacc : acc.length ≤ 1000 := by omega
    have hlR := hR.lt
    by_cases hlt : j < n
    · have j1 : (j : Int) < (n : Int) := by omega
      cases br with
      | true =>
        obtain ⟨ko, kg, k0, k1, k2, k3, kf2, kf3⟩ := id hR
        go_wp2
        go_ret
        exact ⟨hb, .inr ⟨am, j, cm, q, Hst.out.stop rfl, rfl, hR⟩⟩
      | false =>
        have hv16 := HV.out rfl
        have hq := HQ.out rfl
        obtain ⟨ko, kg, k0, k1, k2, k3, kf2, kf3⟩ := id hR
        by_cases hz : j = 0
        · have hjz : ((j : Int) == 0) = true := by simp; exact hz
          have hacc0 : acc = [] := List.length_eq_zero_iff.1 (by omega)
          by_cases h64 : 64 ≤ (bs.drop q).length
          · have HN : Hid (P.St bs n (acc ++ [((P.val ((bs.drop q).take 64) : Nat) : Int)]) ((P.val ((bs.drop q).take 64) : Nat) : Int) a b (q + 64) false) := by
              rw [hacc0] at Hst ⊢
              exact Hst.out.first hv16 (by omega) h64
            have hl64 : q + 64 ≤ bs.length := by rw [List.length_drop] at h64; omega
            have HC := hide (fun (w : World) (h : Rd w0 w g v bs q false) => rpull_ok v bs q 64 g false w0 w hr n1 h (by decide) hl64)
            generalize P.val ((bs.drop q).take 64) = x at HN HC
            clear h64 hz hacc0
            go_wp2_with fail
            refine (HC.out _ hR).mono ?_
            rintro e w7 ⟨rfl, h7, b7⟩
            have hP7 := hP.but b7 hne
            have ho7 := ho.but b7 (by omega)
            have b8 := hb.trans b7
            have hl7 := h7.lt
            have hB7 : w5.heap.size + 1 ≤ w7.heap.size := hP7.lt
            clear HC k0 k1 k2 k3 kf2 kf3 ko kg hR hb hP ho b7
            go_wp2_with (at_builtin; go_must (refine wp_app1K rfl _ _ 39 50 .u64 8 rfl Tryd.underlying39 Tryd.info50 (by decide) (w5.heap.size + 1) (w5.heap.size + 1) (w7) (w7) _ acc ((x : Int)) ho7 (Below.refl _ _) (Nat.le_refl _) rfl rfl (by omega) hB7 ?_); intro v' w' hown' hb' hsz' hg'; obtain ⟨a', cap', hv'⟩ := hown'.shape; rw [hv'] at hown' ⊢; clear hv' hg')
            go_roundw
            case rel =>
              have e1 : (acc ++ [(x : Int)]).length = j + 1 := by simp; omega
              rw [e1] at hown'
              refine ⟨j + 1, acc ++ [(x : Int)], a', cap', (x : Int), _, _, q + 64, _, by omega, by go_num, (by first | rfl | rw [e1]), e1, hown', rfl, B2.belowB hP7 hb' (by omega), Rd.belowB h7 hb' (by omega), But.belowB b8 hb' (by omega), HN, ?_, ?_⟩
              · exact hide fun h => (by first | omega | cases h)
              · exact hide fun _ => hv16
            case measure => simp [intOf]; omega
          · have HN := hide (fun acc' la' => @P.St.dead bs n acc' la' a b q (by
              rw [hacc0] at Hst
              exact Hst.out.first_none hv16 (by omega) (by omega)))
            have hl64 : bs.length < q + 64 := by rw [List.length_drop] at h64; omega
            have HC := hide (fun (w : World) (h : Rd w0 w g v bs q false) => rpull_bad v bs q 64 g false w0 w hr n1 h (by decide) hq hl64)
            clear h64 hz hacc0
            go_wp2_with fail
            refine (HC.out _ hR).mono ?_
            rintro e w7 ⟨rfl, h7, b7⟩
            have hP7 := hP.but b7 hne
            have ho7 := ho.but b7 (by omega)
            have b8 := hb.trans b7
            have hl7 := h7.lt
            have hB7 : w5.heap.size + 1 ≤ w7.heap.size := hP7.lt
            clear HC k0 k1 k2 k3 kf2 kf3 ko kg hR hb hP ho b7
            go_wp2_with (at_builtin; go_must (refine wp_app1K rfl _ _ 39 50 .u64 8 rfl Tryd.underlying39 Tryd.info50 (by decide) (w5.heap.size + 1) (w5.heap.size + 1) (w7) (w7) _ acc ((0 : Int)) ho7 (Below.refl _ _) (Nat.le_refl _) rfl rfl (by omega) hB7 ?_); intro v' w' hown' hb' hsz' hg'; obtain ⟨a', cap', hv'⟩ := hown'.shape; rw [hv'] at hown' ⊢; clear hv' hg')
            go_roundw
            case rel =>
              have e1 : (acc ++ [(0 : Int)]).length = j + 1 := by simp; omega
              rw [e1] at hown'
              refine ⟨j + 1, acc ++ [(0 : Int)], a', cap', (0 : Int), _, _, q, _, by omega, by go_num, (by first | rfl | rw [e1]), e1, hown', rfl, B2.belowB hP7 hb' (by omega), Rd.belowB h7 hb' (by omega), But.belowB b8 hb' (by omega), hide (HN.out _ _), ?_, ?_⟩
              · exact hide fun h => (by first | omega | cases h)
              · exact hide fun _ => hv16
            case measure => simp [intOf]; omega
        · have hjz : ((j : Int) == 0) = false := by simp; omega
          obtain ⟨e1, e2, e3, e4, e5, e6, e7⟩ := Hst.out.run rfl
          have HC := hide (fun (w : World) (h : Rd w0 w g v bs q false) => turn_any v bs q g (P.win acc acc.length) w0 w hr n1 ht h hq (P.win_ok e6 _))
          have HY := hide (fun t ht => e2 ▸ u64_nxt e6 t ht)
          have HS1 := hide (fun t (ht : t < 18446744073709551616) hf => Hst.out.next hv16 (by omega) (by omega) t ht hf)
          have HS2 := hide (fun hf => Hst.out.next_none hv16 (by omega) (by omega) hf)
          have HLe := hide (fun t (hf : P.Fr (bs.drop q) (P.tbits (P.win acc acc.length) t)) => hf.len)
          rw [← e3, ← e4] at HC
          clear e1 e2 e3 e4 e5 e6 e7 hz
          generalize P.win acc acc.length = p at HC HS1 HS2 HLe
          obtain ⟨p0, p1, pf0, pf1⟩ := id hP
          go_wp2_with fail
          refine (HC.out _ hR).mono ?_
          rintro e w7 ⟨b7, ⟨t, ht1, hfr, rfl, h7⟩ | ⟨t, c, d, q', hno, rfl, h7⟩⟩
          · have HN := hide (HS1.out t ht1 hfr)
            have HYt := hide (HY.out t ht1)
            have hle2 := HLe.out t hfr
            rw [List.length_drop] at hle2
            have hP7 := hP.but b7 hne
            have ho7 := ho.but b7 (by omega)
            have b8 := hb.trans b7
            have hl7 := h7.lt
            have hB7 : w5.heap.size + 1 ≤ w7.heap.size := hP7.lt
            generalize P.nw p t = p' at HN ⊢
            generalize (P.tbits p t).length = k at HN h7 hle2
            generalize P.nxt acc t = y at HN HYt
            clear HC k0 k1 k2 k3 kf2 kf3 ko kg hR hb hP ho b7 p0 p1 pf0 pf1 HS1 HS2 HLe HY hfr
            have hP8 := hP7.set (.int .i64 p'.1) (.int .i64 p'.2)
            have h8 := (h7.other (j := 0) hne (by omega) (.int .i64 p'.1)).other (j := 1) hne (by omega) (.int .i64 p'.2)
            have b9 := (b8.setNew (b := w5.heap.size) hwl 0 (.int .i64 p'.1)).setNew (b := w5.heap.size) hwl 1 (.int .i64 p'.2)
            have ho8 := OwnK.set2 ho7 (Nat.lt_succ_self _) (.int .i64 p'.1) (.int .i64 p'.2)
            have hB7 : w5.heap.size + 1 ≤ ((w7.setCell ⟨w5.heap.size, 0, none⟩ (.int .i64 p'.1)).setCell ⟨w5.heap.size, 1, none⟩ (.int .i64 p'.2)).heap.size := by simpa using hB7
            obtain ⟨p0, p1, pf0, pf1⟩ := id hP7
            rw [← HYt.out] at HN
            go_wp2_with (at_builtin; go_must (refine wp_app1K rfl _ _ 39 50 .u64 8 rfl Tryd.underlying39 Tryd.info50 (by decide) (w5.heap.size + 1) (w5.heap.size + 1) (((w7.setCell ⟨w5.heap.size, 0, none⟩ (.int .i64 p'.1)).setCell ⟨w5.heap.size, 1, none⟩ (.int .i64 p'.2))) (((w7.setCell ⟨w5.heap.size, 0, none⟩ (.int .i64 p'.1)).setCell ⟨w5.heap.size, 1, none⟩ (.int .i64 p'.2))) _ acc (bits BinOp.xor IntKind.u64 la (t : Int)) ho8 (Below.refl _ _) (Nat.le_refl _) rfl (by show Value.slice (some ⟨w7.heap.size, 0, none⟩) 1 1 = _; simp) (by omega) hB7 ?_); intro v' w' hown' hb' hsz' hg'; obtain ⟨a', cap', hv'⟩ := hown'.shape; rw [hv'] at hown' ⊢; clear hv' hg')
            go_roundw
            case rel =>
              have e1 : (acc ++ [bits BinOp.xor IntKind.u64 la (t : Int)]).length = j + 1 := by simp; omega
              rw [e1] at hown'
              refine ⟨j + 1, acc ++ [bits BinOp.xor IntKind.u64 la (t : Int)], a', cap', bits BinOp.xor IntKind.u64 la (t : Int), _, _, q + k, _, by omega, by go_num, (by first | rfl | rw [e1]), e1, hown', rfl, B2.belowB hP8 hb' (by omega), Rd.belowB h8 hb' (by omega), But.belowB b9 hb' (by omega), HN, ?_, ?_⟩
              · exact hide fun h => (by first | omega | cases h)
              · exact hide fun _ => hv16
            case measure => simp [intOf]; omega
          · have HN := hide (fun acc' la' a' b' q' => @P.St.dead bs n acc' la' a' b' q' (HS2.out hno))
            have hP7 := hP.but b7 hne
            have ho7 := ho.but b7 (by omega)
            have b8 := hb.trans b7
            have hl7 := h7.lt
            have hB7 : w5.heap.size + 1 ≤ w7.heap.size := hP7.lt
            clear HC k0 k1 k2 k3 kf2 kf3 ko kg hR hb hP ho b7 p0 p1 pf0 pf1 HS1 HS2 HLe HY hno
            have hP8 := hP7.set (.int .i64 c) (.int .i64 d)
            have h8 := (h7.other (j := 0) hne (by omega) (.int .i64 c)).other (j := 1) hne (by omega) (.int .i64 d)
            have b9 := (b8.setNew (b := w5.heap.size) hwl 0 (.int .i64 c)).setNew (b := w5.heap.size) hwl 1 (.int .i64 d)
            have ho8 := OwnK.set2 ho7 (Nat.lt_succ_self _) (.int .i64 c) (.int .i64 d)
            have hB7 : w5.heap.size + 1 ≤ ((w7.setCell ⟨w5.heap.size, 0, none⟩ (.int .i64 c)).setCell ⟨w5.heap.size, 1, none⟩ (.int .i64 d)).heap.size := by simpa using hB7
            obtain ⟨p0, p1, pf0, pf1⟩ := id hP7
            go_wp2_with (at_builtin; go_must (refine wp_app1K rfl _ _ 39 50 .u64 8 rfl Tryd.underlying39 Tryd.info50 (by decide) (w5.heap.size + 1) (w5.heap.size + 1) (((w7.setCell ⟨w5.heap.size, 0, none⟩ (.int .i64 c)).setCell ⟨w5.heap.size, 1, none⟩ (.int .i64 d))) (((w7.setCell ⟨w5.heap.size, 0, none⟩ (.int .i64 c)).setCell ⟨w5.heap.size, 1, none⟩ (.int .i64 d))) _ acc (bits BinOp.xor IntKind.u64 la (t : Int)) ho8 (Below.refl _ _) (Nat.le_refl _) rfl (by show Value.slice (some ⟨w7.heap.size, 0, none⟩) 1 1 = _; simp) (by omega) hB7 ?_); intro v' w' hown' hb' hsz' hg'; obtain ⟨a', cap', hv'⟩ := hown'.shape; rw [hv'] at hown' ⊢; clear hv' hg')
            go_roundw
            case rel =>
              have e1 : (acc ++ [bits BinOp.xor IntKind.u64 la (t : Int)]).length = j + 1 := by simp; omega
              rw [e1] at hown'
              refine ⟨j + 1, acc ++ [bits BinOp.xor IntKind.u64 la (t : Int)], a', cap', bits BinOp.xor IntKind.u64 la (t : Int), _, _, q', _, by omega, by go_num, (by first | rfl | rw [e1]), e1, hown', rfl, B2.belowB hP8 hb' (by omega), Rd.belowB h8 hb' (by omega), But.belowB b9 hb' (by omega), hide (HN.out _ _ _ _ _), ?_, ?_⟩
              · exact hide fun h => (by first | omega | cases h)
              · exact hide fun _ => hv16
            case measure => simp [intOf]; omega
    · obtain rfl : j = n := by omega
      have hd : decide ((j : Int) < (j : Int)) = false := by simp
      obtain ⟨ko, kg, k0, k1, k2, k3, kf2, kf3⟩ := id hR
      go_wp2
      go_ret
      cases br with
      | true => exact ⟨hb, .inr ⟨am, j, cm, q, Hst.out.stop rfl, rfl, hR⟩⟩
      | false =>
        obtain ⟨d1, d2, d3⟩ := Hst.out.done (HV.out rfl) hle hal
        subst hal
        subst d3
        exact ⟨hb, .inl ⟨acc, am, cm, d1, d2, ho.base (by omega), rfl, hR⟩⟩
end X
end Go.Proofs.YtfjbdgkdkbcnhaaDoor
/- What xor.Unpack answers. -/
namespace Go.Proofs.YtfjbdgkdkbcnhaaDoor
open P
namespace X
open Go.RowKit
set_option linter.unusedVariables false
set_option linter.unusedSimpArgs false

theorem measures_many (v : Value) (bs : List Bool) (n g : Nat) (w0 w : World) (hr : RowB w0 v (P.pack bs)) (n1 : (bs.length : Int) ≤ 9223372036854775000) (h : Rd w0 w g v bs 0 false) (h16 : 16 ≤ bs.length) (hn : P.val (bs.take 16) = n) (hgt : 1000 < n) :
    Calls Tryd.prog 50 #[ptr g] w fun e w' => But g w w' ∧ e = .returned (.slice none 0 0) ∧ Rd w0 w' g v bs 16 true := by
  have HA := rpull_ok v bs 0 16 g false w0 w hr n1 h (by decide) (by omega)
  rw [List.drop_zero, hn] at HA
  replace HA := hide HA
  have hd : decide (1000 < (n : Int)) = true := by simp; omega
  clear hn
  go_enter Tryd.func50, Tryd.ntmps50
  go_wp2_with fail
  refine HA.out.mono ?_
  rintro e w3 ⟨rfl, h3, b3⟩
  clear HA h
  obtain ⟨ko, kg, k0, k1, k2, k3, kf2, kf3⟩ := id h3
  go_wp2
  go_ret
  exact ⟨b3.setCell 3 _, rfl, h3.setBr⟩
theorem measures_any (v : Value) (bs : List Bool) (g : Nat) (w0 w : World) (hr : RowB w0 v (P.pack bs)) (n1 : (bs.length : Int) ≤ 9223372036854775000) (ht : Tab w0) (h : Rd w0 w g v bs 0 false) :
    Calls Tryd.prog 50 #[ptr g] w fun e w' => But g w w' ∧
      ((∃ (l : List Int) (a : Option Addr) (c : Nat), P.Is bs l ∧ (∀ m, P.Is bs m → m = l) ∧ OwnK 50 .u64 w' (g + 1) (.slice a l.length c) l ∧ e = .returned (.slice a l.length c) ∧ Rd w0 w' g v bs (P.packT l).length false) ∨
       (∃ (a : Option Addr) (k c q' : Nat), (∀ m, ¬ P.Is bs m) ∧ e = .returned (.slice a k c) ∧ Rd w0 w' g v bs q' true)) := by
  by_cases h16 : 16 ≤ bs.length
  · by_cases hle : P.val (bs.take 16) ≤ 1000
    · refine measures_gen v bs _ 16 g false w0 w hr n1 ht h hle (fun _ => rfl) (P.St.start h16 rfl hle) h16 (fun w h => ?_)
      have h1 := rpull_ok v bs 0 16 g false w0 w hr n1 h (by decide) (by omega)
      rw [List.drop_zero] at h1
      exact h1
    · refine (measures_many v bs _ g w0 w hr n1 h h16 rfl (by omega)).mono ?_
      rintro e w' ⟨h1, rfl, h2⟩
      refine ⟨h1, .inr ⟨none, 0, 0, 16, fun m hm => ?_, rfl, h2⟩⟩
      have := hm.count.2
      have := hm.1
      omega
  · have hno : ∀ m, ¬ P.Is bs m := fun m hm => h16 hm.count.1
    refine measures_gen v bs 0 0 g true w0 w hr n1 ht h (by decide) (fun h => by cases h) (P.St.dead hno) (by omega) (fun w h => ?_)
    exact rpull_bad v bs 0 16 g false w0 w hr n1 h (by decide) (by omega) (by omega)

/-- Just what Pack makes of this list. -/
def Isx (bs : List Bool) (m : List Int) : Prop := m.length ≤ 1000 ∧ P.U64 m ∧ bs = P.packT m
theorem Isx.is {bs : List Bool} {m : List Int} (h : Isx bs m) : P.Is bs m := ⟨h.1, h.2.1, by rw [h.2.2]; unfold P.Fr; rw [List.take_length]⟩
theorem _root_.Go.Proofs.YtfjbdgkdkbcnhaaDoor.OwnK.lower {t : TypeId} {k : IntKind} {w : World} {b b' : Nat} {v : Value} {l : List Int} (h : OwnK t k w b v l) (hb : b' ≤ b) : OwnK t k w b' v l := h.base hb
theorem rd_new (w W2 : World) (v : Value) (bs : List Bool) (hb : Below w.heap.size w W2) : Rd w (W2.alloc (.cells #[v, .int .i64 bs.length, .int .i64 0, .bool false] 87)) W2.heap.size v bs 0 false :=
  ⟨below_alloc hb _, hb.size, by simp, by simp, by simp, by simp, by simp, by simp⟩
set_option maxHeartbeats 1000000 in
theorem unpack_ok (v : Value) (bs : List Bool) (w : World) (hr : RowB w v (P.pack bs)) (n1 : (bs.length : Int) ≤ 9223372036854775000) (ht : Tab w) :
    Calls Tryd.prog 27 #[.agg #[v, .int .i64 bs.length]] w fun e w' => Below w.heap.size w w' ∧
      ((∃ (l : List Int) (a : Option Addr) (c : Nat), Isx bs l ∧ (∀ m, Isx bs m → m = l) ∧ OwnK 50 .u64 w' w.heap.size (.slice a l.length c) l ∧ e = .returned (.tuple #[.slice a l.length c, .int .i64 0])) ∨
       ((∀ m, ¬ Isx bs m) ∧ e = .returned (.tuple #[.slice none 0 0, .int .i64 4]))) := by
  have hr1 := hr.below ((Below.refl _ _).alloc (Nat.le_refl _) (.cells #[v, .int .i64 bs.length] 43)) (Nat.le_refl _)
  have HCk := hide (fun (w : World) (hr : RowB w v (P.pack bs)) => check_ok v _ _ w hr (P.pack_byt _ bs) (show (bs.length : Int) ≤ 9223372036854775807 by omega) (P.pack_ok bs))
  have HM := hide (fun (W : World) (g : Nat) (h : Rd w W g v bs 0 false) => measures_any v bs g w W hr n1 ht h)
  have hX := B2.new w v (.int .i64 bs.length) 43
  obtain ⟨av, capv, hv⟩ : ∃ (a : Option Addr) (cap : Nat), v = .slice a (P.pack bs).length cap := by obtain ⟨a, cap, h, _⟩ := hr; exact ⟨a, cap, h⟩
  subst hv
  go_enter Tryd.func27, Tryd.ntmps27
  go_wp2_with fail
  refine (HCk.out _ hr1).mono ?_
  rintro e w2 ⟨rfl, hb2⟩
  have hX2 := hX.next hb2
  have hb := (box2 hb2).2.2.1
  have hX3 := hX2.alloc (.cells #[.slice av (P.pack bs).length capv, .int .i64 bs.length, .int .i64 0, .bool false] 87)
  have h3 := rd_new w w2 (.slice av (P.pack bs).length capv) bs hb
  have hlX := hX2.lt
  obtain ⟨x0, x1, xf0, xf1⟩ := id hX2
  clear hb2 hX hr1 HCk
  go_wp2_with fail
  clear x0 x1 xf0 xf1
  generalize World.alloc w2 _ = W3 at hX3 h3 ⊢
  refine (HM.out _ _ h3).mono ?_
  have hne : w.heap.size ≠ w2.heap.size := by omega
  have hls := h3.lt
  rintro e w5 ⟨b5, ⟨l, a, c, hl, huni, hown, rfl, h5⟩ | ⟨a, k, c, q', hno, rfl, h5⟩⟩
  · have hX5 := hX3.but b5 hne
    obtain ⟨x0, x1, xf0, xf1⟩ := id hX5
    obtain ⟨ko, kg, k0, k1, k2, k3, kf2, kf3⟩ := id h5
    by_cases hN : (P.packT l).length = bs.length
    · have HX : Hid (Isx bs l) := ⟨hl.1, hl.2.1, by
        have h := hl.2.2
        unfold P.Fr at h
        rw [hN, List.take_length] at h
        exact h⟩
      have hq : (((P.packT l).length : Int) != (bs.length : Int)) = false := by simp [hN]
      have HU : Hid (∀ m, Isx bs m → m = l) := fun m hm => huni m hm.is
      clear hN hl huni HM
      go_wp2
      go_ret2
      exact ⟨ko, .inl ⟨l, a, c, HX.out, HU.out, hown.lower (by omega), rfl⟩⟩
    · have HX : Hid (∀ m, ¬ Isx bs m) := fun m hm => by
        have := huni m hm.is
        subst this
        exact hN (by rw [← hm.2.2])
      have hq : (((P.packT l).length : Int) != (bs.length : Int)) = true := by rw [bne_iff_ne]; omega
      clear hN hl huni HM
      go_wp2
      go_ret2
      exact ⟨ko, .inr ⟨HX.out, rfl⟩⟩
  · have HX : Hid (∀ m, ¬ Isx bs m) := fun m hm => hno m hm.is
    have hX5 := hX3.but b5 hne
    obtain ⟨x0, x1, xf0, xf1⟩ := id hX5
    obtain ⟨ko, kg, k0, k1, k2, k3, kf2, kf3⟩ := id h5
    clear hno HM
    go_wp2
    go_ret2
    exact ⟨ko, .inr ⟨HX.out, rfl⟩⟩
theorem unpack_bad (v : Value) (l : List Int) (n : Int) (w : World) (hr : RowB w v l) (hbt : Byt l) (n0 : -9223372036854775808 ≤ n) (n1 : n ≤ 9223372036854775807) (hok : ¬ P.OkB l n) :
    Calls Tryd.prog 27 #[.agg #[v, .int .i64 n]] w fun e w' => Below w.heap.size w w' ∧ e = .returned (.tuple #[.slice none 0 0, .int .i64 4]) := by
  have hr1 := hr.below ((Below.refl _ _).alloc (Nat.le_refl _) (.cells #[v, .int .i64 n] 43)) (Nat.le_refl _)
  go_enter Tryd.func27, Tryd.ntmps27
  go_wp2_with (go_at_call 48; go_must (refine (check_bad _ l n _ hr1 hbt n0 n1 hok).mono ?_); rintro e w2 ⟨rfl, hb2⟩)
  go_ret2
  exact ⟨(box2 hb2).2.2.1, rfl⟩
end X
end Go.Proofs.YtfjbdgkdkbcnhaaDoor
