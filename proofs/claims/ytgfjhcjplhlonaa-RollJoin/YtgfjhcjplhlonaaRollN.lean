/- What Join answers. -/
import Derived.Test.YtgfjhcjplhlonaaRollJ
import Derived.Test.YtgfjhcjplhlonaaRollR
namespace Go.Proofs.Ytgfjhcjplhlonaa
open Go.RowKit
set_option linter.unusedVariables false
namespace P
def jout (a b : List Wn) : List Wn := if jerr a b = 0 then jn a b else []
theorem jerr_1 {a b : List Wn} (h : chkW a ≠ 0) : jerr a b = chkW a ∧ jout a b = [] := by
  have e : jerr a b = chkW a := by unfold jerr; rw [if_pos h]
  exact ⟨e, by unfold jout; rw [e, if_neg h]⟩
theorem jerr_2 {a b : List Wn} (h : chkW a = 0) (h2 : chkW b ≠ 0) : jerr a b = chkW b ∧ jout a b = [] := by
  have e : jerr a b = chkW b := by unfold jerr; rw [if_neg (by omega), if_pos h2]
  exact ⟨e, by unfold jout; rw [e, if_neg h2]⟩
theorem jerr_3 {a b : List Wn} (h : chkW a = 0) (h2 : chkW b = 0) (h3 : 1000 < (jn a b).length ∨ crowd (jn a b) = true) : jerr a b = 2 ∧ jout a b = [] := by
  have e : jerr a b = 2 := by
    unfold jerr
    rw [if_neg (by omega), if_neg (by omega)]
    split
    · rfl
    · rename_i h4
      rcases h3 with h3 | h3
      · exact absurd h3 h4
      · rw [if_pos h3]
  exact ⟨e, by unfold jout; rw [e, if_neg (by decide)]⟩
theorem jerr_4 {a b : List Wn} (h : chkW a = 0) (h2 : chkW b = 0) (h3 : (jn a b).length ≤ 1000) (h4 : crowd (jn a b) = false) : jerr a b = 0 ∧ jout a b = jn a b := by
  have e : jerr a b = 0 := by
    unfold jerr
    rw [if_neg (by omega), if_neg (by omega), if_neg (by omega), if_neg (by simp [h4])]
  exact ⟨e, by unfold jout; rw [if_pos e]⟩
end P
theorem join_any (va vb : Value) (a b : List P.Wn) (w : World) (ha : RowW w va a) (hb : RowW w vb b) : Calls Try.prog 18 #[va, vb] w (WPost w (P.jerr a b) (P.jout a b)) := by
  have HCa := hide (fun (w' : World) (h : Below w.heap.size w w') => checkW_any va a w' (ha.below h (Nat.le_refl _)))
  have HCb := hide (fun (w' : World) (h : Below w.heap.size w w') => checkW_any vb b w' (hb.below h (Nat.le_refl _)))
  by_cases h1 : P.chkW a = 0
  · rw [h1] at HCa
    by_cases h2 : P.chkW b = 0
    · rw [h2] at HCb
      have HB := hide (fun (w' : World) (h : Below w.heap.size w w') => joined_any va vb a b w' (ha.below h (Nat.le_refl _)) (hb.below h (Nat.le_refl _)) (P.chkW_zero h1).1 (P.chkW_zero h2).1)
      have HCr := hide (fun (v : Value) (w : World) (hr : RowW w v (P.jn a b)) => crowded_any v (P.jn a b) w hr)
      have hll := P.jn_length a b
      have hla := (P.chkW_zero h1).1
      have hlb := (P.chkW_zero h2).1
      have J3 := hide (P.jerr_3 h1 h2)
      have J4 := hide (P.jerr_4 h1 h2)
      obtain ⟨xa, ca, rfl⟩ := ha.shp
      obtain ⟨xb, cb, rfl⟩ := hb.shp
      clear ha hb h1 h2
      generalize P.jn a b = m at *
      by_cases hm : 1000 < m.length
      · rw [(J3.out (.inl hm)).1, (J3.out (.inl hm)).2]
        have hd : decide (1000 < (m.length : Int)) = true := by simp; omega
        go_enter Try.func18, Try.ntmps18
        go_wp2_with fail
        refine (HCa.out _ (Below.refl _ _)).mono ?_
        rintro e w1 ⟨rfl, hb⟩
        go_wp2_with fail
        refine (HCb.out _ hb).mono ?_
        rintro e w2 ⟨rfl, hb2⟩
        replace hb := Below.next hb hb2
        go_wp2_with fail
        refine (HB.out _ hb).mono ?_
        rintro e w3 ⟨v, rfl, hown, hb3⟩
        obtain ⟨av, cv, hv⟩ := OwnW.shp hown
        rw [hv]
        replace hb := Below.next hb hb3
        go_wp2
        go_ret2
        exact wpost_bad hb
      · have hd : decide (1000 < (m.length : Int)) = false := by simp; omega
        cases hcr : P.crowd m with
        | true =>
          rw [hcr] at HCr
          rw [(J3.out (.inr hcr)).1, (J3.out (.inr hcr)).2]
          clear hcr
          go_enter Try.func18, Try.ntmps18
          go_wp2_with fail
          refine (HCa.out _ (Below.refl _ _)).mono ?_
          rintro e w1 ⟨rfl, hb⟩
          go_wp2_with fail
          refine (HCb.out _ hb).mono ?_
          rintro e w2 ⟨rfl, hb2⟩
          replace hb := Below.next hb hb2
          go_wp2_with fail
          refine (HB.out _ hb).mono ?_
          rintro e w3 ⟨v, rfl, hown, hb3⟩
          obtain ⟨av, cv, hv⟩ := OwnW.shp hown
          rw [hv] at hown ⊢
          replace hb := Below.next hb hb3
          go_wp2_with (go_at_call 32; go_must (refine (HCr.out _ _ (OwnW.row hown)).mono ?_); rintro e w4 ⟨rfl, hb4⟩)
          go_ret2
          exact wpost_bad (Below.next hb hb4)
        | false =>
          rw [hcr] at HCr
          rw [(J4.out (by omega) hcr).1, (J4.out (by omega) hcr).2]
          clear hcr
          go_enter Try.func18, Try.ntmps18
          go_wp2_with fail
          refine (HCa.out _ (Below.refl _ _)).mono ?_
          rintro e w1 ⟨rfl, hb⟩
          go_wp2_with fail
          refine (HCb.out _ hb).mono ?_
          rintro e w2 ⟨rfl, hb2⟩
          replace hb := Below.next hb hb2
          go_wp2_with fail
          refine (HB.out _ hb).mono ?_
          rintro e w3 ⟨v, rfl, hown, hb3⟩
          obtain ⟨av, cv, hv⟩ := OwnW.shp hown
          rw [hv] at hown ⊢
          have hown' := OwnX.base hown hb.size
          replace hb := Below.next hb hb3
          go_wp2_with (go_at_call 32; go_must (refine (HCr.out _ _ (OwnW.row hown)).mono ?_); rintro e w4 ⟨rfl, hb4⟩)
          go_ret2
          exact ⟨_, rfl, OwnX.below hown' hb4 (Nat.le_refl _), Below.next hb hb4⟩
    · rw [(P.jerr_2 h1 h2).1, (P.jerr_2 h1 h2).2]
      have ht : (P.chkW b != 0) = true := by simpa using h2
      obtain ⟨xa, ca, rfl⟩ := ha.shp
      obtain ⟨xb, cb, rfl⟩ := hb.shp
      clear ha hb h1 h2
      generalize P.chkW b = c at *
      go_enter Try.func18, Try.ntmps18
      go_wp2_with fail
      refine (HCa.out _ (Below.refl _ _)).mono ?_
      rintro e w1 ⟨rfl, hb⟩
      go_wp2_with fail
      refine (HCb.out _ hb).mono ?_
      rintro e w2 ⟨rfl, hb2⟩
      replace hb := Below.next hb hb2
      go_wp2
      go_ret2
      exact wpost_bad hb
  · rw [(P.jerr_1 h1).1, (P.jerr_1 h1).2]
    have ht : (P.chkW a != 0) = true := by simpa using h1
    obtain ⟨xa, ca, rfl⟩ := ha.shp
    obtain ⟨xb, cb, rfl⟩ := hb.shp
    clear ha hb h1
    generalize P.chkW a = c at *
    go_enter Try.func18, Try.ntmps18
    go_wp2_with fail
    refine (HCa.out _ (Below.refl _ _)).mono ?_
    rintro e w1 ⟨rfl, hb⟩
    go_wp2
    go_ret2
    exact wpost_bad hb
end Go.Proofs.Ytgfjhcjplhlonaa
