/- Several texts in one. -/
import Derived.Test.YtpinhcbkfjoopaaLeMAll
/- What Merge answers, whatever comes in. -/
namespace Go.Proofs.Ytpinhcbkfjoopaa
open Go.RowKit
set_option linter.unusedVariables false
open Classical in
/-- What Merge answers: the sieve, the error. -/
noncomputable def mrg (a b : P.Ls) : P.Ls × Int := if ¬ P.LsGood a then (z0, 4) else if ¬ P.LsGood b then (z0, 4) else if a.k ≠ b.k then (z0, 1) else (⟨a.k, lstU a.k.toNat a.h b.h⟩, 0)
theorem mrg_ok {a b : P.Ls} (ha : P.LsGood a) (hb : P.LsGood b) (hk : a.k = b.k) : mrg a b = (⟨a.k, lstU a.k.toNat a.h b.h⟩, 0) := by unfold mrg; rw [if_neg (by simp [ha]), if_neg (by simp [hb]), if_neg (by simp [hk])]
theorem mrg_cases (a b : P.Ls) : (P.LsGood a ∧ P.LsGood b ∧ a.k = b.k ∧ mrg a b = (⟨a.k, lstU a.k.toNat a.h b.h⟩, 0)) ∨ (∃ E, P.MgBad a b E ∧ mrg a b = (z0, E) ∧ E ≠ 0) := by
  by_cases h1 : P.LsGood a
  · by_cases h2 : P.LsGood b
    · by_cases h3 : a.k = b.k
      · exact .inl ⟨h1, h2, h3, mrg_ok h1 h2 h3⟩
      · exact .inr ⟨1, .inr (.inr ⟨h1, h2, h3, rfl⟩), by unfold mrg; rw [if_neg (by simp [h1]), if_neg (by simp [h2]), if_pos h3], by decide⟩
    · exact .inr ⟨4, .inr (.inl ⟨h1, h2, rfl⟩), by unfold mrg; rw [if_neg (by simp [h1]), if_pos h2], by decide⟩
  · exact .inr ⟨4, .inl ⟨h1, rfl⟩, by unfold mrg; rw [if_pos h1], by decide⟩
theorem mrg_zero {a b : P.Ls} (h : (mrg a b).2 = 0) : P.LsGood a ∧ P.LsGood b ∧ a.k = b.k ∧ mrg a b = (⟨a.k, lstU a.k.toNat a.h b.h⟩, 0) := by
  rcases mrg_cases a b with h1 | ⟨E, _, h2, h3⟩
  · exact h1
  · rw [h2] at h; exact absurd h h3
theorem mrg_bad {a b : P.Ls} (h : (mrg a b).2 ≠ 0) : (mrg a b).1 = z0 := by
  rcases mrg_cases a b with ⟨_, _, _, h1⟩ | ⟨E, _, h2, h3⟩
  · rw [h1] at h; exact absurd rfl h
  · rw [h2]
theorem mrg_bot {a b : P.Ls} (ha : P.LsGood a) : P.Bot a.k.toNat (fun x => x ∈ a.h ∨ x ∈ b.h) (lstU a.k.toNat a.h b.h) := lstU_bot _ _ _
theorem good_mrg {a : P.Ls} (ha : P.LsGood a) (l : List Int) : P.LsGood ⟨a.k, lstU a.k.toNat a.h l⟩ := by
  have h := lstU_bot a.k.toNat a.h l
  have h1 := ha.k2
  have h2 := ha.k64
  exact ⟨h1, h2, by have := h.len; simp only; omega, h.up⟩
theorem self_bot {a : P.Ls} (ha : P.LsGood a) : P.Bot a.k.toNat (· ∈ a.h) a.h := P.Bot.self ha.up (by have := ha.len; have := ha.k2; omega)
theorem Bot_two' {k : Nat} {Q S : Int → Prop} {a b : List Int} (ha : P.Bot k Q a) (hb : P.Bot k S b) : P.Bot k (fun z => Q z ∨ S z) (lstU k a b) :=
  have e : lstU k a b = P.sivs k a b := (lstU_bot k a b).one ((P.Bot.self ha.up ha.len).merge b)
  by rw [e]; exact ha.both hb
/-- Whoever comes first. -/
theorem mrg_comm_ok {a b : P.Ls} (h : (mrg a b).2 = 0) : mrg b a = mrg a b := by
  obtain ⟨ha, hb, hk, e⟩ := mrg_zero h
  rw [e, mrg_ok hb ha hk.symm]
  have : lstU b.k.toNat b.h a.h = lstU a.k.toNat a.h b.h := by rw [← hk]; exact (lstU_bot a.k.toNat b.h a.h).one ((lstU_bot a.k.toNat a.h b.h).iff fun x => by constructor <;> exact Or.symm)
  rw [this, hk]
theorem mrg_comm_bad {a b : P.Ls} (h : (mrg a b).2 ≠ 0) : (mrg b a).2 ≠ 0 := fun h2 => h (by rw [mrg_comm_ok h2]; exact h2)
/-- However often. -/
theorem mrg_again {a b : P.Ls} (h : (mrg a b).2 = 0) : mrg (mrg a b).1 a = mrg a b := by
  obtain ⟨ha, hb, hk, e⟩ := mrg_zero h
  rw [e]
  simp only
  rw [mrg_ok (good_mrg ha b.h) ha rfl]
  simp only
  have hi : ∀ x, ((x ∈ a.h ∨ x ∈ b.h) ↔ ((x ∈ a.h ∨ x ∈ b.h) ∨ x ∈ a.h)) := fun x => ⟨.inl, fun h => h.elim id .inl⟩
  have : lstU a.k.toNat (lstU a.k.toNat a.h b.h) a.h = lstU a.k.toNat a.h b.h :=
    (Bot_two' (lstU_bot a.k.toNat a.h b.h) (self_bot ha)).one ((lstU_bot a.k.toNat a.h b.h).iff hi)
  rw [this]
/-- In whatever groups. -/
theorem mrg_groups {a b c : P.Ls} (h : (mrg a b).2 = 0) (h2 : (mrg b c).2 = 0) : (mrg a (mrg b c).1).1 = (mrg (mrg a b).1 c).1 := by
  obtain ⟨ha, hb, hk, e⟩ := mrg_zero h
  obtain ⟨_, hc, hk2, e2⟩ := mrg_zero h2
  rw [e, e2]
  simp only
  rw [mrg_ok (good_mrg ha b.h) hc (by simp only; omega), mrg_ok ha (good_mrg hb c.h) hk]
  simp only
  have hkk : b.k.toNat = a.k.toNat := by rw [hk]
  rw [hkk]
  have hb' := self_bot hb; rw [hkk] at hb'
  have hc' := self_bot hc; rw [← hk2, hkk] at hc'
  have : lstU a.k.toNat a.h (lstU a.k.toNat b.h c.h) = lstU a.k.toNat (lstU a.k.toNat a.h b.h) c.h :=
    (Bot_two' (self_bot ha) (Bot_two' hb' hc')).one ((Bot_two' (Bot_two' (self_bot ha) hb') hc').iff fun x => by
      constructor
      · rintro ((h | h) | h)
        · exact .inl h
        · exact .inr (.inl h)
        · exact .inr (.inr h)
      · rintro (h | h | h)
        · exact .inl (.inl h)
        · exact .inl (.inr h)
        · exact .inr h)
  rw [this]
theorem Merge_any (va vb : Value) (a b : P.Ls) (w : World) (hra : RowK .u64 w va a.h) (hrb : RowK .u64 w vb b.h) :
    Calls Try.prog 10 #[aggL va a, aggL vb b] w fun e w' => ∃ v, e = .returned (.tuple #[aggL v (mrg a b).1, .int .i64 (mrg a b).2]) ∧ OwnU w' w.heap.size v (mrg a b).1.h ∧ Below w.heap.size w w' := by
  rcases mrg_cases a b with ⟨ha, hb, hk, e⟩ | ⟨E, hE, e, _⟩
  · rw [e]
    obtain ⟨ka, la⟩ := a
    obtain ⟨kb, lb⟩ := b
    simp only at hk hra hrb
    subst hk
    obtain ⟨k, rfl⟩ : ∃ k : Nat, ka = k := ⟨ka.toNat, by have := ha.k2; simp only at this; omega⟩
    simpa using Merge_ok va vb k la lb w hra hrb ha hb
  · rw [e]
    refine (Merge_bad va vb a b E w hra hrb hE).mono ?_
    rintro r w' ⟨rfl, hb⟩
    exact ⟨_, rfl, OwnK.nil _ _ _ _, hb⟩
end Go.Proofs.Ytpinhcbkfjoopaa
