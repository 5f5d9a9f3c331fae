/- Several texts in one. -/
import Derived.Test.YtpinhcbkfjoopaaLeMAAll
import Derived.Test.YtpinhcbkfjoopaaLeGAll
import Derived.Test.YtpinhcbkfjoopaaRefGuAll
import Derived.Test.YtpinhcbkfjoopaaRefHashAll
import Derived.Test.YtpinhcbkfjoopaaLeBAll
/- What Empty, Add and Guess answer, whatever comes in. -/
namespace Go.Proofs.Ytpinhcbkfjoopaa
open Go.RowKit
set_option linter.unusedVariables false
set_option linter.unusedSimpArgs false
/-- What Empty answers. -/
def emp (k : Int) : P.Ls × Int := if 2 ≤ k ∧ k ≤ 64 then (⟨k, []⟩, 0) else (z0, 1)
open Classical in
/-- What Add answers. -/
noncomputable def adl (s : P.Ls) (h : Int) : P.Ls × Int := if P.LsGood s then (⟨s.k, lstU s.k.toNat s.h [h]⟩, 0) else (z0, 4)
open Classical in
/-- What Guess answers. -/
noncomputable def gue (s : P.Ls) : Nat × Int := if P.LsGood s then (P.gs s.k.toNat s.h, 0) else (0, 4)
theorem adl_ok {s : P.Ls} (h : P.LsGood s) (x : Int) : adl s x = (⟨s.k, lstU s.k.toNat s.h [x]⟩, 0) := by unfold adl; rw [if_pos h]
theorem adl_no {s : P.Ls} (h : ¬ P.LsGood s) (x : Int) : adl s x = (z0, 4) := by unfold adl; rw [if_neg h]
theorem gue_ok {s : P.Ls} (h : P.LsGood s) : gue s = (P.gs s.k.toNat s.h, 0) := by unfold gue; rw [if_pos h]
theorem gue_no {s : P.Ls} (h : ¬ P.LsGood s) : gue s = (0, 4) := by unfold gue; rw [if_neg h]
theorem Empty_any (k : Int) (w : World) :
    Calls Try.prog 8 #[.int .i64 k] w fun e w' => ∃ v, e = .returned (.tuple #[aggL v (emp k).1, .int .i64 (emp k).2]) ∧ OwnU w' w.heap.size v (emp k).1.h ∧ Below w.heap.size w w' := by
  by_cases h : 2 ≤ k ∧ k ≤ 64
  · have e : emp k = (⟨k, []⟩, 0) := by unfold emp; rw [if_pos h]
    rw [e]
    refine (Empty_ok k w h).mono ?_
    rintro r w' ⟨rfl, hb⟩
    exact ⟨_, rfl, OwnK.nil _ _ _ _, hb⟩
  · have e : emp k = (z0, 1) := by unfold emp; rw [if_neg h]
    rw [e]
    refine (Empty_bad k w h).mono ?_
    rintro r w' ⟨rfl, hb⟩
    exact ⟨_, rfl, OwnK.nil _ _ _ _, hb⟩
theorem Add_any (lv bv : Value) (s : P.Ls) (bs : List Int) (w : World) (hr : RowK .u64 w lv s.h) (hb : RowB w bv bs) (hbt : Byt bs) :
    Calls Try.prog 9 #[aggL lv s, bv] w fun e w' => ∃ v, e = .returned (.tuple #[aggL v (adl s (P.hof 0 bs : Int)).1, .int .i64 (adl s (P.hof 0 bs : Int)).2]) ∧ OwnU w' w.heap.size v (adl s (P.hof 0 bs : Int)).1.h ∧ Below w.heap.size w w' := by
  by_cases h : P.LsGood s
  · rw [adl_ok h]
    obtain ⟨k, l⟩ := s
    simp only at hr
    obtain ⟨k, rfl⟩ : ∃ K : Nat, k = K := ⟨k.toNat, by have := h.k2; simp only at this; omega⟩
    simpa using Add_ok lv bv k l bs w hr h hb hbt
  · rw [adl_no h]
    refine (Add_bad lv bv s w hr h).mono ?_
    rintro r w' ⟨rfl, hb⟩
    exact ⟨_, rfl, OwnK.nil _ _ _ _, hb⟩
theorem Guess_any (lv : Value) (s : P.Ls) (w : World) (hr : RowK .u64 w lv s.h) (hu : U64 s.h) :
    Calls Try.prog 11 #[aggL lv s] w fun e w' => e = .returned (.tuple #[.int .u64 ((gue s).1 : Nat), .int .i64 (gue s).2]) ∧ Below w.heap.size w w' := by
  by_cases h : P.LsGood s
  · rw [gue_ok h]
    obtain ⟨k, l⟩ := s
    simp only at hr hu
    obtain ⟨k, rfl⟩ : ∃ K : Nat, k = K := ⟨k.toNat, by have := h.k2; simp only at this; omega⟩
    simpa using Guess_ok lv k l w hr h hu
  · rw [gue_no h]
    exact Guess_bad lv s w hr h
/-- The two that come in, boxed. -/
structure Duo (w : World) (va vb : Value) (a b : P.Ls) (W : World) : Prop where
  x : KL W w.heap.size va a
  y : KL W (w.heap.size + 1) vb b
  bel : Below w.heap.size w W
theorem Duo.new {w : World} {va vb : Value} {a b : P.Ls} (ha : RowK .u64 w va a.h) (hb : RowK .u64 w vb b.h) :
    Duo w va vb a b ((w.alloc (.cells #[.int .i64 a.k, va] 24)).alloc (.cells #[.int .i64 b.k, vb] 24)) := by
  have hs1 : (w.alloc (.cells #[.int .i64 a.k, va] 24)).heap.size = w.heap.size + 1 := by simp
  have b1 := below_new w (.cells #[.int .i64 a.k, va] 24)
  have b2 := below_new (w.alloc (.cells #[.int .i64 a.k, va] 24)) (.cells #[.int .i64 b.k, vb] 24)
  have hx : KL (w.alloc (.cells #[.int .i64 a.k, va] 24)) w.heap.size va a := ⟨BoxL.new w va a, ha.below b1 (Nat.le_refl _)⟩
  have hb1 := hb.below b1 (Nat.le_refl _)
  refine ⟨hx.below b2, ⟨?_, hb1.below b2 (Nat.le_refl _)⟩, b1.alloc b1.size _⟩
  have := BoxL.new (w.alloc (.cells #[.int .i64 a.k, va] 24)) vb b; rw [hs1] at this; exact this
theorem Duo.below {w : World} {va vb : Value} {a b : P.Ls} {W W' : World} (h : Duo w va vb a b W) (hb : Below W.heap.size W W') : Duo w va vb a b W' := ⟨h.x.below hb, h.y.below hb, Below.next h.bel hb⟩
end Go.Proofs.Ytpinhcbkfjoopaa
