/- What Fits answers. -/
import Derived.Test.YtlghnnmgbdjgoaaLabelF
namespace Go.Proofs.Ytlghnnmgbdjgoaa
open Go.RowKit
set_option linter.unusedVariables false
namespace P
theorem chkF_val {p : Option ByteArray} {l : List Lb} (h : chkF p l = 0) : ∀ x ∈ l, x.2.size ≤ 40 := by
  induction l generalizing p with
  | nil => intro x hx; cases hx
  | cons y l ih =>
    unfold chkF at h
    split at h
    · cases h
    · split at h
      · cases h
      · split at h
        · cases h
        · intro x hx
          rcases List.mem_cons.1 hx with rfl | hx
          · omega
          · exact ih h x hx
theorem chk_val {l : List Lb} (h : chk l = 0) : ∀ x ∈ l, x.2.size ≤ 40 := by
  unfold chk at h
  split at h
  · cases h
  · exact chkF_val h
/-- Fits' error, and its answer. -/
def fitsE (l : List Lb) (m : List Mt) : Int := if chk l = 0 then chkM m else chk l
def fitsB (l : List Lb) (m : List Mt) : Bool := decide (chk l = 0) && (decide (chkM m = 0) && m.all (fit1 l))
theorem fitsB_all {l : List Lb} {m : List Mt} (h1 : chk l = 0) (h2 : chkM m = 0) (h : m.all (fit1 l) = true) : fitsB l m = true := by unfold fitsB; rw [h]; simp [h1, h2]
theorem fitsB_not {l : List Lb} {m : List Mt} {x : Mt} (hx : x ∈ m) (h : fit1 l x = false) : fitsB l m = false := by
  unfold fitsB
  have : m.all (fit1 l) = false := by
    rw [List.all_eq_false]
    exact ⟨x, hx, by simp [h]⟩
  rw [this]; simp
end P
theorem ret_be {a b : Bool} {c d : Int} (h : a = b) (h2 : c = d) : Ending.returned (.tuple #[.bool a, .int .i64 c]) = .returned (.tuple #[.bool b, .int .i64 d]) := by rw [h, h2]
set_option maxHeartbeats 1000000 in
theorem fits_any (v vm : Value) (l : List P.Lb) (m : List P.Mt) (w : World) (hr : RowL w v l) (hl : LbOk l) (hr2 : RowM w vm m) (hl2 : MtOk m) (mx : Int) (hm : w.cell? ⟨0, 0, none⟩ = some (.int .i64 mx)) :
    Calls Try.prog 26 #[v, vm] w fun e w' => e = .returned (.tuple #[.bool (P.fitsB l m), .int .i64 (P.fitsE l m)]) ∧ Below w.heap.size w w' := by
  have HC := hide (check_any v l w hr hl)
  have HM := hide (fun w' (hb : Below w.heap.size w w') => checkMatches_any vm m w' (hr2.below hb (Nat.le_refl _)) hl2)
  by_cases h1 : P.chk l = 0
  · rw [h1] at HC
    by_cases h2 : P.chkM m = 0
    · rw [h2] at HM
      have HF := hide (fun x w' (hb : Below w.heap.size w w') => fitsOne_any v l x w' (hr.below hb (Nat.le_refl _)) (P.chk_val h1) mx (keep_cell hm hb))
      have HE : Hid (P.fitsE l m = 0) := by show _ = _; unfold P.fitsE; rw [if_pos h1, h2]
      have HA := hide (P.fitsB_all h1 h2)
      have HN := hide (fun x hx h => @P.fitsB_not l m x hx h)
      generalize P.fitsE l m = er at HE
      generalize P.fitsB l m = an at HA HN
      obtain ⟨ca, cp, rfl, hrest⟩ := hr
      obtain ⟨a, cap, rfl, ⟨hlc, hmax, hnn⟩, hcase⟩ := hr2
      unfold maxLen at hmax
      clear hrest h1 h2 hm
      go_enter Try.func26, Try.ntmps26
      go_wp2_with fail
      refine HC.out.mono ?_
      rintro e w1 ⟨rfl, hb1⟩
      go_wp2_with fail
      refine (HM.out _ hb1).mono ?_
      rintro e w2 ⟨rfl, hb2⟩
      have hb3 := Below.next hb1 hb2
      clear hb1 hb2 HC HM
      go_wp2
      go_loopw [22] (fun i wr => ∃ (k : Nat), k ≤ m.length ∧ i = .int .i64 k ∧ (∀ j x, j < k → m[j]? = some x → P.fit1 l x = true) ∧ Below w.heap.size w wr) (fun i _ => m.length - (intOf i).toNat)
      case atStart => exact ⟨0, by omega, rfl, fun j x hj => by omega, hb3⟩
      case round =>
        obtain ⟨k, hk, rfl, heq, hB⟩ := hrel
        have HQ := hide heq
        clear heq
        by_cases hlt : k < m.length
        · rcases hcase with h | ⟨b, off, rfl, hbs, hcell⟩
          · rw [h] at hlt; simp at hlt
          have j0 : (0 : Int) ≤ (k : Int) := by omega
          have j1 : (k : Int) < (m.length : Int) := by omega
          obtain ⟨x, hx⟩ : ∃ x, m[k]? = some x := ⟨_, List.getElem?_eq_getElem hlt⟩
          obtain ⟨g0, g1, g2⟩ := RowM.at hcell hx
          have q0 := (hB.cell (p := ⟨b, off + k * 3, none⟩) hbs).trans g0
          have q1 := (hB.cell (p := ⟨b, off + k * 3 + 1, none⟩) hbs).trans g1
          have q2 := (hB.cell (p := ⟨b, off + k * 3 + 2, none⟩) hbs).trans g2
          have HX := hide hx
          obtain ⟨xk, xn, xv⟩ := x
          clear hcell g0 g1 g2 hx
          simp only at q0 q1 q2
          have hBW : Below w.heap.size w (wr.alloc (.cells #[.int .i64 xk, .string xn, .string xv] 56)) := hB.alloc hB.size _
          have HFx := hide (fun w' hb => HF.out (xk, xn, xv) w' hb)
          simp only at HFx
          cases hf : P.fit1 l (xk, xn, xv) with
          | true =>
            rw [hf] at HFx
            have HY := hide hf
            clear hf
            go_wp2_with (go_at_call 48; refine (HFx.out _ hBW).mono ?_; rintro e w' ⟨rfl, hb4⟩)
            have hb5 := Below.next hBW hb4
            go_roundw
            case rel =>
              refine ⟨k + 1, by omega, by go_num, fun j y hj hy => ?_, hb5⟩
              rcases Nat.lt_or_ge j k with h | h
              · exact HQ.out j y h hy
              · obtain rfl : j = k := by omega
                rw [HX.out] at hy
                simp at hy; subst hy; exact HY.out
            case measure => simp [intOf]; omega
          | false =>
            rw [hf] at HFx
            have HY := hide (HN.out _ (List.mem_of_getElem? HX.out) hf)
            clear hf
            go_wp2_with (go_at_call 48; refine (HFx.out _ hBW).mono ?_; rintro e w' ⟨rfl, hb4⟩)
            have hb5 := Below.next hBW hb4
            go_ret2
            exact ⟨ret_be HY.out.symm HE.out.symm, hb5⟩
        · have hd : decide ((k : Int) < (m.length : Int)) = false := by simp; omega
          have HY : Hid (an = true) := HA.out (List.all_eq_true.2 fun x hx => by
            obtain ⟨j, hj⟩ := List.mem_iff_getElem?.1 hx
            exact HQ.out j x (by have := (List.getElem?_eq_some_iff.1 hj).1; omega) hj)
          go_wp2
          go_ret2
          exact ⟨ret_be HY.out.symm HE.out.symm, hB⟩
    · have HE : Hid (P.fitsE l m = P.chkM m) := by show _ = _; unfold P.fitsE; rw [if_pos h1]
      have HN : Hid (P.fitsB l m = false) := by show _ = _; unfold P.fitsB; simp [h2]
      have hn : (P.chkM m == 0) = false := by simp [h2]
      obtain ⟨ca, cp, rfl, hrest⟩ := hr
      obtain ⟨a, cap, rfl, hrest2⟩ := hr2
      clear hrest hrest2 h1 h2
      generalize P.fitsE l m = er at HE
      generalize P.fitsB l m = an at HN
      generalize P.chkM m = ce at HE hn HM
      go_enter Try.func26, Try.ntmps26
      go_wp2_with fail
      refine HC.out.mono ?_
      rintro e w1 ⟨rfl, hb1⟩
      go_wp2_with fail
      refine (HM.out _ hb1).mono ?_
      rintro e w2 ⟨rfl, hb2⟩
      have hb3 := Below.next hb1 hb2
      clear hb1 hb2 HC HM
      go_wp2
      go_ret2
      exact ⟨ret_be HN.out.symm HE.out.symm, hb3⟩
  · have HE : Hid (P.fitsE l m = P.chk l) := by show _ = _; unfold P.fitsE; rw [if_neg h1]
    have HN : Hid (P.fitsB l m = false) := by show _ = _; unfold P.fitsB; simp [h1]
    have hn : (P.chk l == 0) = false := by simp [h1]
    obtain ⟨ca, cp, rfl, hrest⟩ := hr
    obtain ⟨a, cap, rfl, hrest2⟩ := hr2
    clear hrest hrest2 h1
    generalize P.fitsE l m = er at HE
    generalize P.fitsB l m = an at HN
    generalize P.chk l = ce at HE hn HC
    go_enter Try.func26, Try.ntmps26
    go_wp2_with fail
    refine HC.out.mono ?_
    rintro e w1 ⟨rfl, hb1⟩
    go_wp2
    go_ret2
    exact ⟨ret_be HN.out.symm HE.out.symm, hb1⟩
end Go.Proofs.Ytlghnnmgbdjgoaa
