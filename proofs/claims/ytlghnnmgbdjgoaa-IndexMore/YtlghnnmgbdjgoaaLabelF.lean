/- What valueOf, fitsOne and Fits answer. -/
import Derived.Test.YtlghnnmgbdjgoaaLabelM
import Derived.Test.YtlghnnmgbdjgoaaShelf
namespace Go.Proofs.Ytlghnnmgbdjgoaa
open Go.RowKit
set_option linter.unusedVariables false
theorem P.valO_end {l : List P.Lb} {n : ByteArray} (h : ∀ (j : Nat) (x : P.Lb), l[j]? = some x → (x.1.toList == n.toList) = false) : P.valO l n = ⟨#[]⟩ := by
  unfold P.valO
  have : l.find? (fun x => x.1.toList == n.toList) = none := by
    rw [List.find?_eq_none]
    intro x hx
    obtain ⟨j, hj⟩ := List.mem_iff_getElem?.1 hx
    rw [h j x hj]; simp
  rw [this]; rfl
theorem P.valO_hit {l : List P.Lb} {n : ByteArray} {k : Nat} {x : P.Lb} (h : ∀ (j : Nat) (y : P.Lb), j < k → l[j]? = some y → (y.1.toList == n.toList) = false) (hx : l[k]? = some x) (he : (x.1.toList == n.toList) = true) : P.valO l n = x.2 := by
  unfold P.valO
  have : l.find? (fun x => x.1.toList == n.toList) = some x := by
    induction l generalizing k with
    | nil => simp at hx
    | cons y l ih =>
      cases k with
      | zero => simp at hx; subst hx; rw [List.find?_cons, he]
      | succ k =>
        rw [List.find?_cons, h 0 y (by omega) rfl]
        exact ih (k := k) (fun j z hj hz => h (j + 1) z (by omega) (by simpa using hz)) (by simpa using hx)
  rw [this]
theorem P.valO_ok {l : List P.Lb} {n : ByteArray} {B : Nat} (h : ∀ x ∈ l, x.2.size ≤ B) : (P.valO l n).size ≤ B := by
  unfold P.valO
  split
  · rename_i x hx; exact h x (List.mem_of_find?_eq_some hx)
  · exact Nat.zero_le _
set_option maxHeartbeats 1000000 in
theorem valueOf_any (v : Value) (l : List P.Lb) (n : ByteArray) (w : World) (hr : RowL w v l) : Calls Try.prog 81 #[v, .string n] w fun e w' => e = .returned (.string (P.valO l n)) ∧ Below w.heap.size w w' := by
  obtain ⟨a, cap, rfl, ⟨hlc, hmax, hnn⟩, hcase⟩ := hr
  unfold maxLen at hmax
  go_enter Try.func81, Try.ntmps81
  go_wp2
  go_loopw [9] (fun i wr => ∃ (k : Nat), k ≤ l.length ∧ i = .int .i64 k ∧ (∀ j x, j < k → l[j]? = some x → (x.1.toList == n.toList) = false) ∧ Below w.heap.size w wr) (fun i _ => l.length - (intOf i).toNat)
  case atStart => exact ⟨0, by omega, rfl, fun j x hj => by omega, Below.refl _ _⟩
  case round =>
    obtain ⟨k, hk, rfl, heq, hB⟩ := hrel
    have HE := hide heq
    clear heq
    by_cases hlt : k < l.length
    · rcases hcase with h | ⟨b, off, rfl, hbs, hcell⟩
      · rw [h] at hlt; simp at hlt
      have j0 : (0 : Int) ≤ (k : Int) := by omega
      have j1 : (k : Int) < (l.length : Int) := by omega
      obtain ⟨x, hx⟩ : ∃ x, l[k]? = some x := ⟨_, List.getElem?_eq_getElem hlt⟩
      obtain ⟨g0, g1⟩ := RowL.at hcell hx
      have q0 := (hB.cell (p := ⟨b, off + k * 2, none⟩) hbs).trans g0
      have q1 := (hB.cell (p := ⟨b, off + k * 2 + 1, none⟩) hbs).trans g1
      have HX := hide hx
      obtain ⟨xn, xv⟩ := x
      clear hcell g0 g1 hx
      simp only at q0 q1
      have hBW : Below w.heap.size w (wr.alloc (.cells #[.string xn, .string xv] 32)) := hB.alloc hB.size _
      cases he : (xn.toList == n.toList) with
      | true =>
        have HA := hide (P.valO_hit (fun j y hj hy => HE.out j y hj hy) HX.out he)
        go_wp2
        go_ret
        exact ⟨ret_str HA.out.symm, hBW⟩
      | false =>
        go_wp2
        go_roundw
        case rel =>
          refine ⟨k + 1, by omega, by go_num, fun j y hj hy => ?_, hBW⟩
          rcases Nat.lt_or_ge j k with h | h
          · exact HE.out j y h hy
          · obtain rfl : j = k := by omega
            rw [HX.out] at hy
            simp at hy; subst hy; exact he
        case measure => simp [intOf]; omega
    · have hd : decide ((k : Int) < (l.length : Int)) = false := by simp; omega
      have HA := hide (P.valO_end (l := l) (n := n) fun j x hx => HE.out j x (by have := (List.getElem?_eq_some_iff.1 hx).1; omega) hx)
      go_wp2
      go_ret
      exact ⟨ret_str HA.out.symm, hB⟩
/-- Do labels fit a match? -/
def P.fit1 (l : List P.Lb) (x : P.Mt) : Bool :=
  if x.1 = 1 then (P.valO l x.2.1).toList == x.2.2.toList else if x.1 = 2 then !((P.valO l x.2.1).toList == x.2.2.toList)
  else if x.1 = 3 then Lib.hasPrefix (P.dl (P.valO l x.2.1)) (P.dl x.2.2) else Lib.contains (P.dl (P.valO l x.2.1)) (P.dl x.2.2)
set_option maxHeartbeats 1000000 in
theorem fitsOne_any (v : Value) (l : List P.Lb) (x : P.Mt) (w : World) (hr : RowL w v l) (hl : ∀ x ∈ l, x.2.size ≤ 40) (m : Int) (hm : w.cell? ⟨0, 0, none⟩ = some (.int .i64 m)) :
    Calls Try.prog 48 #[v, .agg #[.int .i64 x.1, .string x.2.1, .string x.2.2]] w fun e w' => e = .returned (.bool (P.fit1 l x)) ∧ Below w.heap.size w w' := by
  obtain ⟨xk, xn, xv⟩ := x
  have HV := hide (fun w' (hb : Below w.heap.size w w') => valueOf_any v l xn w' (hr.below hb (Nat.le_refl _)))
  have hvs : (P.valO l xn).size ≤ 40 := P.valO_ok hl
  obtain ⟨a, cap, rfl, hrest⟩ := hr
  clear hrest
  have hB : Below w.heap.size w (w.alloc (.cells #[.int .i64 xk, .string xn, .string xv] 56)) := (Below.refl _ w).alloc (Nat.le_refl _) _
  have c0 : (w.alloc (.cells #[.int .i64 xk, .string xn, .string xv] 56)).cell? ⟨w.heap.size, 0, none⟩ = some (.int .i64 xk) := by simp
  have c2 : (w.alloc (.cells #[.int .i64 xk, .string xn, .string xv] 56)).cell? ⟨w.heap.size, 2, none⟩ = some (.string xv) := by simp
  have HM := hide hm
  have HF : Hid (P.fit1 l (xk, xn, xv) = if xk = 1 then (P.valO l xn).toList == xv.toList else if xk = 2 then !((P.valO l xn).toList == xv.toList) else if xk = 3 then Lib.hasPrefix (P.dl (P.valO l xn)) (P.dl xv) else Lib.contains (P.dl (P.valO l xn)) (P.dl xv)) := rfl
  generalize P.fit1 l (xk, xn, xv) = ans at HF
  generalize P.valO l xn = va at HV hvs HF
  have HP := hide Try.strings_HasPrefix
  have HCo := hide Try.strings_Contains
  go_enter Try.func48, Try.ntmps48
  go_wp2_with fail
  refine (HV.out _ hB).mono ?_
  rintro e w2 ⟨rfl, hb2⟩
  have k0 := keep_cell c0 hb2
  have k2 := keep_cell c2 hb2
  have hb3 := Below.next hB hb2
  have HM2 := hide (keep_cell HM.out hb3)
  clear HV hb2 c0 c2 HM
  by_cases h1 : xk = 1
  · have HA : Hid (ans = (va.toList == xv.toList)) := by show _ = _; rw [HF.out, if_pos h1]
    have e1 : (xk == 1) = true := by simp [h1]
    clear h1 HF
    go_wp2
    go_ret
    exact ⟨ret_bool HA.out.symm, hb3⟩
  have e1 : (xk == 1) = false := by simp [h1]
  by_cases h2 : xk = 2
  · have HA : Hid (ans = !(va.toList == xv.toList)) := by show _ = _; rw [HF.out, if_neg h1, if_pos h2]
    have e2 : (xk == 2) = true := by simp [h2]
    clear h1 h2 HF
    go_wp2
    go_ret
    exact ⟨ret_bool HA.out.symm, hb3⟩
  have e2 : (xk == 2) = false := by simp [h2]
  by_cases h3 : xk = 3
  · have HA : Hid (ans = Lib.hasPrefix (P.dl va) (P.dl xv)) := by show _ = _; rw [HF.out, if_neg h1, if_neg h2, if_pos h3]
    have e3 : (xk == 3) = true := by simp [h3]
    clear h1 h2 h3 HF
    go_wp2_with (go_at_call 82; refine (HP.out _ _ _).mono ?_; rintro e w' ⟨rfl, rfl⟩)
    go_ret
    exact ⟨ret_bool HA.out.symm, hb3⟩
  · have HA : Hid (ans = Lib.contains (P.dl va) (P.dl xv)) := by show _ = _; rw [HF.out, if_neg h1, if_neg h2, if_neg h3]
    have e3 : (xk == 3) = false := by simp [h3]
    clear h1 h2 h3 HF
    go_wp2_with (go_at_call 83; refine (HCo.out _ _ m _ (by omega) HM2.out).mono ?_; rintro e w' ⟨rfl, rfl⟩)
    go_ret
    exact ⟨ret_bool HA.out.symm, hb3⟩
end Go.Proofs.Ytlghnnmgbdjgoaa
