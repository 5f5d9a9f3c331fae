/- Plain: times as bits: the classes of a change, its bits, and what Pack makes of a list. -/
import Derived.Test.YtlejpbghakaooaaDoorBitP
namespace Go.Proofs.YtlejpbghakaooaaDoor
namespace P
open Go.RowKit (wrap64)
def cls (c : Int) : Nat := if c = 0 then 0 else if -64 ≤ c ∧ c ≤ 63 then 1 else if -256 ≤ c ∧ c ≤ 255 then 2 else if -2048 ≤ c ∧ c ≤ 2047 then 3 else 4
def hv (k : Nat) : Nat := if k = 0 then 0 else if k = 1 then 2 else if k = 2 then 6 else if k = 3 then 14 else 15
def hb (k : Nat) : Nat := if k = 0 then 1 else if k = 1 then 2 else if k = 2 then 3 else 4
def wd (k : Nat) : Nat := if k = 0 then 0 else if k = 1 then 7 else if k = 2 then 9 else if k = 3 then 12 else 64
def u64 (x : Int) : Nat := (x % 18446744073709551616).toNat
/-- The bits of a change of class k. -/
def chgK (k : Nat) (c : Int) : List Bool := ofVal (hv k) (hb k) ++ ofVal (u64 c % 2 ^ wd k) (wd k)
def chg (c : Int) : List Bool := chgK (cls c) c
def stp (l : List Int) (j : Nat) : Int := if j ≤ 1 then 0 else wrap64 (l.getD (j - 1) 0 - l.getD (j - 2) 0)
def lst (l : List Int) (j : Nat) : Int := if j = 0 then 0 else l.getD (j - 1) 0
def cg (l : List Int) (j : Nat) : Int := wrap64 (wrap64 (l.getD j 0 - l.getD (j - 1) 0) - stp l j)
/-- The bits of the number at j. -/
def tb (l : List Int) (j : Nat) : List Bool := if j = 0 then ofVal (u64 (l.getD 0 0)) 64 else chg (cg l j)
def front (l : List Int) (n j : Nat) : List Bool := ofVal n 16 ++ (List.range j).flatMap (tb l)
def packT (l : List Int) : List Bool := front l l.length l.length
def I64 (l : List Int) : Prop := ∀ x ∈ l, -9223372036854775808 ≤ x ∧ x ≤ 9223372036854775807
theorem I64.at {l : List Int} (h : I64 l) (j : Nat) : -9223372036854775808 ≤ l.getD j 0 ∧ l.getD j 0 ≤ 9223372036854775807 := by
  by_cases hj : j < l.length
  · have := h l[j] (List.getElem_mem hj)
    simpa [List.getD_eq_getElem?_getD, List.getElem?_eq_getElem hj] using this
  · simp [List.getD_eq_getElem?_getD, List.getElem?_eq_none (Nat.le_of_not_lt hj)]
theorem wrap64_lo (x : Int) : -9223372036854775808 ≤ wrap64 x := by unfold wrap64; omega
theorem wrap64_hi (x : Int) : wrap64 x ≤ 9223372036854775807 := by unfold wrap64; omega
theorem wrap64_id (x : Int) (h0 : -9223372036854775808 ≤ x) (h1 : x ≤ 9223372036854775807) : wrap64 x = x := by unfold wrap64; omega
theorem cls_le (c : Int) : cls c ≤ 4 := by unfold cls; (repeat' split) <;> omega
theorem u64_lt (x : Int) : u64 x < 18446744073709551616 := by unfold u64; omega
theorem hb_le (k : Nat) : hb k ≤ 4 := by unfold hb; (repeat' split) <;> omega
theorem wd_le (k : Nat) : wd k ≤ 64 := by unfold wd; (repeat' split) <;> omega
theorem chgK_len (k : Nat) (c : Int) : (chgK k c).length = hb k + wd k := by simp [chgK, ofVal_len]
theorem chg_len (c : Int) : (chg c).length = hb (cls c) + wd (cls c) := chgK_len _ _
theorem chg_le (c : Int) : (chg c).length ≤ 68 := by
  have := hb_le (cls c); have := wd_le (cls c); rw [chg_len]; omega
theorem front_zero (l : List Int) (n : Nat) : front l n 0 = ofVal n 16 := by simp [front]
theorem front_succ (l : List Int) (n j : Nat) : front l n (j + 1) = front l n j ++ tb l j := by
  unfold front; rw [List.range_succ, List.flatMap_append]; simp
theorem tb_le (l : List Int) (j : Nat) : (tb l j).length ≤ 68 := by
  unfold tb; split
  · rw [ofVal_len]; omega
  · exact chg_le _
theorem front_le (l : List Int) (n j : Nat) : (front l n j).length ≤ 16 + 68 * j := by
  induction j with
  | zero => rw [front_zero, ofVal_len]; omega
  | succ j ih => rw [front_succ, List.length_append]; have := tb_le l j; omega
theorem front_ge (l : List Int) (n j : Nat) : 16 ≤ (front l n j).length := by
  unfold front; rw [List.length_append, ofVal_len]; omega
/-- What stands further behind is no matter. -/
theorem tb_app (l m : List Int) (j : Nat) (h : j < l.length) : tb (l ++ m) j = tb l j := by
  have e : ∀ i, i < l.length → (l ++ m).getD i 0 = l.getD i 0 := by
    intro i hi
    rw [List.getD_eq_getElem?_getD, List.getD_eq_getElem?_getD, List.getElem?_append_left hi]
  unfold tb cg stp
  rw [e j h, e (j - 1) (by omega), e (j - 2) (by omega), e 0 (by omega)]
theorem front_app (l m : List Int) (n j : Nat) (h : j ≤ l.length) : front (l ++ m) n j = front l n j := by
  induction j with
  | zero => rw [front_zero, front_zero]
  | succ j ih => rw [front_succ, front_succ, ih (by omega), tb_app l m j (by omega)]
end P
end Go.Proofs.YtlejpbghakaooaaDoor
