/- Plain: noughts and ones as texts. -/
import Derived.Test.YteohlkpejdjenaaDoorBitP
import Derived.Laws.BytesArg
import Derived.Lib.Strings
import Derived.WideShapes
namespace Go.Proofs.YteohlkpejdjenaaDoor
namespace P
/-- The signs of bits, as the numbers of their bytes. -/
def sgn (bs : List Bool) : List Int := bs.map fun b => 48 + (b.toNat : Int)
def strB (bs : List Bool) : ByteArray := strOfNums (sgn bs)
theorem sgn_len (bs : List Bool) : (sgn bs).length = bs.length := by simp [sgn]
theorem sgn_byt (bs : List Bool) : ∀ x ∈ sgn bs, 0 ≤ x ∧ x ≤ 255 := by
  intro x hx
  simp [sgn] at hx
  rcases hx with ⟨_, h⟩ | ⟨_, h⟩ <;> omega
theorem strB_size (bs : List Bool) : (strB bs).size = bs.length := by unfold strB; rw [strOfNums_size, sgn_len]
theorem strB_data (bs : List Bool) : (strB bs).data.toList = bs.map fun b => UInt8.ofNat (48 + b.toNat) := by
  unfold strB; rw [strOfNums_data]
  simp only [sgn, List.map_map]
  apply List.map_congr_left
  intro b _
  cases b <;> rfl
theorem strB_app (a b : List Bool) : strB a ++ strB b = strB (a ++ b) := by
  apply WideShapes.bytes_inj
  rw [strB_data, List.map_append]
  have h : (strB a ++ strB b).data.toList = (strB a).data.toList ++ (strB b).data.toList := by simp
  rw [h, strB_data, strB_data]
theorem strB_extract (bs : List Bool) (a b : Nat) : (strB bs).extract a b = strB ((bs.drop a).take (b - a)) := by
  apply WideShapes.bytes_inj
  rw [Lib.extract_data, strB_data, strB_data, List.map_take, List.map_drop]
theorem strB_at (bs : List Bool) (k : Nat) (h : k < (strB bs).size) : ((strB bs)[k].toNat : Int) = 48 + bit bs k := by
  have hk : k < bs.length := by rw [strB_size] at h; exact h
  have e : (strB bs)[k] = (strB bs).data.toList[k]'(by simpa using h) := rfl
  have e2 : (strB bs).data.toList[k]? = (bs.map fun b => UInt8.ofNat (48 + b.toNat))[k]? := by rw [strB_data]
  rw [List.getElem?_eq_getElem (by simpa using h), List.getElem?_map, List.getElem?_eq_getElem hk] at e2
  simp only [Option.map_some, Option.some.injEq] at e2
  rw [e, e2]
  unfold bit
  rw [List.getD_eq_getElem?_getD, List.getElem?_eq_getElem hk, Option.getD_some]
  cases bs[k] <;> rfl
theorem sgn_take (bs : List Bool) (k : Nat) (h : k < bs.length) : sgn (bs.take (k + 1)) = sgn (bs.take k) ++ [48 + (bit bs k : Int)] := by
  rw [List.take_succ_eq_append_getElem h]
  unfold sgn bit
  rw [List.map_append, List.getD_eq_getElem?_getD, List.getElem?_eq_getElem h]
  rfl
theorem bit_int (bs : List Bool) (k : Nat) : ((byteAt bs (k / 8) : Int) / 2 ^ (7 - k % 8) % 2) = (bit bs k : Int) := by
  rw [← byteAt_bit bs k]; simp
theorem strB_nil : strB [] = ByteArray.empty := rfl
theorem ofVal_cons (u j : Nat) : ofVal u (j + 1) = decide (u / 2 ^ j % 2 = 1) :: ofVal u j := by
  apply List.ext_getElem?
  intro i
  cases i with
  | zero =>
    rw [ofVal_at _ _ _ (by omega)]; simp
  | succ i =>
    rw [List.getElem?_cons_succ]
    by_cases h : i < j
    · rw [ofVal_at _ _ _ (by omega), ofVal_at _ _ _ h]
      have e : j + 1 - 1 - (i + 1) = j - 1 - i := by omega
      rw [e]
    · rw [List.getElem?_eq_none (by rw [ofVal_len]; omega), List.getElem?_eq_none (by rw [ofVal_len]; omega)]
end P
end Go.Proofs.YteohlkpejdjenaaDoor
