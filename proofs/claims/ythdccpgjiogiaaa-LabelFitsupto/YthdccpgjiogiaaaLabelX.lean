/- Fits of one match and of two; what they tell of each other. -/
import Derived.Test.YthdccpgjiogiaaaLabelT
import Derived.Test.YthdccpgjiogiaaaGoodAny
import Derived.HandedShaped
namespace Go.Proofs.Ythdccpgjiogiaaa
open Go.RowKit
set_option linter.unusedVariables false
theorem mtOk_one {x : P.Mt} (h : MtOk1 x) : MtOk [x] := by intro y hy; simp at hy; subst hy; exact h
/-- Fits of one match that lies in a new row. -/
theorem fits_one (v : Value) (l : List P.Lb) (x : P.Mt) (w w' : World) (hr : RowL w v l) (hl : LbOk l) (hx : MtOk1 x) (mx : Int) (hm : w.cell? ⟨0, 0, none⟩ = some (.int .i64 mx)) (hb : Below w.heap.size w w') :
    Calls Try.prog 16 #[v, .slice (some ⟨w'.heap.size, 0, none⟩) 1 1] (w'.alloc (.cells #[.int .i64 x.1, .string x.2.1, .string x.2.2] 49)) fun e w2 =>
      e = .returned (.tuple #[.bool (P.fitsB l [x]), .int .i64 (P.fitsE l [x])]) ∧ Below w'.heap.size w' w2 := by
  have hb2 := hb.alloc hb.size (.cells #[.int .i64 x.1, .string x.2.1, .string x.2.2] 49)
  refine (fits_any v _ l [x] _ (hr.below hb2 (Nat.le_refl _)) hl (RowX.one mtC 3 w' x 49) (mtOk_one hx) mx (keep_cell hm hb2)).mono ?_
  rintro e w2 ⟨rfl, h⟩
  exact ⟨rfl, ((Below.refl _ w').alloc (Nat.le_refl _) _).trans (h.mono (by simp))⟩
namespace P
def c1 (x : Mt) : Int := if ¬ Kd x.1 then 1 else if goodN (dl x.2.1) = false then 4 else if 40 < x.2.2.size then 2 else 0
theorem chkM_one (x : Mt) : chkM [x] = c1 x := by
  unfold chkM
  rw [if_neg (by simp)]
  rfl
theorem chkM_two (x y : Mt) : chkM [x, y] = if c1 x = 0 then c1 y else c1 x := by
  unfold chkM
  rw [if_neg (by simp)]
  unfold c1
  simp only [chkMF]
  split
  · simp
  · split
    · simp
    · split
      · simp
      · simp
theorem fitsE_zero {l : List Lb} {m : List Mt} (h : fitsE l m = 0) : chk l = 0 ∧ chkM m = 0 := by
  unfold fitsE at h
  split at h
  · exact ⟨‹_›, h⟩
  · exact absurd h ‹_›
theorem fitsE_of {l : List Lb} {m : List Mt} (h : chk l = 0) (h2 : chkM m = 0) : fitsE l m = 0 := by unfold fitsE; rw [if_pos h, h2]
theorem fitsB_err {l : List Lb} {m : List Mt} (h : fitsE l m ≠ 0) : fitsB l m = false := by
  unfold fitsB
  by_cases h1 : chk l = 0
  · by_cases h2 : chkM m = 0
    · exact absurd (fitsE_of h1 h2) h
    · simp [h2]
  · simp [h1]
theorem fitsB_ok {l : List Lb} {m : List Mt} (h : fitsE l m = 0) : fitsB l m = m.all (fit1 l) := by
  obtain ⟨h1, h2⟩ := fitsE_zero h
  unfold fitsB
  simp [h1, h2]
theorem fitsE_kind {l : List Lb} {k k' : Int} (hk : Kd k) (hk' : Kd k') (n v : ByteArray) : fitsE l [(k, n, v)] = fitsE l [(k', n, v)] := by
  have e : c1 (k, n, v) = c1 (k', n, v) := by
    unfold c1
    simp only
    rw [if_neg (not_not_intro hk), if_neg (not_not_intro hk')]
  unfold fitsE
  rw [chkM_one, chkM_one, e]
theorem is_front {a b : ByteArray} (h : (a.toList == b.toList) = true) : Lib.hasPrefix (dl a) (dl b) = true := by
  rw [beq_iff_eq, Lib.toList_data, Lib.toList_data] at h
  unfold Lib.hasPrefix
  show (dl b).isPrefixOf (dl a) = true
  have e : dl a = dl b := h
  rw [e, List.isPrefixOf_iff_prefix]
  exact List.prefix_refl _
theorem front_has {s p : List UInt8} (h : Lib.hasPrefix s p = true) : Lib.contains s p = true := by
  have := Lib.index_first (s := s) (sub := p) (i := 0) (Nat.zero_le _) (by unfold Lib.occAt; rw [List.drop_zero]; exact h) (fun j hj => by omega)
  unfold Lib.contains
  rw [this]; decide
theorem has_empty (s : List UInt8) : Lib.contains s [] = true := front_has (by unfold Lib.hasPrefix; simp)
/-- What Fits tells of a name's value by its three kinds. -/
theorem three (l : List Lb) (n v : ByteArray) : (fitsE l [(1, n, v)] ≠ 0 → fitsB l [(1, n, v)] = false ∧ fitsB l [(3, n, v)] = false ∧ fitsB l [(4, n, v)] = false) ∧
    (fitsE l [(1, n, v)] = 0 → (fitsB l [(1, n, v)] = true → fitsB l [(3, n, v)] = true) ∧ (fitsB l [(3, n, v)] = true → fitsB l [(4, n, v)] = true) ∧ (v.toList.isEmpty = true → fitsB l [(4, n, v)] = true)) := by
  have k3 : fitsE l [(3, n, v)] = fitsE l [(1, n, v)] := fitsE_kind (by decide) (by decide) n v
  have k4 : fitsE l [(4, n, v)] = fitsE l [(1, n, v)] := fitsE_kind (by decide) (by decide) n v
  constructor
  · intro h
    exact ⟨fitsB_err h, fitsB_err (by rw [k3]; exact h), fitsB_err (by rw [k4]; exact h)⟩
  · intro h
    rw [fitsB_ok h, fitsB_ok (k3.trans h), fitsB_ok (k4.trans h)]
    simp only [List.all_cons, List.all_nil, Bool.and_true]
    have f1 : fit1 l (1, n, v) = ((valO l n).toList == v.toList) := rfl
    have f3 : fit1 l (3, n, v) = Lib.hasPrefix (dl (valO l n)) (dl v) := rfl
    have f4 : fit1 l (4, n, v) = Lib.contains (dl (valO l n)) (dl v) := rfl
    rw [f1, f3, f4]
    refine ⟨is_front, front_has, fun hv => ?_⟩
    rw [List.isEmpty_iff, Lib.toList_data] at hv
    have e : dl v = [] := hv
    rw [e]; exact has_empty _
/-- What Fits tells of two matches, and of a match and its contrary. -/
theorem pair (l : List Lb) (a b : Mt) : (fitsE l [a] = 0 → fitsE l [b] = 0 → fitsE l [a, b] = 0 ∧ fitsB l [a, b] = (fitsB l [a] && fitsB l [b])) ∧ (¬ (fitsE l [a] = 0 ∧ fitsE l [b] = 0) → fitsB l [a, b] = false) := by
  have h2 := chkM_two a b
  constructor
  · intro ha hb
    obtain ⟨p1, p2⟩ := fitsE_zero ha
    obtain ⟨_, q2⟩ := fitsE_zero hb
    rw [chkM_one] at p2 q2
    have h3 : fitsE l [a, b] = 0 := fitsE_of p1 (by rw [h2, if_pos p2, q2])
    exact ⟨h3, by rw [fitsB_ok h3, fitsB_ok ha, fitsB_ok hb]; simp⟩
  · intro h
    apply fitsB_err
    intro h3
    obtain ⟨p1, p2⟩ := fitsE_zero h3
    rw [h2] at p2
    split at p2
    · rename_i h4
      exact h ⟨fitsE_of p1 (by rw [chkM_one]; exact h4), fitsE_of p1 (by rw [chkM_one]; exact p2)⟩
    · exact absurd p2 ‹_›
theorem contrary (l : List Lb) (n v : ByteArray) (h : fitsE l [(1, n, v)] = 0) : fitsE l [(2, n, v)] = 0 ∧ fitsB l [(2, n, v)] = !fitsB l [(1, n, v)] := by
  have h2 : fitsE l [(2, n, v)] = 0 := (fitsE_kind (by decide) (by decide) n v).trans h
  refine ⟨h2, ?_⟩
  rw [fitsB_ok h, fitsB_ok h2]
  simp only [List.all_cons, List.all_nil, Bool.and_true]
  rfl
end P
theorem row_two (w : World) (t : TypeId) (x y : Int) : RowK .i64 (w.alloc (.cells #[.int .i64 x, .int .i64 y] t)) (.slice (some ⟨w.heap.size, 0, none⟩) 2 2) [x, y] := by
  refine ⟨_, 2, rfl, ⟨by simp, by decide, fun h => by cases h⟩, .inr ⟨w.heap.size, 0, rfl, by simp, fun j hj => ?_⟩⟩
  match j, hj with
  | 0, _ => simp
  | 1, _ => simp
end Go.Proofs.Ythdccpgjiogiaaa
