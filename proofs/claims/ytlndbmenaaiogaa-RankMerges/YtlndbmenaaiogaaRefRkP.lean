/- Plain: how the reference puts a number into a list, takes each second one, and carries. -/
import Derived.Test.YtlndbmenaaiogaaRankP2
import Derived.Test.YtlndbmenaaiogaaRankC
namespace Go.Proofs.Ytlndbmenaaiogaa
namespace P
set_option linter.unusedVariables false
/-- Ahead of the first one that is above. -/
def insP (v : Int) : List Int → List Int
  | [] => [v]
  | x :: r => if v < x then v :: x :: r else x :: insP v r
theorem insP_perm (v : Int) (l : List Int) : (insP v l).Perm (v :: l) := by
  induction l with
  | nil => exact List.Perm.refl _
  | cons x r ih =>
    simp only [insP]; split
    · exact List.Perm.refl _
    · exact (List.Perm.cons x ih).trans (List.Perm.swap v x r)
theorem insP_inc {v : Int} {l : List Int} (h : Inc l) : Inc (insP v l) := by
  induction l with
  | nil => exact List.pairwise_singleton _ _
  | cons x r ih =>
    simp only [insP]; split
    · rename_i hv
      refine List.pairwise_cons.2 ⟨fun y hy => ?_, h⟩
      rcases List.mem_cons.1 hy with rfl | hy
      · omega
      · have := h.head y hy; omega
    · rename_i hv
      refine List.pairwise_cons.2 ⟨fun y hy => ?_, ih h.tail⟩
      rcases List.mem_cons.1 ((insP_perm v r).subset hy) with rfl | hy
      · omega
      · exact h.head y hy
theorem insP_ins {v : Int} {l : List Int} (h : Inc l) : insP v l = ins v l := (srt_of (insP_inc h) (insP_perm v l)).symm
theorem insP_len (v : Int) (l : List Int) : (insP v l).length = l.length + 1 := by rw [(insP_perm v l).length_eq]; rfl
theorem ins_srt (v : Int) (b : List Int) : ins v (srt b) = srt (b ++ [v]) := by
  refine inc_ext (srt_inc _) (srt_inc _) ?_
  refine (srt_perm _).trans (((srt_perm b).cons v).trans (List.Perm.trans ?_ (srt_perm _).symm))
  exact List.perm_append_comm (l₁ := [v]) (l₂ := b)
theorem srt_self {l : List Int} (h : Inc l) : srt l = l := srt_of h (List.Perm.refl _)
theorem srt_step (a l : List Int) {k : Nat} (hk : k < l.length) : ins (l.getD k 0) (srt (a ++ l.take k)) = srt (a ++ l.take (k + 1)) := by
  rw [ins_srt, List.append_assoc, List.take_add_one, List.getElem?_eq_getElem hk]
  simp [List.getD_eq_getElem?_getD, List.getElem?_eq_getElem hk]
theorem odds_next (l : List Int) {k : Nat} (hk : k < l.length) : odds (l.take (k + 1)) = odds (l.take k) ++ (if k % 2 = 1 then [l.getD k 0] else []) := by
  have e : l.take (k + 1) = l.take k ++ [l.getD k 0] := by
    rw [List.take_add_one, List.getElem?_eq_getElem hk]; simp [List.getD_eq_getElem?_getD, List.getElem?_eq_getElem hk]
  have hl : (l.take k).length = k := by simp; omega
  rw [e]
  split
  · exact odds_two _ _ (k / 2) (by omega)
  · rw [odds_one _ _ (k / 2) (by omega), List.append_nil]
/-- What stands still to be done while a number is put in. -/
def rest (v : Int) (put : Bool) (l : List Int) : List Int := if put then l else insP v l
theorem rest_end (v : Int) (put : Bool) : rest v put [] = if put then [] else [v] := by cases put <;> rfl
theorem rest_put (v x : Int) (l : List Int) : rest v true (x :: l) = x :: rest v true l := rfl
theorem rest_new {v x : Int} (l : List Int) (h : v < x) : rest v false (x :: l) = v :: x :: rest v true l := by simp [rest, insP, h]
theorem rest_on {v x : Int} (l : List Int) (h : ¬ v < x) : rest v false (x :: l) = x :: rest v false l := by simp [rest, insP, h]
theorem drop_at (l : List Int) {k : Nat} (hk : k < l.length) : l.drop k = l.getD k 0 :: l.drop (k + 1) := by
  rw [List.drop_eq_getElem_cons hk]; simp [List.getD_eq_getElem?_getD, List.getElem?_eq_getElem hk]
end P
end Go.Proofs.Ytlndbmenaaiogaa
