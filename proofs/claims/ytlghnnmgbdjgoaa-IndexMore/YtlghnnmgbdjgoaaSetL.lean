/- indexes: there is such a package; sets of numbers as the statements have them. -/
import Derived.Test.YtlghnnmgbdjgoaaSetN
import Derived.Test.YtlghnnmgbdjgoaaGoodAny
namespace Go.Proofs.Ytlghnnmgbdjgoaa
open Go.RowKit Go.Sort
set_option linter.unusedVariables false
theorem cells3 : Try.prog.cellsOf 3 = 1 := by kernel_rfl
theorem bytes3 : Try.prog.bytesOf 3 = 8 := by kernel_rfl
theorem rowI_one (w : World) (x : Int) (t : TypeId) : RowK .i64 (w.alloc (.cells #[.int .i64 x] t)) (.slice (some ⟨w.heap.size, 0, none⟩) 1 1) [x] := by
  refine ⟨_, 1, rfl, ⟨by simp, by decide, fun h => by cases h⟩, .inr ⟨w.heap.size, 0, rfl, by simp, fun j hj => ?_⟩⟩
  match j, hj with
  | 0, _ => simp
theorem rowK_nil (k : IntKind) (w : World) : RowK k w (.slice none 0 0) [] := ⟨none, 0, rfl, ⟨by simp, by simp, fun _ => rfl⟩, .inl rfl⟩
theorem or_twelve : Q.orL [1] [2] = [1, 2] := Q.asc_ext (Q.orL_asc _ _) (by simp [Q.Asc]) (fun x => by rw [Q.mem_orL]; simp)
theorem indexes_any (w : World) : Calls Try.prog 25 #[] w fun e w' => e = .returned (.bool true) ∧ Below w.heap.size w w' := by
  have h1 := (rowI_one w 1 3).below ((Below.refl _ (w.alloc (.cells #[.int .i64 1] 3))).alloc (Nat.le_refl _) (.cells #[.int .i64 2] 3)) (Nat.le_refl _)
  have h2 := rowI_one (w.alloc (.cells #[.int .i64 1] 3)) 2 3
  have h3 := or_any _ _ _ _ _ h1 h2 (by simp)
  rw [or_twelve] at h3
  have e1 : (w.alloc (.cells #[.int .i64 1] 3)).heap.size = w.heap.size + 1 := by simp
  rw [e1] at h3
  have HO := hide h3
  have HB := hide (((Below.refl w.heap.size w).alloc (Nat.le_refl _) (.cells #[.int .i64 1] 3)).alloc (by simp) (.cells #[.int .i64 2] 3))
  clear h1 h2 h3 e1
  go_enter Try.func25, Try.ntmps25
  go_wp2_with fail
  refine HO.out.mono ?_
  rintro e w1 ⟨v1, rfl, own1, hb1⟩
  obtain ⟨a1, c1, hv⟩ := own1.shape
  subst hv
  have HB1 := hide (HB.out.trans (hb1.mono (by simp; omega)))
  clear own1 hb1 HB HO
  go_wp2
  go_ret
  exact ⟨rfl, HB1.out⟩
theorem row_four (w : World) (x y z u : Int) (t : TypeId) : RowK .i64 (w.alloc (.cells #[.int .i64 x, .int .i64 y, .int .i64 z, .int .i64 u] t)) (.slice (some ⟨w.heap.size, 0, none⟩) 4 4) [x, y, z, u] := by
  refine ⟨_, 4, rfl, ⟨by simp, by decide, fun h => by cases h⟩, .inr ⟨w.heap.size, 0, rfl, by simp, fun j hj => ?_⟩⟩
  match j, hj with
  | 0, _ => simp
  | 1, _ => simp
  | 2, _ => simp
  | 3, _ => simp
end Go.Proofs.Ytlghnnmgbdjgoaa
