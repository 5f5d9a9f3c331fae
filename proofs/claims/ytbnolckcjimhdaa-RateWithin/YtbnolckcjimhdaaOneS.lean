/- How one sample is put behind a row of samples that the call owns. -/
import Derived.Test.YtbnolckcjimhdaaKitS
namespace Go.Proofs.Ytbnolckcjimhdaa
open Go.RowKit
set_option linter.unusedVariables false
/-- 'append(b, x)' of one sample that lies in a new block, as one step of a region that draws. -/
theorem step_oneS {ops : Array Oper} {o : Oper} {a : Act} {K : Act → World → Prop} {Q : Exit → Act → World → Prop} {E : Prop} (hgd : o.guard = none) (s x : Operand)
    (ho : o.op = .call { callee := .builtin .append, args := #[s, x], argTypes := #[22, 22] })
    (B base : Nat) (w0 w : World) (v : Value) (acc : List (Int × Int)) (y : Int × Int) (hown : OwnS w base v acc) (hb : Below B w0 w) (hB : B ≤ base) (hs : a.eval s = v)
    (hx : a.eval x = .slice (some ⟨w.heap.size, 0, none⟩) 1 1) (hlen : (acc.length + 1) * 16 ≤ 140737488355328) (hbase : base ≤ w.heap.size) (hBw : B ≤ w.heap.size)
    (h : ∀ v' w', OwnS w' base v' (acc ++ [y]) → Below B w0 w' → w.heap.size ≤ w'.heap.size → K (a.put o.dst v') w') :
    if Region.wanted o (yielded ops a.tmps) = true then Oper.wp Try.prog o a (w.alloc (.cells #[.int .i64 y.1, .int .i64 y.2] 37)).drew K Q else E :=
  step_appS hgd s x ho B base w0 _ v _ acc [y] (hown.below ((Below.refl _ w).alloc (Nat.le_refl _) (.cells #[.int .i64 y.1, .int .i64 y.2] 37)).drew (Nat.le_refl _)) (row_one w y 37) (hb.alloc hBw (.cells #[.int .i64 y.1, .int .i64 y.2] 37)).drew hB hs hx (by simpa using hlen)
    (by show base ≤ (w.alloc _).heap.size; simp; omega) fun v' w' a1 a2 a3 a4 => h v' w' a1 a2 (by have : (w.alloc (.cells #[.int .i64 y.1, .int .i64 y.2] 37)).heap.size ≤ w'.heap.size := a3; simp at this; omega)
/-- 'append(b, x)' of one sample that lies in a new block, where the walk stands at it. -/
theorem wp_oneS {ops : Array Oper} {rest : List Oper} {o : Oper} {a : Act} {Q : Exit → Act → World → Prop} (hgd : o.guard = none) (s x : Operand)
    (ho : o.op = .call { callee := .builtin .append, args := #[s, x], argTypes := #[22, 22] })
    (B base : Nat) (w0 w : World) (v : Value) (acc : List (Int × Int)) (y : Int × Int) (hown : OwnS w base v acc) (hb : Below B w0 w) (hB : B ≤ base) (hs : a.eval s = v)
    (hx : a.eval x = .slice (some ⟨w.heap.size, 0, none⟩) 1 1) (hlen : (acc.length + 1) * 16 ≤ 140737488355328) (hbase : base ≤ w.heap.size) (hBw : B ≤ w.heap.size)
    (h : ∀ v' w', OwnS w' base v' (acc ++ [y]) → Below B w0 w' → w.heap.size ≤ w'.heap.size → w.grownBy w' v.ownBlock → wpList Try.prog ops Q rest (a.put o.dst v') w') :
    wpList Try.prog ops Q (o :: rest) a (w.alloc (.cells #[.int .i64 y.1, .int .i64 y.2] 37)) :=
  wp_appS hgd s x ho B base w0 _ v _ acc [y] (hown.below ((Below.refl _ w).alloc (Nat.le_refl _) (.cells #[.int .i64 y.1, .int .i64 y.2] 37)) (Nat.le_refl _)) (row_one w y 37) (hb.alloc hBw (.cells #[.int .i64 y.1, .int .i64 y.2] 37)) hB hs hx (by simpa using hlen)
    (by simp; omega) fun v' w' a1 a2 a3 a4 => h v' w' a1 a2 (by have : (w.alloc (.cells #[.int .i64 y.1, .int .i64 y.2] 37)).heap.size ≤ w'.heap.size := a3; simp at this; omega) ((World.grownBy_alloc w _ _).trans a4)
end Go.Proofs.Ytbnolckcjimhdaa
