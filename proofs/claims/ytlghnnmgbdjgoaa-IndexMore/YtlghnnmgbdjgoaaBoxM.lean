/- A match in a box of its own. -/
import Derived.Test.YtlghnnmgbdjgoaaKitL
namespace Go.Proofs.Ytlghnnmgbdjgoaa
open Go.RowKit
set_option linter.unusedVariables false
def BoxM (w : World) (g : Nat) (x : P.Mt) : Prop := w.heap[g]? = some (.cells #[.int .i64 x.1, .string x.2.1, .string x.2.2] 56 (0, 0))
theorem BoxM.c0 {w : World} {g : Nat} {x : P.Mt} (h : BoxM w g x) : w.cell? ⟨g, 0, none⟩ = some (.int .i64 x.1) := by unfold BoxM at h; simp [World.cell?, h]
theorem BoxM.c1 {w : World} {g : Nat} {x : P.Mt} (h : BoxM w g x) : w.cell? ⟨g, 1, none⟩ = some (.string x.2.1) := by unfold BoxM at h; simp [World.cell?, h]
theorem BoxM.c2 {w : World} {g : Nat} {x : P.Mt} (h : BoxM w g x) : w.cell? ⟨g, 2, none⟩ = some (.string x.2.2) := by unfold BoxM at h; simp [World.cell?, h]
theorem BoxM.lt {w : World} {g : Nat} {x : P.Mt} (h : BoxM w g x) : g < w.heap.size := (Array.getElem?_eq_some_iff.1 h).1
theorem BoxM.new (w : World) (x : P.Mt) : BoxM (w.alloc (.cells #[.int .i64 x.1, .string x.2.1, .string x.2.2] 56)) w.heap.size x := heap_alloc_new w _
theorem BoxM.next {w w' : World} {g : Nat} {x : P.Mt} (h : BoxM w g x) (hb : Below w.heap.size w w') : BoxM w' g x := (hb.block g h.lt).trans h
theorem ex_size (s : ByteArray) (n : Nat) : (s.extract n s.size).size = s.size - n := by
  rw [P.dl_size (s.extract n s.size), P.dl_extract, List.length_take, List.length_drop, ← P.dl_size]; omega
end Go.Proofs.Ytlghnnmgbdjgoaa
