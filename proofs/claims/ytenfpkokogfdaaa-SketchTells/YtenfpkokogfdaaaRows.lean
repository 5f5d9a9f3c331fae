/-
  No cell of these rows narrows 'for every input' (looked for: loops, veiled, ifaces, maps, wideKeys, modest, calm, conditions, laid).
  DERIVED. THE GIVEN ROWS OF THIS SEAT. 6 by the template 'for every input the law returns true; each argument reads behind the call as it read before'; 0 by the template 'total and deterministic' (their statements: YtenfpkokogfdaaaTotals.lean).
  GIVEN WITH THE SEED: the statements are not yours to turn. If you find one false, say at which input.
  Laid BY PROGRAM, IN A SANDBOX (cutbox-rows.mjs): the forced cells as the released guide's own fill.sh prints them over the translation abf32d80c34e206d… (all of the seat's roots in one cut). By AI agents, Wed Nov 11 2026. No macro, syntax, notation, axiom, sorry.
-/
import Derived.Test.YtenfpkokogfdaaaChecked
import GoSem.Claim
import GoSem.ClaimJoined
import GoSem.ClaimMapViews
import Derived.JoinedTies
import Derived.KernelRfl
namespace Go.Proofs.Ytenfpkokogfdaaa
/- THE CELL 'sum', in the pinned program and in every row, IS THE sha256 OF THE DUMP (.gsa) THAT YtenfpkokogfdaaaProg.lean LOADS. Nothing in Lean hashes anything: it is a label: what it is worth is what the hold of that sum in a sandbox is worth. -/
noncomputable def Try.pinned : Pinned := { name := "ytenfpkokogfdaaa", sum := "abf32d80c34e206d58137098eb81bc61e9f5c595829c5cbb7c8c55af7ad694c2", checked := Try.checked }
namespace Rows
def none {H : Type} : Left H := { results := [], args := [] }

/-- 'gaugehouselaw.SketchTells': WHATEVER THE INPUT: true; the input reads as it did. -/
def sketchTellsSpec : ChangeSpec := { name := "sketchTells", fn := fun _ => fun
  | [d1, d2, d3, d4, d5] => { results := [.lit (.bool true)], args := [d1, d2, d3, d4, d5] }
  | _ => none }
def sketchTellsRow : OpenClaim := { program := "ytenfpkokogfdaaa", sum := "abf32d80c34e206d58137098eb81bc61e9f5c595829c5cbb7c8c55af7ad694c2", func := "gaugehouse/gaugehouselaw.SketchTells", spec := "sketchTells", unfollowed := true, recurses := true, apart := false }
def SketchTellsSaid : Prop := sketchTellsRow.holds Try.pinned (OpenSpec.ofChange sketchTellsSpec)

/-- ITS FALSE NEIGHBOUR: 'it returns false'. Refute it at one input. -/
def sketchTellsWrong : ChangeSpec := { name := "sketchTells", fn := fun _ => fun
  | [d1, d2, d3, d4, d5] => { results := [.lit (.bool false)], args := [d1, d2, d3, d4, d5] }
  | _ => none }
def SketchTellsWrongFalsely : Prop := sketchTellsRow.holds Try.pinned (OpenSpec.ofChange sketchTellsWrong)

/-- 'gaugehouselaw.SketchMerges': WHATEVER THE INPUT: true; the input reads as it did. -/
def sketchMergesSpec : ChangeSpec := { name := "sketchMerges", fn := fun _ => fun
  | [d1, d2] => { results := [.lit (.bool true)], args := [d1, d2] }
  | _ => none }
def sketchMergesRow : OpenClaim := { program := "ytenfpkokogfdaaa", sum := "abf32d80c34e206d58137098eb81bc61e9f5c595829c5cbb7c8c55af7ad694c2", func := "gaugehouse/gaugehouselaw.SketchMerges", spec := "sketchMerges", unfollowed := true, recurses := true, apart := false }
def SketchMergesSaid : Prop := sketchMergesRow.holds Try.pinned (OpenSpec.ofChange sketchMergesSpec)

/-- ITS FALSE NEIGHBOUR: 'it returns false'. Refute it at one input. -/
def sketchMergesWrong : ChangeSpec := { name := "sketchMerges", fn := fun _ => fun
  | [d1, d2] => { results := [.lit (.bool false)], args := [d1, d2] }
  | _ => none }
def SketchMergesWrongFalsely : Prop := sketchMergesRow.holds Try.pinned (OpenSpec.ofChange sketchMergesWrong)

/-- 'gaugehousekeep.SketchOver': WHATEVER THE INPUT: true; the input reads as it did. -/
def sketchOverSpec : ChangeSpec := { name := "sketchOver", fn := fun _ => fun
  | [d1, d2, d3, d4] => { results := [.lit (.bool true)], args := [d1, d2, d3, d4] }
  | _ => none }
def sketchOverRow : OpenClaim := { program := "ytenfpkokogfdaaa", sum := "abf32d80c34e206d58137098eb81bc61e9f5c595829c5cbb7c8c55af7ad694c2", func := "gaugehouse/gaugehousekeep.SketchOver", spec := "sketchOver", unfollowed := true, recurses := true, apart := false }
def SketchOverSaid : Prop := sketchOverRow.holds Try.pinned (OpenSpec.ofChange sketchOverSpec)

/-- ITS FALSE NEIGHBOUR: 'it returns false'. Refute it at one input. -/
def sketchOverWrong : ChangeSpec := { name := "sketchOver", fn := fun _ => fun
  | [d1, d2, d3, d4] => { results := [.lit (.bool false)], args := [d1, d2, d3, d4] }
  | _ => none }
def SketchOverWrongFalsely : Prop := sketchOverRow.holds Try.pinned (OpenSpec.ofChange sketchOverWrong)

/-- 'gaugehousekeep.SketchLinear': WHATEVER THE INPUT: true; the input reads as it did. -/
def sketchLinearSpec : ChangeSpec := { name := "sketchLinear", fn := fun _ => fun
  | [d1, d2, d3, d4] => { results := [.lit (.bool true)], args := [d1, d2, d3, d4] }
  | _ => none }
def sketchLinearRow : OpenClaim := { program := "ytenfpkokogfdaaa", sum := "abf32d80c34e206d58137098eb81bc61e9f5c595829c5cbb7c8c55af7ad694c2", func := "gaugehouse/gaugehousekeep.SketchLinear", spec := "sketchLinear", unfollowed := true, recurses := true, apart := false }
def SketchLinearSaid : Prop := sketchLinearRow.holds Try.pinned (OpenSpec.ofChange sketchLinearSpec)

/-- ITS FALSE NEIGHBOUR: 'it returns false'. Refute it at one input. -/
def sketchLinearWrong : ChangeSpec := { name := "sketchLinear", fn := fun _ => fun
  | [d1, d2, d3, d4] => { results := [.lit (.bool false)], args := [d1, d2, d3, d4] }
  | _ => none }
def SketchLinearWrongFalsely : Prop := sketchLinearRow.holds Try.pinned (OpenSpec.ofChange sketchLinearWrong)

/-- 'gaugehousekeep.SketchOften': WHATEVER THE INPUT: true; the input reads as it did. -/
def sketchOftenSpec : ChangeSpec := { name := "sketchOften", fn := fun _ => fun
  | [d1, d2, d3] => { results := [.lit (.bool true)], args := [d1, d2, d3] }
  | _ => none }
def sketchOftenRow : OpenClaim := { program := "ytenfpkokogfdaaa", sum := "abf32d80c34e206d58137098eb81bc61e9f5c595829c5cbb7c8c55af7ad694c2", func := "gaugehouse/gaugehousekeep.SketchOften", spec := "sketchOften", unfollowed := true, recurses := true, apart := false }
def SketchOftenSaid : Prop := sketchOftenRow.holds Try.pinned (OpenSpec.ofChange sketchOftenSpec)

/-- ITS FALSE NEIGHBOUR: 'it returns false'. Refute it at one input. -/
def sketchOftenWrong : ChangeSpec := { name := "sketchOften", fn := fun _ => fun
  | [d1, d2, d3] => { results := [.lit (.bool false)], args := [d1, d2, d3] }
  | _ => none }
def SketchOftenWrongFalsely : Prop := sketchOftenRow.holds Try.pinned (OpenSpec.ofChange sketchOftenWrong)

/-- 'gaugehousekeep.SketchMore': WHATEVER THE INPUT: true; the input reads as it did. -/
def sketchMoreSpec : ChangeSpec := { name := "sketchMore", fn := fun _ => fun
  | [d1, d2, d3, d4] => { results := [.lit (.bool true)], args := [d1, d2, d3, d4] }
  | _ => none }
def sketchMoreRow : OpenClaim := { program := "ytenfpkokogfdaaa", sum := "abf32d80c34e206d58137098eb81bc61e9f5c595829c5cbb7c8c55af7ad694c2", func := "gaugehouse/gaugehousekeep.SketchMore", spec := "sketchMore", unfollowed := true, recurses := true, apart := false }
def SketchMoreSaid : Prop := sketchMoreRow.holds Try.pinned (OpenSpec.ofChange sketchMoreSpec)

/-- ITS FALSE NEIGHBOUR: 'it returns false'. Refute it at one input. -/
def sketchMoreWrong : ChangeSpec := { name := "sketchMore", fn := fun _ => fun
  | [d1, d2, d3, d4] => { results := [.lit (.bool false)], args := [d1, d2, d3, d4] }
  | _ => none }
def SketchMoreWrongFalsely : Prop := sketchMoreRow.holds Try.pinned (OpenSpec.ofChange sketchMoreWrong)

/- THE SECOND FORM. 'bulk': how many values and letters a reading holds, each counted each time it is reached (what is shared counts as often as it is met; a slice's spare places count too). A statement '..UptoSaid' is the law's where the arguments, and the package variables that the reading takes, are together of bulk at most 1048576: NARROWER than '..Said'. Prove '..Said' where nothing that the law and all that it calls make is longer than what came in: it says more and counts as full. Else prove '..UptoSaid'. A law counts once. -/
mutual
def uptoBulk {H : Type} : DataW H → Nat
  | .lit (.string bytes) => bytes.length + 1
  | .lit _ => 1
  | .nil => 1
  | .ptr d => uptoBulk d + 1
  | .slice elems spare => uptoBulkAll elems + uptoBulkAll spare + 1
  | .agg parts => uptoBulkAll parts + 1
  | .iface _ d => uptoBulk d + 1
  | .map entries => uptoBulkEntries entries + 1
  | .held _ => 1
def uptoBulkAll {H : Type} : List (DataW H) → Nat
  | [] => 0
  | d :: r => uptoBulk d + uptoBulkAll r
def uptoBulkEntries {H : Type} : List (Lit × DataW H) → Nat
  | [] => 0
  | x :: r => uptoBulkEntry x + uptoBulkEntries r
def uptoBulkEntry {H : Type} : Lit × DataW H → Nat
  | (.string bytes, d) => bytes.length + uptoBulk d + 1
  | (_, d) => uptoBulk d + 1
 end
def uptoSmall : (H : Type) → List (DataW H) → Bool := fun _ ds => decide (uptoBulkAll ds ≤ 1048576)
def OpenSpec.upto (s : _root_.Go.ChangeSpec) : _root_.Go.OpenSpec := { _root_.Go.OpenSpec.ofChange s with cond := some uptoSmall }

/-- 'gaugehouselaw.SketchTells', WHERE WHAT IT READS IS OF BULK AT MOST 1048576: true; the input reads as it did. -/
def sketchTellsUptoRow : OpenClaim := { program := "ytenfpkokogfdaaa", sum := "abf32d80c34e206d58137098eb81bc61e9f5c595829c5cbb7c8c55af7ad694c2", func := "gaugehouse/gaugehouselaw.SketchTells", spec := "sketchTells", unfollowed := true, recurses := true, apart := false, narrowed := true }
def SketchTellsUptoSaid : Prop := sketchTellsUptoRow.holds Try.pinned (OpenSpec.upto sketchTellsSpec)

/-- 'gaugehouselaw.SketchMerges', WHERE WHAT IT READS IS OF BULK AT MOST 1048576: true; the input reads as it did. -/
def sketchMergesUptoRow : OpenClaim := { program := "ytenfpkokogfdaaa", sum := "abf32d80c34e206d58137098eb81bc61e9f5c595829c5cbb7c8c55af7ad694c2", func := "gaugehouse/gaugehouselaw.SketchMerges", spec := "sketchMerges", unfollowed := true, recurses := true, apart := false, narrowed := true }
def SketchMergesUptoSaid : Prop := sketchMergesUptoRow.holds Try.pinned (OpenSpec.upto sketchMergesSpec)

/-- 'gaugehousekeep.SketchOver', WHERE WHAT IT READS IS OF BULK AT MOST 1048576: true; the input reads as it did. -/
def sketchOverUptoRow : OpenClaim := { program := "ytenfpkokogfdaaa", sum := "abf32d80c34e206d58137098eb81bc61e9f5c595829c5cbb7c8c55af7ad694c2", func := "gaugehouse/gaugehousekeep.SketchOver", spec := "sketchOver", unfollowed := true, recurses := true, apart := false, narrowed := true }
def SketchOverUptoSaid : Prop := sketchOverUptoRow.holds Try.pinned (OpenSpec.upto sketchOverSpec)

/-- 'gaugehousekeep.SketchLinear', WHERE WHAT IT READS IS OF BULK AT MOST 1048576: true; the input reads as it did. -/
def sketchLinearUptoRow : OpenClaim := { program := "ytenfpkokogfdaaa", sum := "abf32d80c34e206d58137098eb81bc61e9f5c595829c5cbb7c8c55af7ad694c2", func := "gaugehouse/gaugehousekeep.SketchLinear", spec := "sketchLinear", unfollowed := true, recurses := true, apart := false, narrowed := true }
def SketchLinearUptoSaid : Prop := sketchLinearUptoRow.holds Try.pinned (OpenSpec.upto sketchLinearSpec)

/-- 'gaugehousekeep.SketchOften', WHERE WHAT IT READS IS OF BULK AT MOST 1048576: true; the input reads as it did. -/
def sketchOftenUptoRow : OpenClaim := { program := "ytenfpkokogfdaaa", sum := "abf32d80c34e206d58137098eb81bc61e9f5c595829c5cbb7c8c55af7ad694c2", func := "gaugehouse/gaugehousekeep.SketchOften", spec := "sketchOften", unfollowed := true, recurses := true, apart := false, narrowed := true }
def SketchOftenUptoSaid : Prop := sketchOftenUptoRow.holds Try.pinned (OpenSpec.upto sketchOftenSpec)

/-- 'gaugehousekeep.SketchMore', WHERE WHAT IT READS IS OF BULK AT MOST 1048576: true; the input reads as it did. -/
def sketchMoreUptoRow : OpenClaim := { program := "ytenfpkokogfdaaa", sum := "abf32d80c34e206d58137098eb81bc61e9f5c595829c5cbb7c8c55af7ad694c2", func := "gaugehouse/gaugehousekeep.SketchMore", spec := "sketchMore", unfollowed := true, recurses := true, apart := false, narrowed := true }
def SketchMoreUptoSaid : Prop := sketchMoreUptoRow.holds Try.pinned (OpenSpec.upto sketchMoreSpec)

end Rows
end Go.Proofs.Ytenfpkokogfdaaa
