/-
  NARROWER THAN 'FOR EVERY INPUT', by the rows' own cells (each row's printed sentence says how): DeltaPacks: laid · DeltaOpens: laid · DeltaBack: laid · DeltaOne: laid · DeltaSteady: laid · DeltaMoved: laid.
  DERIVED. THE GIVEN ROWS OF THIS SEAT. 6 by the template 'for every input the law returns true; each argument reads behind the call as it read before'; 0 by the template 'total and deterministic' (their statements: YtlejpbghakaooaaDoorTotals.lean).
  GIVEN WITH THE SEED: the statements are not yours to turn. If you find one false, say at which input.
  Laid BY PROGRAM, IN A SANDBOX (cutbox-rows.mjs): the forced cells as the released guide's own fill.sh prints them over the translation e1560596edde0bf3… (all of the seat's roots in one cut). By AI agents, Wed Nov 11 2026. No macro, syntax, notation, axiom, sorry.
-/
import Derived.Test.YtlejpbghakaooaaDoorChecked
import GoSem.Claim
import GoSem.ClaimJoined
import GoSem.ClaimMapViews
import Derived.JoinedTies
import Derived.KernelRfl
namespace Go.Proofs.YtlejpbghakaooaaDoor
/- THE CELL 'sum', in the pinned program and in every row, IS THE sha256 OF THE DUMP (.gsa) THAT YtlejpbghakaooaaDoorProg.lean LOADS. Nothing in Lean hashes anything: it is a label: what it is worth is what the hold of that sum in a sandbox is worth. -/
noncomputable def Tryd.pinned : Pinned := { name := "ytlejpbghakaooaadoor", sum := "e1560596edde0bf3f3981fd955c00f324054fd26f5a49b014b3030e848a80be5", checked := Tryd.checked }
namespace Rows
def none {H : Type} : Left H := { results := [], args := [] }

/- WHAT THE LISTED PACKAGE-LEVEL VARIABLES READ AS WHEN THE CALL BEGINS. Each datum BY PROGRAM (the guide's laid-datum.mjs) off the statement by which the dump's own 'gosem.cut.vars' lays the variable. In a bare row this is a premise. The card (YtlejpbghakaooaaDoorCards.lean) ties it to the program's text. -/
def laid_gaugehouse_delta_shapes {H : Type} : DataW H := .agg [.agg [.lit (.int .u64 0), .lit (.int .i64 1), .lit (.int .i64 0)], .agg [.lit (.int .u64 2), .lit (.int .i64 2), .lit (.int .i64 7)], .agg [.lit (.int .u64 6), .lit (.int .i64 3), .lit (.int .i64 9)], .agg [.lit (.int .u64 14), .lit (.int .i64 4), .lit (.int .i64 12)], .agg [.lit (.int .u64 15), .lit (.int .i64 4), .lit (.int .i64 64)]]

/-- 'gaugehouselaw.DeltaPacks': WHATEVER THE INPUT: true; the input reads as it did. -/
def deltaPacksSpec : ChangeSpec := { name := "deltaPacks", fn := fun _ => fun
  | [d] => { results := [.lit (.bool true)], args := [d] }
  | _ => none }
def deltaPacksRow : OpenClaim := { program := "ytlejpbghakaooaadoor", sum := "e1560596edde0bf3f3981fd955c00f324054fd26f5a49b014b3030e848a80be5", func := "gaugehouse/gaugehouselaw.DeltaPacks", spec := "deltaPacks", named := ["gaugehouse/delta.shapes"], apart := false, laid := [("gaugehouse/delta.shapes", laid_gaugehouse_delta_shapes)] }
def DeltaPacksSaid : Prop := deltaPacksRow.holds Tryd.pinned (OpenSpec.ofChange deltaPacksSpec)

/-- ITS FALSE NEIGHBOUR: 'it returns false'. Refute it at one input. -/
def deltaPacksWrong : ChangeSpec := { name := "deltaPacks", fn := fun _ => fun
  | [d] => { results := [.lit (.bool false)], args := [d] }
  | _ => none }
def DeltaPacksWrongFalsely : Prop := deltaPacksRow.holds Tryd.pinned (OpenSpec.ofChange deltaPacksWrong)

/-- 'gaugehouselaw.DeltaOpens': WHATEVER THE INPUT: true; the input reads as it did. -/
def deltaOpensSpec : ChangeSpec := { name := "deltaOpens", fn := fun _ => fun
  | [d] => { results := [.lit (.bool true)], args := [d] }
  | _ => none }
def deltaOpensRow : OpenClaim := { program := "ytlejpbghakaooaadoor", sum := "e1560596edde0bf3f3981fd955c00f324054fd26f5a49b014b3030e848a80be5", func := "gaugehouse/gaugehouselaw.DeltaOpens", spec := "deltaOpens", unfollowed := true, recurses := true, named := ["gaugehouse/delta.shapes"], apart := false, laid := [("gaugehouse/delta.shapes", laid_gaugehouse_delta_shapes)] }
def DeltaOpensSaid : Prop := deltaOpensRow.holds Tryd.pinned (OpenSpec.ofChange deltaOpensSpec)

/-- ITS FALSE NEIGHBOUR: 'it returns false'. Refute it at one input. -/
def deltaOpensWrong : ChangeSpec := { name := "deltaOpens", fn := fun _ => fun
  | [d] => { results := [.lit (.bool false)], args := [d] }
  | _ => none }
def DeltaOpensWrongFalsely : Prop := deltaOpensRow.holds Tryd.pinned (OpenSpec.ofChange deltaOpensWrong)

/-- 'gaugehousekeep.DeltaBack': WHATEVER THE INPUT: true; the input reads as it did. -/
def deltaBackSpec : ChangeSpec := { name := "deltaBack", fn := fun _ => fun
  | [d] => { results := [.lit (.bool true)], args := [d] }
  | _ => none }
def deltaBackRow : OpenClaim := { program := "ytlejpbghakaooaadoor", sum := "e1560596edde0bf3f3981fd955c00f324054fd26f5a49b014b3030e848a80be5", func := "gaugehouse/gaugehousekeep.DeltaBack", spec := "deltaBack", named := ["gaugehouse/delta.shapes"], apart := false, laid := [("gaugehouse/delta.shapes", laid_gaugehouse_delta_shapes)] }
def DeltaBackSaid : Prop := deltaBackRow.holds Tryd.pinned (OpenSpec.ofChange deltaBackSpec)

/-- ITS FALSE NEIGHBOUR: 'it returns false'. Refute it at one input. -/
def deltaBackWrong : ChangeSpec := { name := "deltaBack", fn := fun _ => fun
  | [d] => { results := [.lit (.bool false)], args := [d] }
  | _ => none }
def DeltaBackWrongFalsely : Prop := deltaBackRow.holds Tryd.pinned (OpenSpec.ofChange deltaBackWrong)

/-- 'gaugehousekeep.DeltaOne': WHATEVER THE INPUT: true; the input reads as it did. -/
def deltaOneSpec : ChangeSpec := { name := "deltaOne", fn := fun _ => fun
  | [d] => { results := [.lit (.bool true)], args := [d] }
  | _ => none }
def deltaOneRow : OpenClaim := { program := "ytlejpbghakaooaadoor", sum := "e1560596edde0bf3f3981fd955c00f324054fd26f5a49b014b3030e848a80be5", func := "gaugehouse/gaugehousekeep.DeltaOne", spec := "deltaOne", named := ["gaugehouse/delta.shapes"], apart := false, laid := [("gaugehouse/delta.shapes", laid_gaugehouse_delta_shapes)] }
def DeltaOneSaid : Prop := deltaOneRow.holds Tryd.pinned (OpenSpec.ofChange deltaOneSpec)

/-- ITS FALSE NEIGHBOUR: 'it returns false'. Refute it at one input. -/
def deltaOneWrong : ChangeSpec := { name := "deltaOne", fn := fun _ => fun
  | [d] => { results := [.lit (.bool false)], args := [d] }
  | _ => none }
def DeltaOneWrongFalsely : Prop := deltaOneRow.holds Tryd.pinned (OpenSpec.ofChange deltaOneWrong)

/-- 'gaugehousekeep.DeltaSteady': WHATEVER THE INPUT: true; the input reads as it did. -/
def deltaSteadySpec : ChangeSpec := { name := "deltaSteady", fn := fun _ => fun
  | [d1, d2, d3] => { results := [.lit (.bool true)], args := [d1, d2, d3] }
  | _ => none }
def deltaSteadyRow : OpenClaim := { program := "ytlejpbghakaooaadoor", sum := "e1560596edde0bf3f3981fd955c00f324054fd26f5a49b014b3030e848a80be5", func := "gaugehouse/gaugehousekeep.DeltaSteady", spec := "deltaSteady", unfollowed := true, recurses := true, named := ["gaugehouse/delta.shapes"], apart := false, laid := [("gaugehouse/delta.shapes", laid_gaugehouse_delta_shapes)] }
def DeltaSteadySaid : Prop := deltaSteadyRow.holds Tryd.pinned (OpenSpec.ofChange deltaSteadySpec)

/-- ITS FALSE NEIGHBOUR: 'it returns false'. Refute it at one input. -/
def deltaSteadyWrong : ChangeSpec := { name := "deltaSteady", fn := fun _ => fun
  | [d1, d2, d3] => { results := [.lit (.bool false)], args := [d1, d2, d3] }
  | _ => none }
def DeltaSteadyWrongFalsely : Prop := deltaSteadyRow.holds Tryd.pinned (OpenSpec.ofChange deltaSteadyWrong)

/-- 'gaugehousekeep.DeltaMoved': WHATEVER THE INPUT: true; the input reads as it did. -/
def deltaMovedSpec : ChangeSpec := { name := "deltaMoved", fn := fun _ => fun
  | [d1, d2] => { results := [.lit (.bool true)], args := [d1, d2] }
  | _ => none }
def deltaMovedRow : OpenClaim := { program := "ytlejpbghakaooaadoor", sum := "e1560596edde0bf3f3981fd955c00f324054fd26f5a49b014b3030e848a80be5", func := "gaugehouse/gaugehousekeep.DeltaMoved", spec := "deltaMoved", named := ["gaugehouse/delta.shapes"], apart := false, laid := [("gaugehouse/delta.shapes", laid_gaugehouse_delta_shapes)] }
def DeltaMovedSaid : Prop := deltaMovedRow.holds Tryd.pinned (OpenSpec.ofChange deltaMovedSpec)

/-- ITS FALSE NEIGHBOUR: 'it returns false'. Refute it at one input. -/
def deltaMovedWrong : ChangeSpec := { name := "deltaMoved", fn := fun _ => fun
  | [d1, d2] => { results := [.lit (.bool false)], args := [d1, d2] }
  | _ => none }
def DeltaMovedWrongFalsely : Prop := deltaMovedRow.holds Tryd.pinned (OpenSpec.ofChange deltaMovedWrong)

/- THE SECOND FORM. 'bulk': how many values and letters a reading holds, each counted each time it is reached (what is shared counts as often as it is met; a slice's spare places count too). A statement '..UptoSaid' is the law's where the arguments, and the package variables that the reading takes, are together of bulk at most 1048576: NARROWER than '..Said'. Prove '..Said' where nothing that the law and all that it calls make is longer than what came in: it says more and counts as full. Else prove '..UptoSaid'. A law counts once. -/
mutual
def uptoBulk {H : Type} : DataW H → Nat
  | .lit (.string bytes) => bytes.length + 1
  | .lit _ => 1
  | .nil => 1
  | .ptr d => uptoBulk d + 1
  | .slice elems spare => uptoBulkAll elems + uptoBulkAll spare + 1
  | .agg parts => uptoBulkAll parts + 1
  | .iface _ d => uptoBulk d + 1
  | .map entries => uptoBulkEntries entries + 1
  | .held _ => 1
def uptoBulkAll {H : Type} : List (DataW H) → Nat
  | [] => 0
  | d :: r => uptoBulk d + uptoBulkAll r
def uptoBulkEntries {H : Type} : List (Lit × DataW H) → Nat
  | [] => 0
  | x :: r => uptoBulkEntry x + uptoBulkEntries r
def uptoBulkEntry {H : Type} : Lit × DataW H → Nat
  | (.string bytes, d) => bytes.length + uptoBulk d + 1
  | (_, d) => uptoBulk d + 1
 end
def uptoSmall : (H : Type) → List (DataW H) → Bool := fun _ ds => decide (uptoBulkAll ds ≤ 1048576)
def OpenSpec.upto (s : _root_.Go.ChangeSpec) : _root_.Go.OpenSpec := { _root_.Go.OpenSpec.ofChange s with cond := some uptoSmall }

/-- 'gaugehouselaw.DeltaPacks', WHERE WHAT IT READS IS OF BULK AT MOST 1048576: true; the input reads as it did. -/
def deltaPacksUptoRow : OpenClaim := { program := "ytlejpbghakaooaadoor", sum := "e1560596edde0bf3f3981fd955c00f324054fd26f5a49b014b3030e848a80be5", func := "gaugehouse/gaugehouselaw.DeltaPacks", spec := "deltaPacks", named := ["gaugehouse/delta.shapes"], apart := false, laid := [("gaugehouse/delta.shapes", laid_gaugehouse_delta_shapes)], narrowed := true }
def DeltaPacksUptoSaid : Prop := deltaPacksUptoRow.holds Tryd.pinned (OpenSpec.upto deltaPacksSpec)

/-- 'gaugehouselaw.DeltaOpens', WHERE WHAT IT READS IS OF BULK AT MOST 1048576: true; the input reads as it did. -/
def deltaOpensUptoRow : OpenClaim := { program := "ytlejpbghakaooaadoor", sum := "e1560596edde0bf3f3981fd955c00f324054fd26f5a49b014b3030e848a80be5", func := "gaugehouse/gaugehouselaw.DeltaOpens", spec := "deltaOpens", unfollowed := true, recurses := true, named := ["gaugehouse/delta.shapes"], apart := false, laid := [("gaugehouse/delta.shapes", laid_gaugehouse_delta_shapes)], narrowed := true }
def DeltaOpensUptoSaid : Prop := deltaOpensUptoRow.holds Tryd.pinned (OpenSpec.upto deltaOpensSpec)

/-- 'gaugehousekeep.DeltaBack', WHERE WHAT IT READS IS OF BULK AT MOST 1048576: true; the input reads as it did. -/
def deltaBackUptoRow : OpenClaim := { program := "ytlejpbghakaooaadoor", sum := "e1560596edde0bf3f3981fd955c00f324054fd26f5a49b014b3030e848a80be5", func := "gaugehouse/gaugehousekeep.DeltaBack", spec := "deltaBack", named := ["gaugehouse/delta.shapes"], apart := false, laid := [("gaugehouse/delta.shapes", laid_gaugehouse_delta_shapes)], narrowed := true }
def DeltaBackUptoSaid : Prop := deltaBackUptoRow.holds Tryd.pinned (OpenSpec.upto deltaBackSpec)

/-- 'gaugehousekeep.DeltaOne', WHERE WHAT IT READS IS OF BULK AT MOST 1048576: true; the input reads as it did. -/
def deltaOneUptoRow : OpenClaim := { program := "ytlejpbghakaooaadoor", sum := "e1560596edde0bf3f3981fd955c00f324054fd26f5a49b014b3030e848a80be5", func := "gaugehouse/gaugehousekeep.DeltaOne", spec := "deltaOne", named := ["gaugehouse/delta.shapes"], apart := false, laid := [("gaugehouse/delta.shapes", laid_gaugehouse_delta_shapes)], narrowed := true }
def DeltaOneUptoSaid : Prop := deltaOneUptoRow.holds Tryd.pinned (OpenSpec.upto deltaOneSpec)

/-- 'gaugehousekeep.DeltaSteady', WHERE WHAT IT READS IS OF BULK AT MOST 1048576: true; the input reads as it did. -/
def deltaSteadyUptoRow : OpenClaim := { program := "ytlejpbghakaooaadoor", sum := "e1560596edde0bf3f3981fd955c00f324054fd26f5a49b014b3030e848a80be5", func := "gaugehouse/gaugehousekeep.DeltaSteady", spec := "deltaSteady", unfollowed := true, recurses := true, named := ["gaugehouse/delta.shapes"], apart := false, laid := [("gaugehouse/delta.shapes", laid_gaugehouse_delta_shapes)], narrowed := true }
def DeltaSteadyUptoSaid : Prop := deltaSteadyUptoRow.holds Tryd.pinned (OpenSpec.upto deltaSteadySpec)

/-- 'gaugehousekeep.DeltaMoved', WHERE WHAT IT READS IS OF BULK AT MOST 1048576: true; the input reads as it did. -/
def deltaMovedUptoRow : OpenClaim := { program := "ytlejpbghakaooaadoor", sum := "e1560596edde0bf3f3981fd955c00f324054fd26f5a49b014b3030e848a80be5", func := "gaugehouse/gaugehousekeep.DeltaMoved", spec := "deltaMoved", named := ["gaugehouse/delta.shapes"], apart := false, laid := [("gaugehouse/delta.shapes", laid_gaugehouse_delta_shapes)], narrowed := true }
def DeltaMovedUptoSaid : Prop := deltaMovedUptoRow.holds Tryd.pinned (OpenSpec.upto deltaMovedSpec)

end Rows
end Go.Proofs.YtlejpbghakaooaaDoor
