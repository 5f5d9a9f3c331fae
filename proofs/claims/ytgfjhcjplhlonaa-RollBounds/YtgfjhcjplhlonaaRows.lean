/-
  No cell of these rows narrows 'for every input' (looked for: loops, veiled, ifaces, maps, wideKeys, modest, calm, conditions, laid).
  DERIVED. THE GIVEN ROWS OF THIS SEAT. 6 by the template 'for every input the law returns true; each argument reads behind the call as it read before'; 0 by the template 'total and deterministic' (their statements: YtgfjhcjplhlonaaTotals.lean).
  GIVEN WITH THE SEED: the statements are not yours to turn. If you find one false, say at which input.
  Laid BY PROGRAM, IN A SANDBOX (cutbox-rows.mjs): the forced cells as the released guide's own fill.sh prints them over the translation 3c302fb6f887cb8b… (all of the seat's roots in one cut). By AI agents, Wed Nov 11 2026. No macro, syntax, notation, axiom, sorry.
-/
import Derived.Test.YtgfjhcjplhlonaaChecked
import GoSem.Claim
import GoSem.ClaimJoined
import GoSem.ClaimMapViews
import Derived.JoinedTies
import Derived.KernelRfl
namespace Go.Proofs.Ytgfjhcjplhlonaa
/- THE CELL 'sum', in the pinned program and in every row, IS THE sha256 OF THE DUMP (.gsa) THAT YtgfjhcjplhlonaaProg.lean LOADS. Nothing in Lean hashes anything: it is a label: what it is worth is what the hold of that sum in a sandbox is worth. -/
noncomputable def Try.pinned : Pinned := { name := "ytgfjhcjplhlonaa", sum := "3c302fb6f887cb8be9c8905626d2aa4f641320fd6219558d47d31bebbf29306d", checked := Try.checked }
namespace Rows
def none {H : Type} : Left H := { results := [], args := [] }

/-- 'gaugehouselaw.RollTells': WHATEVER THE INPUT: true; the input reads as it did. -/
def rollTellsSpec : ChangeSpec := { name := "rollTells", fn := fun _ => fun
  | [d1, d2] => { results := [.lit (.bool true)], args := [d1, d2] }
  | _ => none }
def rollTellsRow : OpenClaim := { program := "ytgfjhcjplhlonaa", sum := "3c302fb6f887cb8be9c8905626d2aa4f641320fd6219558d47d31bebbf29306d", func := "gaugehouse/gaugehouselaw.RollTells", spec := "rollTells", apart := false }
def RollTellsSaid : Prop := rollTellsRow.holds Try.pinned (OpenSpec.ofChange rollTellsSpec)

/-- ITS FALSE NEIGHBOUR: 'it returns false'. Refute it at one input. -/
def rollTellsWrong : ChangeSpec := { name := "rollTells", fn := fun _ => fun
  | [d1, d2] => { results := [.lit (.bool false)], args := [d1, d2] }
  | _ => none }
def RollTellsWrongFalsely : Prop := rollTellsRow.holds Try.pinned (OpenSpec.ofChange rollTellsWrong)

/-- 'gaugehousekeep.RollAgain': WHATEVER THE INPUT: true; the input reads as it did. -/
def rollAgainSpec : ChangeSpec := { name := "rollAgain", fn := fun _ => fun
  | [d1, d2, d3] => { results := [.lit (.bool true)], args := [d1, d2, d3] }
  | _ => none }
def rollAgainRow : OpenClaim := { program := "ytgfjhcjplhlonaa", sum := "3c302fb6f887cb8be9c8905626d2aa4f641320fd6219558d47d31bebbf29306d", func := "gaugehouse/gaugehousekeep.RollAgain", spec := "rollAgain", unfollowed := true, recurses := true, apart := false }
def RollAgainSaid : Prop := rollAgainRow.holds Try.pinned (OpenSpec.ofChange rollAgainSpec)

/-- ITS FALSE NEIGHBOUR: 'it returns false'. Refute it at one input. -/
def rollAgainWrong : ChangeSpec := { name := "rollAgain", fn := fun _ => fun
  | [d1, d2, d3] => { results := [.lit (.bool false)], args := [d1, d2, d3] }
  | _ => none }
def RollAgainWrongFalsely : Prop := rollAgainRow.holds Try.pinned (OpenSpec.ofChange rollAgainWrong)

/-- 'gaugehousekeep.RollJoin': WHATEVER THE INPUT: true; the input reads as it did. -/
def rollJoinSpec : ChangeSpec := { name := "rollJoin", fn := fun _ => fun
  | [d1, d2, d3] => { results := [.lit (.bool true)], args := [d1, d2, d3] }
  | _ => none }
def rollJoinRow : OpenClaim := { program := "ytgfjhcjplhlonaa", sum := "3c302fb6f887cb8be9c8905626d2aa4f641320fd6219558d47d31bebbf29306d", func := "gaugehouse/gaugehousekeep.RollJoin", spec := "rollJoin", unfollowed := true, recurses := true, apart := false }
def RollJoinSaid : Prop := rollJoinRow.holds Try.pinned (OpenSpec.ofChange rollJoinSpec)

/-- ITS FALSE NEIGHBOUR: 'it returns false'. Refute it at one input. -/
def rollJoinWrong : ChangeSpec := { name := "rollJoin", fn := fun _ => fun
  | [d1, d2, d3] => { results := [.lit (.bool false)], args := [d1, d2, d3] }
  | _ => none }
def RollJoinWrongFalsely : Prop := rollJoinRow.holds Try.pinned (OpenSpec.ofChange rollJoinWrong)

/-- 'gaugehousekeep.RollCounts': WHATEVER THE INPUT: true; the input reads as it did. -/
def rollCountsSpec : ChangeSpec := { name := "rollCounts", fn := fun _ => fun
  | [d1, d2] => { results := [.lit (.bool true)], args := [d1, d2] }
  | _ => none }
def rollCountsRow : OpenClaim := { program := "ytgfjhcjplhlonaa", sum := "3c302fb6f887cb8be9c8905626d2aa4f641320fd6219558d47d31bebbf29306d", func := "gaugehouse/gaugehousekeep.RollCounts", spec := "rollCounts", apart := false }
def RollCountsSaid : Prop := rollCountsRow.holds Try.pinned (OpenSpec.ofChange rollCountsSpec)

/-- ITS FALSE NEIGHBOUR: 'it returns false'. Refute it at one input. -/
def rollCountsWrong : ChangeSpec := { name := "rollCounts", fn := fun _ => fun
  | [d1, d2] => { results := [.lit (.bool false)], args := [d1, d2] }
  | _ => none }
def RollCountsWrongFalsely : Prop := rollCountsRow.holds Try.pinned (OpenSpec.ofChange rollCountsWrong)

/-- 'gaugehousekeep.RollBounds': WHATEVER THE INPUT: true; the input reads as it did. -/
def rollBoundsSpec : ChangeSpec := { name := "rollBounds", fn := fun _ => fun
  | [d1, d2] => { results := [.lit (.bool true)], args := [d1, d2] }
  | _ => none }
def rollBoundsRow : OpenClaim := { program := "ytgfjhcjplhlonaa", sum := "3c302fb6f887cb8be9c8905626d2aa4f641320fd6219558d47d31bebbf29306d", func := "gaugehouse/gaugehousekeep.RollBounds", spec := "rollBounds", apart := false }
def RollBoundsSaid : Prop := rollBoundsRow.holds Try.pinned (OpenSpec.ofChange rollBoundsSpec)

/-- ITS FALSE NEIGHBOUR: 'it returns false'. Refute it at one input. -/
def rollBoundsWrong : ChangeSpec := { name := "rollBounds", fn := fun _ => fun
  | [d1, d2] => { results := [.lit (.bool false)], args := [d1, d2] }
  | _ => none }
def RollBoundsWrongFalsely : Prop := rollBoundsRow.holds Try.pinned (OpenSpec.ofChange rollBoundsWrong)

/-- 'gaugehouselaw.RollWider': WHATEVER THE INPUT: true; the input reads as it did. -/
def rollWiderSpec : ChangeSpec := { name := "rollWider", fn := fun _ => fun
  | [d1, d2, d3] => { results := [.lit (.bool true)], args := [d1, d2, d3] }
  | _ => none }
def rollWiderRow : OpenClaim := { program := "ytgfjhcjplhlonaa", sum := "3c302fb6f887cb8be9c8905626d2aa4f641320fd6219558d47d31bebbf29306d", func := "gaugehouse/gaugehouselaw.RollWider", spec := "rollWider", apart := false }
def RollWiderSaid : Prop := rollWiderRow.holds Try.pinned (OpenSpec.ofChange rollWiderSpec)

/-- ITS FALSE NEIGHBOUR: 'it returns false'. Refute it at one input. -/
def rollWiderWrong : ChangeSpec := { name := "rollWider", fn := fun _ => fun
  | [d1, d2, d3] => { results := [.lit (.bool false)], args := [d1, d2, d3] }
  | _ => none }
def RollWiderWrongFalsely : Prop := rollWiderRow.holds Try.pinned (OpenSpec.ofChange rollWiderWrong)

/- THE SECOND FORM. 'bulk': how many values and letters a reading holds, each counted each time it is reached (what is shared counts as often as it is met; a slice's spare places count too). A statement '..UptoSaid' is the law's where the arguments, and the package variables that the reading takes, are together of bulk at most 1048576: NARROWER than '..Said'. Prove '..Said' where nothing that the law and all that it calls make is longer than what came in: it says more and counts as full. Else prove '..UptoSaid'. A law counts once. -/
mutual
def uptoBulk {H : Type} : DataW H → Nat
  | .lit (.string bytes) => bytes.length + 1
  | .lit _ => 1
  | .nil => 1
  | .ptr d => uptoBulk d + 1
  | .slice elems spare => uptoBulkAll elems + uptoBulkAll spare + 1
  | .agg parts => uptoBulkAll parts + 1
  | .iface _ d => uptoBulk d + 1
  | .map entries => uptoBulkEntries entries + 1
  | .held _ => 1
def uptoBulkAll {H : Type} : List (DataW H) → Nat
  | [] => 0
  | d :: r => uptoBulk d + uptoBulkAll r
def uptoBulkEntries {H : Type} : List (Lit × DataW H) → Nat
  | [] => 0
  | x :: r => uptoBulkEntry x + uptoBulkEntries r
def uptoBulkEntry {H : Type} : Lit × DataW H → Nat
  | (.string bytes, d) => bytes.length + uptoBulk d + 1
  | (_, d) => uptoBulk d + 1
 end
def uptoSmall : (H : Type) → List (DataW H) → Bool := fun _ ds => decide (uptoBulkAll ds ≤ 1048576)
def OpenSpec.upto (s : _root_.Go.ChangeSpec) : _root_.Go.OpenSpec := { _root_.Go.OpenSpec.ofChange s with cond := some uptoSmall }

/-- 'gaugehouselaw.RollTells', WHERE WHAT IT READS IS OF BULK AT MOST 1048576: true; the input reads as it did. -/
def rollTellsUptoRow : OpenClaim := { program := "ytgfjhcjplhlonaa", sum := "3c302fb6f887cb8be9c8905626d2aa4f641320fd6219558d47d31bebbf29306d", func := "gaugehouse/gaugehouselaw.RollTells", spec := "rollTells", apart := false, narrowed := true }
def RollTellsUptoSaid : Prop := rollTellsUptoRow.holds Try.pinned (OpenSpec.upto rollTellsSpec)

/-- 'gaugehousekeep.RollAgain', WHERE WHAT IT READS IS OF BULK AT MOST 1048576: true; the input reads as it did. -/
def rollAgainUptoRow : OpenClaim := { program := "ytgfjhcjplhlonaa", sum := "3c302fb6f887cb8be9c8905626d2aa4f641320fd6219558d47d31bebbf29306d", func := "gaugehouse/gaugehousekeep.RollAgain", spec := "rollAgain", unfollowed := true, recurses := true, apart := false, narrowed := true }
def RollAgainUptoSaid : Prop := rollAgainUptoRow.holds Try.pinned (OpenSpec.upto rollAgainSpec)

/-- 'gaugehousekeep.RollJoin', WHERE WHAT IT READS IS OF BULK AT MOST 1048576: true; the input reads as it did. -/
def rollJoinUptoRow : OpenClaim := { program := "ytgfjhcjplhlonaa", sum := "3c302fb6f887cb8be9c8905626d2aa4f641320fd6219558d47d31bebbf29306d", func := "gaugehouse/gaugehousekeep.RollJoin", spec := "rollJoin", unfollowed := true, recurses := true, apart := false, narrowed := true }
def RollJoinUptoSaid : Prop := rollJoinUptoRow.holds Try.pinned (OpenSpec.upto rollJoinSpec)

/-- 'gaugehousekeep.RollCounts', WHERE WHAT IT READS IS OF BULK AT MOST 1048576: true; the input reads as it did. -/
def rollCountsUptoRow : OpenClaim := { program := "ytgfjhcjplhlonaa", sum := "3c302fb6f887cb8be9c8905626d2aa4f641320fd6219558d47d31bebbf29306d", func := "gaugehouse/gaugehousekeep.RollCounts", spec := "rollCounts", apart := false, narrowed := true }
def RollCountsUptoSaid : Prop := rollCountsUptoRow.holds Try.pinned (OpenSpec.upto rollCountsSpec)

/-- 'gaugehousekeep.RollBounds', WHERE WHAT IT READS IS OF BULK AT MOST 1048576: true; the input reads as it did. -/
def rollBoundsUptoRow : OpenClaim := { program := "ytgfjhcjplhlonaa", sum := "3c302fb6f887cb8be9c8905626d2aa4f641320fd6219558d47d31bebbf29306d", func := "gaugehouse/gaugehousekeep.RollBounds", spec := "rollBounds", apart := false, narrowed := true }
def RollBoundsUptoSaid : Prop := rollBoundsUptoRow.holds Try.pinned (OpenSpec.upto rollBoundsSpec)

/-- 'gaugehouselaw.RollWider', WHERE WHAT IT READS IS OF BULK AT MOST 1048576: true; the input reads as it did. -/
def rollWiderUptoRow : OpenClaim := { program := "ytgfjhcjplhlonaa", sum := "3c302fb6f887cb8be9c8905626d2aa4f641320fd6219558d47d31bebbf29306d", func := "gaugehouse/gaugehouselaw.RollWider", spec := "rollWider", apart := false, narrowed := true }
def RollWiderUptoSaid : Prop := rollWiderUptoRow.holds Try.pinned (OpenSpec.upto rollWiderSpec)

end Rows
end Go.Proofs.Ytgfjhcjplhlonaa
