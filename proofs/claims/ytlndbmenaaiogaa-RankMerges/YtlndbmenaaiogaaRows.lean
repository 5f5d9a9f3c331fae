/-
  No cell of these rows narrows 'for every input' (looked for: loops, veiled, ifaces, maps, wideKeys, modest, calm, conditions, laid).
  DERIVED. THE GIVEN ROWS OF THIS SEAT. 6 by the template 'for every input the law returns true; each argument reads behind the call as it read before'; 0 by the template 'total and deterministic' (their statements: YtlndbmenaaiogaaTotals.lean).
  GIVEN WITH THE SEED: the statements are not yours to turn. If you find one false, say at which input.
  Laid BY PROGRAM, IN A SANDBOX (cutbox-rows.mjs): the forced cells as the released guide's own fill.sh prints them over the translation fc80db1bc6b51376… (all of the seat's roots in one cut). By AI agents, Wed Nov 11 2026. No macro, syntax, notation, axiom, sorry.
-/
import Derived.Test.YtlndbmenaaiogaaChecked
import GoSem.Claim
import GoSem.ClaimJoined
import GoSem.ClaimMapViews
import Derived.JoinedTies
import Derived.KernelRfl
namespace Go.Proofs.Ytlndbmenaaiogaa
/- THE CELL 'sum', in the pinned program and in every row, IS THE sha256 OF THE DUMP (.gsa) THAT YtlndbmenaaiogaaProg.lean LOADS. Nothing in Lean hashes anything: it is a label: what it is worth is what the hold of that sum in a sandbox is worth. -/
noncomputable def Try.pinned : Pinned := { name := "ytlndbmenaaiogaa", sum := "fc80db1bc6b513761a6825ae74a81f5d5eeec7d30fa9217e4a44099e49dc8920", checked := Try.checked }
namespace Rows
def none {H : Type} : Left H := { results := [], args := [] }

/-- 'gaugehouselaw.RankAdds': WHATEVER THE INPUT: true; the input reads as it did. -/
def rankAddsSpec : ChangeSpec := { name := "rankAdds", fn := fun _ => fun
  | [d1, d2, d3] => { results := [.lit (.bool true)], args := [d1, d2, d3] }
  | _ => none }
def rankAddsRow : OpenClaim := { program := "ytlndbmenaaiogaa", sum := "fc80db1bc6b513761a6825ae74a81f5d5eeec7d30fa9217e4a44099e49dc8920", func := "gaugehouse/gaugehouselaw.RankAdds", spec := "rankAdds", inPlace := ["slices.overlaps[int64]"], recurses := true, apart := false }
def RankAddsSaid : Prop := rankAddsRow.holds Try.pinned (OpenSpec.ofChange rankAddsSpec)

/-- ITS FALSE NEIGHBOUR: 'it returns false'. Refute it at one input. -/
def rankAddsWrong : ChangeSpec := { name := "rankAdds", fn := fun _ => fun
  | [d1, d2, d3] => { results := [.lit (.bool false)], args := [d1, d2, d3] }
  | _ => none }
def RankAddsWrongFalsely : Prop := rankAddsRow.holds Try.pinned (OpenSpec.ofChange rankAddsWrong)

/-- 'gaugehouselaw.RankMerges': WHATEVER THE INPUT: true; the input reads as it did. -/
def rankMergesSpec : ChangeSpec := { name := "rankMerges", fn := fun _ => fun
  | [d1, d2] => { results := [.lit (.bool true)], args := [d1, d2] }
  | _ => none }
def rankMergesRow : OpenClaim := { program := "ytlndbmenaaiogaa", sum := "fc80db1bc6b513761a6825ae74a81f5d5eeec7d30fa9217e4a44099e49dc8920", func := "gaugehouse/gaugehouselaw.RankMerges", spec := "rankMerges", inPlace := ["slices.overlaps[int64]"], recurses := true, apart := false }
def RankMergesSaid : Prop := rankMergesRow.holds Try.pinned (OpenSpec.ofChange rankMergesSpec)

/-- ITS FALSE NEIGHBOUR: 'it returns false'. Refute it at one input. -/
def rankMergesWrong : ChangeSpec := { name := "rankMerges", fn := fun _ => fun
  | [d1, d2] => { results := [.lit (.bool false)], args := [d1, d2] }
  | _ => none }
def RankMergesWrongFalsely : Prop := rankMergesRow.holds Try.pinned (OpenSpec.ofChange rankMergesWrong)

/-- 'gaugehouselaw.RankAsks': WHATEVER THE INPUT: true; the input reads as it did. -/
def rankAsksSpec : ChangeSpec := { name := "rankAsks", fn := fun _ => fun
  | [d1, d2, d3] => { results := [.lit (.bool true)], args := [d1, d2, d3] }
  | _ => none }
def rankAsksRow : OpenClaim := { program := "ytlndbmenaaiogaa", sum := "fc80db1bc6b513761a6825ae74a81f5d5eeec7d30fa9217e4a44099e49dc8920", func := "gaugehouse/gaugehouselaw.RankAsks", spec := "rankAsks", unfollowed := true, recurses := true, apart := false }
def RankAsksSaid : Prop := rankAsksRow.holds Try.pinned (OpenSpec.ofChange rankAsksSpec)

/-- ITS FALSE NEIGHBOUR: 'it returns false'. Refute it at one input. -/
def rankAsksWrong : ChangeSpec := { name := "rankAsks", fn := fun _ => fun
  | [d1, d2, d3] => { results := [.lit (.bool false)], args := [d1, d2, d3] }
  | _ => none }
def RankAsksWrongFalsely : Prop := rankAsksRow.holds Try.pinned (OpenSpec.ofChange rankAsksWrong)

/-- 'gaugehousekeep.RankBound': WHATEVER THE INPUT: true; the input reads as it did. -/
def rankBoundSpec : ChangeSpec := { name := "rankBound", fn := fun _ => fun
  | [d1, d2, d3] => { results := [.lit (.bool true)], args := [d1, d2, d3] }
  | _ => none }
def rankBoundRow : OpenClaim := { program := "ytlndbmenaaiogaa", sum := "fc80db1bc6b513761a6825ae74a81f5d5eeec7d30fa9217e4a44099e49dc8920", func := "gaugehouse/gaugehousekeep.RankBound", spec := "rankBound", inPlace := ["slices.overlaps[int64]"], unfollowed := true, recurses := true, apart := false }
def RankBoundSaid : Prop := rankBoundRow.holds Try.pinned (OpenSpec.ofChange rankBoundSpec)

/-- ITS FALSE NEIGHBOUR: 'it returns false'. Refute it at one input. -/
def rankBoundWrong : ChangeSpec := { name := "rankBound", fn := fun _ => fun
  | [d1, d2, d3] => { results := [.lit (.bool false)], args := [d1, d2, d3] }
  | _ => none }
def RankBoundWrongFalsely : Prop := rankBoundRow.holds Try.pinned (OpenSpec.ofChange rankBoundWrong)

/-- 'gaugehousekeep.RankQuery': WHATEVER THE INPUT: true; the input reads as it did. -/
def rankQuerySpec : ChangeSpec := { name := "rankQuery", fn := fun _ => fun
  | [d1, d2, d3] => { results := [.lit (.bool true)], args := [d1, d2, d3] }
  | _ => none }
def rankQueryRow : OpenClaim := { program := "ytlndbmenaaiogaa", sum := "fc80db1bc6b513761a6825ae74a81f5d5eeec7d30fa9217e4a44099e49dc8920", func := "gaugehouse/gaugehousekeep.RankQuery", spec := "rankQuery", inPlace := ["slices.overlaps[int64]"], unfollowed := true, recurses := true, apart := false }
def RankQuerySaid : Prop := rankQueryRow.holds Try.pinned (OpenSpec.ofChange rankQuerySpec)

/-- ITS FALSE NEIGHBOUR: 'it returns false'. Refute it at one input. -/
def rankQueryWrong : ChangeSpec := { name := "rankQuery", fn := fun _ => fun
  | [d1, d2, d3] => { results := [.lit (.bool false)], args := [d1, d2, d3] }
  | _ => none }
def RankQueryWrongFalsely : Prop := rankQueryRow.holds Try.pinned (OpenSpec.ofChange rankQueryWrong)

/-- 'gaugehousekeep.RankSlack': WHATEVER THE INPUT: true; the input reads as it did. -/
def rankSlackSpec : ChangeSpec := { name := "rankSlack", fn := fun _ => fun
  | [d1, d2] => { results := [.lit (.bool true)], args := [d1, d2] }
  | _ => none }
def rankSlackRow : OpenClaim := { program := "ytlndbmenaaiogaa", sum := "fc80db1bc6b513761a6825ae74a81f5d5eeec7d30fa9217e4a44099e49dc8920", func := "gaugehouse/gaugehousekeep.RankSlack", spec := "rankSlack", inPlace := ["slices.overlaps[int64]"], recurses := true, apart := false }
def RankSlackSaid : Prop := rankSlackRow.holds Try.pinned (OpenSpec.ofChange rankSlackSpec)

/-- ITS FALSE NEIGHBOUR: 'it returns false'. Refute it at one input. -/
def rankSlackWrong : ChangeSpec := { name := "rankSlack", fn := fun _ => fun
  | [d1, d2] => { results := [.lit (.bool false)], args := [d1, d2] }
  | _ => none }
def RankSlackWrongFalsely : Prop := rankSlackRow.holds Try.pinned (OpenSpec.ofChange rankSlackWrong)

/- THE SECOND FORM. 'bulk': how many values and letters a reading holds, each counted each time it is reached (what is shared counts as often as it is met; a slice's spare places count too). A statement '..UptoSaid' is the law's where the arguments, and the package variables that the reading takes, are together of bulk at most 1048576: NARROWER than '..Said'. Prove '..Said' where nothing that the law and all that it calls make is longer than what came in: it says more and counts as full. Else prove '..UptoSaid'. A law counts once. -/
mutual
def uptoBulk {H : Type} : DataW H → Nat
  | .lit (.string bytes) => bytes.length + 1
  | .lit _ => 1
  | .nil => 1
  | .ptr d => uptoBulk d + 1
  | .slice elems spare => uptoBulkAll elems + uptoBulkAll spare + 1
  | .agg parts => uptoBulkAll parts + 1
  | .iface _ d => uptoBulk d + 1
  | .map entries => uptoBulkEntries entries + 1
  | .held _ => 1
def uptoBulkAll {H : Type} : List (DataW H) → Nat
  | [] => 0
  | d :: r => uptoBulk d + uptoBulkAll r
def uptoBulkEntries {H : Type} : List (Lit × DataW H) → Nat
  | [] => 0
  | x :: r => uptoBulkEntry x + uptoBulkEntries r
def uptoBulkEntry {H : Type} : Lit × DataW H → Nat
  | (.string bytes, d) => bytes.length + uptoBulk d + 1
  | (_, d) => uptoBulk d + 1
 end
def uptoSmall : (H : Type) → List (DataW H) → Bool := fun _ ds => decide (uptoBulkAll ds ≤ 1048576)
def OpenSpec.upto (s : _root_.Go.ChangeSpec) : _root_.Go.OpenSpec := { _root_.Go.OpenSpec.ofChange s with cond := some uptoSmall }

/-- 'gaugehouselaw.RankAdds', WHERE WHAT IT READS IS OF BULK AT MOST 1048576: true; the input reads as it did. -/
def rankAddsUptoRow : OpenClaim := { program := "ytlndbmenaaiogaa", sum := "fc80db1bc6b513761a6825ae74a81f5d5eeec7d30fa9217e4a44099e49dc8920", func := "gaugehouse/gaugehouselaw.RankAdds", spec := "rankAdds", inPlace := ["slices.overlaps[int64]"], recurses := true, apart := false, narrowed := true }
def RankAddsUptoSaid : Prop := rankAddsUptoRow.holds Try.pinned (OpenSpec.upto rankAddsSpec)

/-- 'gaugehouselaw.RankMerges', WHERE WHAT IT READS IS OF BULK AT MOST 1048576: true; the input reads as it did. -/
def rankMergesUptoRow : OpenClaim := { program := "ytlndbmenaaiogaa", sum := "fc80db1bc6b513761a6825ae74a81f5d5eeec7d30fa9217e4a44099e49dc8920", func := "gaugehouse/gaugehouselaw.RankMerges", spec := "rankMerges", inPlace := ["slices.overlaps[int64]"], recurses := true, apart := false, narrowed := true }
def RankMergesUptoSaid : Prop := rankMergesUptoRow.holds Try.pinned (OpenSpec.upto rankMergesSpec)

/-- 'gaugehouselaw.RankAsks', WHERE WHAT IT READS IS OF BULK AT MOST 1048576: true; the input reads as it did. -/
def rankAsksUptoRow : OpenClaim := { program := "ytlndbmenaaiogaa", sum := "fc80db1bc6b513761a6825ae74a81f5d5eeec7d30fa9217e4a44099e49dc8920", func := "gaugehouse/gaugehouselaw.RankAsks", spec := "rankAsks", unfollowed := true, recurses := true, apart := false, narrowed := true }
def RankAsksUptoSaid : Prop := rankAsksUptoRow.holds Try.pinned (OpenSpec.upto rankAsksSpec)

/-- 'gaugehousekeep.RankBound', WHERE WHAT IT READS IS OF BULK AT MOST 1048576: true; the input reads as it did. -/
def rankBoundUptoRow : OpenClaim := { program := "ytlndbmenaaiogaa", sum := "fc80db1bc6b513761a6825ae74a81f5d5eeec7d30fa9217e4a44099e49dc8920", func := "gaugehouse/gaugehousekeep.RankBound", spec := "rankBound", inPlace := ["slices.overlaps[int64]"], unfollowed := true, recurses := true, apart := false, narrowed := true }
def RankBoundUptoSaid : Prop := rankBoundUptoRow.holds Try.pinned (OpenSpec.upto rankBoundSpec)

/-- 'gaugehousekeep.RankQuery', WHERE WHAT IT READS IS OF BULK AT MOST 1048576: true; the input reads as it did. -/
def rankQueryUptoRow : OpenClaim := { program := "ytlndbmenaaiogaa", sum := "fc80db1bc6b513761a6825ae74a81f5d5eeec7d30fa9217e4a44099e49dc8920", func := "gaugehouse/gaugehousekeep.RankQuery", spec := "rankQuery", inPlace := ["slices.overlaps[int64]"], unfollowed := true, recurses := true, apart := false, narrowed := true }
def RankQueryUptoSaid : Prop := rankQueryUptoRow.holds Try.pinned (OpenSpec.upto rankQuerySpec)

/-- 'gaugehousekeep.RankSlack', WHERE WHAT IT READS IS OF BULK AT MOST 1048576: true; the input reads as it did. -/
def rankSlackUptoRow : OpenClaim := { program := "ytlndbmenaaiogaa", sum := "fc80db1bc6b513761a6825ae74a81f5d5eeec7d30fa9217e4a44099e49dc8920", func := "gaugehouse/gaugehousekeep.RankSlack", spec := "rankSlack", inPlace := ["slices.overlaps[int64]"], recurses := true, apart := false, narrowed := true }
def RankSlackUptoSaid : Prop := rankSlackUptoRow.holds Try.pinned (OpenSpec.upto rankSlackSpec)

end Rows
end Go.Proofs.Ytlndbmenaaiogaa
