/-
  No cell of these rows narrows 'for every input' (looked for: loops, veiled, ifaces, maps, wideKeys, modest, calm, conditions, laid).
  DERIVED. THE GIVEN ROWS OF THIS SEAT. 3 by the template 'for every input the law returns true; each argument reads behind the call as it read before'; 0 by the template 'total and deterministic' (their statements: YtlndbmenaaiogabTotals.lean).
  GIVEN WITH THE SEED: the statements are not yours to turn. If you find one false, say at which input.
  Laid BY PROGRAM, IN A SANDBOX (cutbox-rows.mjs): the forced cells as the released guide's own fill.sh prints them over the translation 45c4a6ad4857fbc0… (all of the seat's roots in one cut). By AI agents, Wed Nov 11 2026. No macro, syntax, notation, axiom, sorry.
-/
import Derived.Test.YtlndbmenaaiogabChecked
import GoSem.Claim
import GoSem.ClaimJoined
import GoSem.ClaimMapViews
import Derived.JoinedTies
import Derived.KernelRfl
namespace Go.Proofs.Ytlndbmenaaiogab
/- THE CELL 'sum', in the pinned program and in every row, IS THE sha256 OF THE DUMP (.gsa) THAT YtlndbmenaaiogabProg.lean LOADS. Nothing in Lean hashes anything: it is a label: what it is worth is what the hold of that sum in a sandbox is worth. -/
noncomputable def Try.pinned : Pinned := { name := "ytlndbmenaaiogab", sum := "45c4a6ad4857fbc06c8c53bd7fc925d9d76a7b5c0569ca74ee92a2ed550db34a", checked := Try.checked }
namespace Rows
def none {H : Type} : Left H := { results := [], args := [] }

/-- 'gaugehousekeep.RankMerged': WHATEVER THE INPUT: true; the input reads as it did. -/
def rankMergedSpec : ChangeSpec := { name := "rankMerged", fn := fun _ => fun
  | [d1, d2, d3, d4] => { results := [.lit (.bool true)], args := [d1, d2, d3, d4] }
  | _ => none }
def rankMergedRow : OpenClaim := { program := "ytlndbmenaaiogab", sum := "45c4a6ad4857fbc06c8c53bd7fc925d9d76a7b5c0569ca74ee92a2ed550db34a", func := "gaugehouse/gaugehousekeep.RankMerged", spec := "rankMerged", inPlace := ["slices.overlaps[int64]"], unfollowed := true, recurses := true, apart := false }
def RankMergedSaid : Prop := rankMergedRow.holds Try.pinned (OpenSpec.ofChange rankMergedSpec)

/-- ITS FALSE NEIGHBOUR: 'it returns false'. Refute it at one input. -/
def rankMergedWrong : ChangeSpec := { name := "rankMerged", fn := fun _ => fun
  | [d1, d2, d3, d4] => { results := [.lit (.bool false)], args := [d1, d2, d3, d4] }
  | _ => none }
def RankMergedWrongFalsely : Prop := rankMergedRow.holds Try.pinned (OpenSpec.ofChange rankMergedWrong)

/-- 'gaugehousekeep.RankOrder': WHATEVER THE INPUT: true; the input reads as it did. -/
def rankOrderSpec : ChangeSpec := { name := "rankOrder", fn := fun _ => fun
  | [d1, d2, d3] => { results := [.lit (.bool true)], args := [d1, d2, d3] }
  | _ => none }
def rankOrderRow : OpenClaim := { program := "ytlndbmenaaiogab", sum := "45c4a6ad4857fbc06c8c53bd7fc925d9d76a7b5c0569ca74ee92a2ed550db34a", func := "gaugehouse/gaugehousekeep.RankOrder", spec := "rankOrder", unfollowed := true, recurses := true, apart := false }
def RankOrderSaid : Prop := rankOrderRow.holds Try.pinned (OpenSpec.ofChange rankOrderSpec)

/-- ITS FALSE NEIGHBOUR: 'it returns false'. Refute it at one input. -/
def rankOrderWrong : ChangeSpec := { name := "rankOrder", fn := fun _ => fun
  | [d1, d2, d3] => { results := [.lit (.bool false)], args := [d1, d2, d3] }
  | _ => none }
def RankOrderWrongFalsely : Prop := rankOrderRow.holds Try.pinned (OpenSpec.ofChange rankOrderWrong)

/-- 'gaugehousekeep.RankWeight': WHATEVER THE INPUT: true; the input reads as it did. -/
def rankWeightSpec : ChangeSpec := { name := "rankWeight", fn := fun _ => fun
  | [d1, d2, d3] => { results := [.lit (.bool true)], args := [d1, d2, d3] }
  | _ => none }
def rankWeightRow : OpenClaim := { program := "ytlndbmenaaiogab", sum := "45c4a6ad4857fbc06c8c53bd7fc925d9d76a7b5c0569ca74ee92a2ed550db34a", func := "gaugehouse/gaugehousekeep.RankWeight", spec := "rankWeight", unfollowed := true, recurses := true, apart := false }
def RankWeightSaid : Prop := rankWeightRow.holds Try.pinned (OpenSpec.ofChange rankWeightSpec)

/-- ITS FALSE NEIGHBOUR: 'it returns false'. Refute it at one input. -/
def rankWeightWrong : ChangeSpec := { name := "rankWeight", fn := fun _ => fun
  | [d1, d2, d3] => { results := [.lit (.bool false)], args := [d1, d2, d3] }
  | _ => none }
def RankWeightWrongFalsely : Prop := rankWeightRow.holds Try.pinned (OpenSpec.ofChange rankWeightWrong)

/- THE SECOND FORM. 'bulk': how many values and letters a reading holds, each counted each time it is reached (what is shared counts as often as it is met; a slice's spare places count too). A statement '..UptoSaid' is the law's where the arguments, and the package variables that the reading takes, are together of bulk at most 1048576: NARROWER than '..Said'. Prove '..Said' where nothing that the law and all that it calls make is longer than what came in: it says more and counts as full. Else prove '..UptoSaid'. A law counts once. -/
mutual
def uptoBulk {H : Type} : DataW H → Nat
  | .lit (.string bytes) => bytes.length + 1
  | .lit _ => 1
  | .nil => 1
  | .ptr d => uptoBulk d + 1
  | .slice elems spare => uptoBulkAll elems + uptoBulkAll spare + 1
  | .agg parts => uptoBulkAll parts + 1
  | .iface _ d => uptoBulk d + 1
  | .map entries => uptoBulkEntries entries + 1
  | .held _ => 1
def uptoBulkAll {H : Type} : List (DataW H) → Nat
  | [] => 0
  | d :: r => uptoBulk d + uptoBulkAll r
def uptoBulkEntries {H : Type} : List (Lit × DataW H) → Nat
  | [] => 0
  | x :: r => uptoBulkEntry x + uptoBulkEntries r
def uptoBulkEntry {H : Type} : Lit × DataW H → Nat
  | (.string bytes, d) => bytes.length + uptoBulk d + 1
  | (_, d) => uptoBulk d + 1
 end
def uptoSmall : (H : Type) → List (DataW H) → Bool := fun _ ds => decide (uptoBulkAll ds ≤ 1048576)
def OpenSpec.upto (s : _root_.Go.ChangeSpec) : _root_.Go.OpenSpec := { _root_.Go.OpenSpec.ofChange s with cond := some uptoSmall }

/-- 'gaugehousekeep.RankMerged', WHERE WHAT IT READS IS OF BULK AT MOST 1048576: true; the input reads as it did. -/
def rankMergedUptoRow : OpenClaim := { program := "ytlndbmenaaiogab", sum := "45c4a6ad4857fbc06c8c53bd7fc925d9d76a7b5c0569ca74ee92a2ed550db34a", func := "gaugehouse/gaugehousekeep.RankMerged", spec := "rankMerged", inPlace := ["slices.overlaps[int64]"], unfollowed := true, recurses := true, apart := false, narrowed := true }
def RankMergedUptoSaid : Prop := rankMergedUptoRow.holds Try.pinned (OpenSpec.upto rankMergedSpec)

/-- 'gaugehousekeep.RankOrder', WHERE WHAT IT READS IS OF BULK AT MOST 1048576: true; the input reads as it did. -/
def rankOrderUptoRow : OpenClaim := { program := "ytlndbmenaaiogab", sum := "45c4a6ad4857fbc06c8c53bd7fc925d9d76a7b5c0569ca74ee92a2ed550db34a", func := "gaugehouse/gaugehousekeep.RankOrder", spec := "rankOrder", unfollowed := true, recurses := true, apart := false, narrowed := true }
def RankOrderUptoSaid : Prop := rankOrderUptoRow.holds Try.pinned (OpenSpec.upto rankOrderSpec)

/-- 'gaugehousekeep.RankWeight', WHERE WHAT IT READS IS OF BULK AT MOST 1048576: true; the input reads as it did. -/
def rankWeightUptoRow : OpenClaim := { program := "ytlndbmenaaiogab", sum := "45c4a6ad4857fbc06c8c53bd7fc925d9d76a7b5c0569ca74ee92a2ed550db34a", func := "gaugehouse/gaugehousekeep.RankWeight", spec := "rankWeight", unfollowed := true, recurses := true, apart := false, narrowed := true }
def RankWeightUptoSaid : Prop := rankWeightUptoRow.holds Try.pinned (OpenSpec.upto rankWeightSpec)

end Rows
end Go.Proofs.Ytlndbmenaaiogab
