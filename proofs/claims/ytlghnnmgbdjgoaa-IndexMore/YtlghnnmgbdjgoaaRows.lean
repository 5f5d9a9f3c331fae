/-
  No cell of these rows narrows 'for every input' (looked for: loops, veiled, ifaces, maps, wideKeys, modest, calm, conditions, laid).
  DERIVED. THE GIVEN ROWS OF THIS SEAT. 6 by the template 'for every input the law returns true; each argument reads behind the call as it read before'; 0 by the template 'total and deterministic' (their statements: YtlghnnmgbdjgoaaTotals.lean).
  GIVEN WITH THE SEED: the statements are not yours to turn. If you find one false, say at which input.
  Laid BY PROGRAM, IN A SANDBOX (cutbox-rows.mjs): the forced cells as the released guide's own fill.sh prints them over the translation ed941feb7ea48a08… (all of the seat's roots in one cut). By AI agents, Wed Nov 11 2026. No macro, syntax, notation, axiom, sorry.
-/
import Derived.Test.YtlghnnmgbdjgoaaChecked
import GoSem.Claim
import GoSem.ClaimJoined
import GoSem.ClaimMapViews
import Derived.JoinedTies
import Derived.KernelRfl
namespace Go.Proofs.Ytlghnnmgbdjgoaa
/- THE CELL 'sum', in the pinned program and in every row, IS THE sha256 OF THE DUMP (.gsa) THAT YtlghnnmgbdjgoaaProg.lean LOADS. Nothing in Lean hashes anything: it is a label: what it is worth is what the hold of that sum in a sandbox is worth. -/
noncomputable def Try.pinned : Pinned := { name := "ytlghnnmgbdjgoaa", sum := "ed941feb7ea48a08720d2e396387b8e7f9a17f85d0fdeaf56d5dffe808be7107", checked := Try.checked }
namespace Rows
def none {H : Type} : Left H := { results := [], args := [] }

/-- 'gaugehouselaw.IndexTells': WHATEVER THE INPUT: true; the input reads as it did. -/
def indexTellsSpec : ChangeSpec := { name := "indexTells", fn := fun _ => fun
  | [d1, d2, d3] => { results := [.lit (.bool true)], args := [d1, d2, d3] }
  | _ => none }
def indexTellsRow : OpenClaim := { program := "ytlghnnmgbdjgoaa", sum := "ed941feb7ea48a08720d2e396387b8e7f9a17f85d0fdeaf56d5dffe808be7107", func := "gaugehouse/gaugehouselaw.IndexTells", spec := "indexTells", inPlace := ["internal/bytealg.IndexByteString", "internal/bytealg.IndexString"], unfollowed := true, recurses := true, named := ["internal/bytealg.MaxLen"], apart := false }
def IndexTellsSaid : Prop := indexTellsRow.holds Try.pinned (OpenSpec.ofChange indexTellsSpec)

/-- ITS FALSE NEIGHBOUR: 'it returns false'. Refute it at one input. -/
def indexTellsWrong : ChangeSpec := { name := "indexTells", fn := fun _ => fun
  | [d1, d2, d3] => { results := [.lit (.bool false)], args := [d1, d2, d3] }
  | _ => none }
def IndexTellsWrongFalsely : Prop := indexTellsRow.holds Try.pinned (OpenSpec.ofChange indexTellsWrong)

/-- 'gaugehouselaw.IndexSets': WHATEVER THE INPUT: true; the input reads as it did. -/
def indexSetsSpec : ChangeSpec := { name := "indexSets", fn := fun _ => fun
  | [d1, d2, d3] => { results := [.lit (.bool true)], args := [d1, d2, d3] }
  | _ => none }
def indexSetsRow : OpenClaim := { program := "ytlghnnmgbdjgoaa", sum := "ed941feb7ea48a08720d2e396387b8e7f9a17f85d0fdeaf56d5dffe808be7107", func := "gaugehouse/gaugehouselaw.IndexSets", spec := "indexSets", recurses := true, apart := false }
def IndexSetsSaid : Prop := indexSetsRow.holds Try.pinned (OpenSpec.ofChange indexSetsSpec)

/-- ITS FALSE NEIGHBOUR: 'it returns false'. Refute it at one input. -/
def indexSetsWrong : ChangeSpec := { name := "indexSets", fn := fun _ => fun
  | [d1, d2, d3] => { results := [.lit (.bool false)], args := [d1, d2, d3] }
  | _ => none }
def IndexSetsWrongFalsely : Prop := indexSetsRow.holds Try.pinned (OpenSpec.ofChange indexSetsWrong)

/-- 'gaugehousekeep.IndexFilter': WHATEVER THE INPUT: true; the input reads as it did. -/
def indexFilterSpec : ChangeSpec := { name := "indexFilter", fn := fun _ => fun
  | [d1, d2] => { results := [.lit (.bool true)], args := [d1, d2] }
  | _ => none }
def indexFilterRow : OpenClaim := { program := "ytlghnnmgbdjgoaa", sum := "ed941feb7ea48a08720d2e396387b8e7f9a17f85d0fdeaf56d5dffe808be7107", func := "gaugehouse/gaugehousekeep.IndexFilter", spec := "indexFilter", inPlace := ["internal/bytealg.IndexByteString", "internal/bytealg.IndexString"], recurses := true, named := ["internal/bytealg.MaxLen"], apart := false }
def IndexFilterSaid : Prop := indexFilterRow.holds Try.pinned (OpenSpec.ofChange indexFilterSpec)

/-- ITS FALSE NEIGHBOUR: 'it returns false'. Refute it at one input. -/
def indexFilterWrong : ChangeSpec := { name := "indexFilter", fn := fun _ => fun
  | [d1, d2] => { results := [.lit (.bool false)], args := [d1, d2] }
  | _ => none }
def IndexFilterWrongFalsely : Prop := indexFilterRow.holds Try.pinned (OpenSpec.ofChange indexFilterWrong)

/-- 'gaugehousekeep.IndexMore': WHATEVER THE INPUT: true; the input reads as it did. -/
def indexMoreSpec : ChangeSpec := { name := "indexMore", fn := fun _ => fun
  | [d1, d2, d3, d4] => { results := [.lit (.bool true)], args := [d1, d2, d3, d4] }
  | _ => none }
def indexMoreRow : OpenClaim := { program := "ytlghnnmgbdjgoaa", sum := "ed941feb7ea48a08720d2e396387b8e7f9a17f85d0fdeaf56d5dffe808be7107", func := "gaugehouse/gaugehousekeep.IndexMore", spec := "indexMore", inPlace := ["internal/bytealg.IndexByteString", "internal/bytealg.IndexString"], unfollowed := true, recurses := true, named := ["internal/bytealg.MaxLen"], apart := false }
def IndexMoreSaid : Prop := indexMoreRow.holds Try.pinned (OpenSpec.ofChange indexMoreSpec)

/-- ITS FALSE NEIGHBOUR: 'it returns false'. Refute it at one input. -/
def indexMoreWrong : ChangeSpec := { name := "indexMore", fn := fun _ => fun
  | [d1, d2, d3, d4] => { results := [.lit (.bool false)], args := [d1, d2, d3, d4] }
  | _ => none }
def IndexMoreWrongFalsely : Prop := indexMoreRow.holds Try.pinned (OpenSpec.ofChange indexMoreWrong)

/-- 'gaugehousekeep.IndexBoole': WHATEVER THE INPUT: true; the input reads as it did. -/
def indexBooleSpec : ChangeSpec := { name := "indexBoole", fn := fun _ => fun
  | [d1, d2, d3] => { results := [.lit (.bool true)], args := [d1, d2, d3] }
  | _ => none }
def indexBooleRow : OpenClaim := { program := "ytlghnnmgbdjgoaa", sum := "ed941feb7ea48a08720d2e396387b8e7f9a17f85d0fdeaf56d5dffe808be7107", func := "gaugehouse/gaugehousekeep.IndexBoole", spec := "indexBoole", unfollowed := true, recurses := true, apart := false }
def IndexBooleSaid : Prop := indexBooleRow.holds Try.pinned (OpenSpec.ofChange indexBooleSpec)

/-- ITS FALSE NEIGHBOUR: 'it returns false'. Refute it at one input. -/
def indexBooleWrong : ChangeSpec := { name := "indexBoole", fn := fun _ => fun
  | [d1, d2, d3] => { results := [.lit (.bool false)], args := [d1, d2, d3] }
  | _ => none }
def IndexBooleWrongFalsely : Prop := indexBooleRow.holds Try.pinned (OpenSpec.ofChange indexBooleWrong)

/-- 'gaugehousekeep.IndexNot': WHATEVER THE INPUT: true; the input reads as it did. -/
def indexNotSpec : ChangeSpec := { name := "indexNot", fn := fun _ => fun
  | [d1, d2, d3] => { results := [.lit (.bool true)], args := [d1, d2, d3] }
  | _ => none }
def indexNotRow : OpenClaim := { program := "ytlghnnmgbdjgoaa", sum := "ed941feb7ea48a08720d2e396387b8e7f9a17f85d0fdeaf56d5dffe808be7107", func := "gaugehouse/gaugehousekeep.IndexNot", spec := "indexNot", unfollowed := true, recurses := true, apart := false }
def IndexNotSaid : Prop := indexNotRow.holds Try.pinned (OpenSpec.ofChange indexNotSpec)

/-- ITS FALSE NEIGHBOUR: 'it returns false'. Refute it at one input. -/
def indexNotWrong : ChangeSpec := { name := "indexNot", fn := fun _ => fun
  | [d1, d2, d3] => { results := [.lit (.bool false)], args := [d1, d2, d3] }
  | _ => none }
def IndexNotWrongFalsely : Prop := indexNotRow.holds Try.pinned (OpenSpec.ofChange indexNotWrong)

/- THE SECOND FORM. 'bulk': how many values and letters a reading holds, each counted each time it is reached (what is shared counts as often as it is met; a slice's spare places count too). A statement '..UptoSaid' is the law's where the arguments, and the package variables that the reading takes, are together of bulk at most 1048576: NARROWER than '..Said'. Prove '..Said' where nothing that the law and all that it calls make is longer than what came in: it says more and counts as full. Else prove '..UptoSaid'. A law counts once. -/
mutual
def uptoBulk {H : Type} : DataW H → Nat
  | .lit (.string bytes) => bytes.length + 1
  | .lit _ => 1
  | .nil => 1
  | .ptr d => uptoBulk d + 1
  | .slice elems spare => uptoBulkAll elems + uptoBulkAll spare + 1
  | .agg parts => uptoBulkAll parts + 1
  | .iface _ d => uptoBulk d + 1
  | .map entries => uptoBulkEntries entries + 1
  | .held _ => 1
def uptoBulkAll {H : Type} : List (DataW H) → Nat
  | [] => 0
  | d :: r => uptoBulk d + uptoBulkAll r
def uptoBulkEntries {H : Type} : List (Lit × DataW H) → Nat
  | [] => 0
  | x :: r => uptoBulkEntry x + uptoBulkEntries r
def uptoBulkEntry {H : Type} : Lit × DataW H → Nat
  | (.string bytes, d) => bytes.length + uptoBulk d + 1
  | (_, d) => uptoBulk d + 1
 end
def uptoSmall : (H : Type) → List (DataW H) → Bool := fun _ ds => decide (uptoBulkAll ds ≤ 1048576)
def OpenSpec.upto (s : _root_.Go.ChangeSpec) : _root_.Go.OpenSpec := { _root_.Go.OpenSpec.ofChange s with cond := some uptoSmall }

/-- 'gaugehouselaw.IndexTells', WHERE WHAT IT READS IS OF BULK AT MOST 1048576: true; the input reads as it did. -/
def indexTellsUptoRow : OpenClaim := { program := "ytlghnnmgbdjgoaa", sum := "ed941feb7ea48a08720d2e396387b8e7f9a17f85d0fdeaf56d5dffe808be7107", func := "gaugehouse/gaugehouselaw.IndexTells", spec := "indexTells", inPlace := ["internal/bytealg.IndexByteString", "internal/bytealg.IndexString"], unfollowed := true, recurses := true, named := ["internal/bytealg.MaxLen"], apart := false, narrowed := true }
def IndexTellsUptoSaid : Prop := indexTellsUptoRow.holds Try.pinned (OpenSpec.upto indexTellsSpec)

/-- 'gaugehouselaw.IndexSets', WHERE WHAT IT READS IS OF BULK AT MOST 1048576: true; the input reads as it did. -/
def indexSetsUptoRow : OpenClaim := { program := "ytlghnnmgbdjgoaa", sum := "ed941feb7ea48a08720d2e396387b8e7f9a17f85d0fdeaf56d5dffe808be7107", func := "gaugehouse/gaugehouselaw.IndexSets", spec := "indexSets", recurses := true, apart := false, narrowed := true }
def IndexSetsUptoSaid : Prop := indexSetsUptoRow.holds Try.pinned (OpenSpec.upto indexSetsSpec)

/-- 'gaugehousekeep.IndexFilter', WHERE WHAT IT READS IS OF BULK AT MOST 1048576: true; the input reads as it did. -/
def indexFilterUptoRow : OpenClaim := { program := "ytlghnnmgbdjgoaa", sum := "ed941feb7ea48a08720d2e396387b8e7f9a17f85d0fdeaf56d5dffe808be7107", func := "gaugehouse/gaugehousekeep.IndexFilter", spec := "indexFilter", inPlace := ["internal/bytealg.IndexByteString", "internal/bytealg.IndexString"], recurses := true, named := ["internal/bytealg.MaxLen"], apart := false, narrowed := true }
def IndexFilterUptoSaid : Prop := indexFilterUptoRow.holds Try.pinned (OpenSpec.upto indexFilterSpec)

/-- 'gaugehousekeep.IndexMore', WHERE WHAT IT READS IS OF BULK AT MOST 1048576: true; the input reads as it did. -/
def indexMoreUptoRow : OpenClaim := { program := "ytlghnnmgbdjgoaa", sum := "ed941feb7ea48a08720d2e396387b8e7f9a17f85d0fdeaf56d5dffe808be7107", func := "gaugehouse/gaugehousekeep.IndexMore", spec := "indexMore", inPlace := ["internal/bytealg.IndexByteString", "internal/bytealg.IndexString"], unfollowed := true, recurses := true, named := ["internal/bytealg.MaxLen"], apart := false, narrowed := true }
def IndexMoreUptoSaid : Prop := indexMoreUptoRow.holds Try.pinned (OpenSpec.upto indexMoreSpec)

/-- 'gaugehousekeep.IndexBoole', WHERE WHAT IT READS IS OF BULK AT MOST 1048576: true; the input reads as it did. -/
def indexBooleUptoRow : OpenClaim := { program := "ytlghnnmgbdjgoaa", sum := "ed941feb7ea48a08720d2e396387b8e7f9a17f85d0fdeaf56d5dffe808be7107", func := "gaugehouse/gaugehousekeep.IndexBoole", spec := "indexBoole", unfollowed := true, recurses := true, apart := false, narrowed := true }
def IndexBooleUptoSaid : Prop := indexBooleUptoRow.holds Try.pinned (OpenSpec.upto indexBooleSpec)

/-- 'gaugehousekeep.IndexNot', WHERE WHAT IT READS IS OF BULK AT MOST 1048576: true; the input reads as it did. -/
def indexNotUptoRow : OpenClaim := { program := "ytlghnnmgbdjgoaa", sum := "ed941feb7ea48a08720d2e396387b8e7f9a17f85d0fdeaf56d5dffe808be7107", func := "gaugehouse/gaugehousekeep.IndexNot", spec := "indexNot", unfollowed := true, recurses := true, apart := false, narrowed := true }
def IndexNotUptoSaid : Prop := indexNotUptoRow.holds Try.pinned (OpenSpec.upto indexNotSpec)

end Rows
end Go.Proofs.Ytlghnnmgbdjgoaa
