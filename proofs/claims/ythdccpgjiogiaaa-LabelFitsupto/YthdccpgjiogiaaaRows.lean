/-
  No cell of these rows narrows 'for every input' (looked for: loops, veiled, ifaces, maps, wideKeys, modest, calm, conditions, laid).
  DERIVED. THE GIVEN ROWS OF THIS SEAT. 6 by the template 'for every input the law returns true; each argument reads behind the call as it read before'; 0 by the template 'total and deterministic' (their statements: YthdccpgjiogiaaaTotals.lean).
  GIVEN WITH THE SEED: the statements are not yours to turn. If you find one false, say at which input.
  Laid BY PROGRAM, IN A SANDBOX (cutbox-rows.mjs): the forced cells as the released guide's own fill.sh prints them over the translation d1385939fffd063d… (all of the seat's roots in one cut). By AI agents, Wed Nov 11 2026. No macro, syntax, notation, axiom, sorry.
-/
import Derived.Test.YthdccpgjiogiaaaChecked
import GoSem.Claim
import GoSem.ClaimJoined
import GoSem.ClaimMapViews
import Derived.JoinedTies
import Derived.KernelRfl
namespace Go.Proofs.Ythdccpgjiogiaaa
/- THE CELL 'sum', in the pinned program and in every row, IS THE sha256 OF THE DUMP (.gsa) THAT YthdccpgjiogiaaaProg.lean LOADS. Nothing in Lean hashes anything: it is a label: what it is worth is what the hold of that sum in a sandbox is worth. -/
noncomputable def Try.pinned : Pinned := { name := "ythdccpgjiogiaaa", sum := "d1385939fffd063dbf0adc993c2362e3317c7066f3a4303f50f6ccb754e2dca0", checked := Try.checked }
namespace Rows
def none {H : Type} : Left H := { results := [], args := [] }

/-- 'gaugehouselaw.LabelTells': WHATEVER THE INPUT: true; the input reads as it did. -/
def labelTellsSpec : ChangeSpec := { name := "labelTells", fn := fun _ => fun
  | [d1, d2] => { results := [.lit (.bool true)], args := [d1, d2] }
  | _ => none }
def labelTellsRow : OpenClaim := { program := "ythdccpgjiogiaaa", sum := "d1385939fffd063dbf0adc993c2362e3317c7066f3a4303f50f6ccb754e2dca0", func := "gaugehouse/gaugehouselaw.LabelTells", spec := "labelTells", inPlace := ["internal/bytealg.IndexByteString"], apart := false }
def LabelTellsSaid : Prop := labelTellsRow.holds Try.pinned (OpenSpec.ofChange labelTellsSpec)

/-- ITS FALSE NEIGHBOUR: 'it returns false'. Refute it at one input. -/
def labelTellsWrong : ChangeSpec := { name := "labelTells", fn := fun _ => fun
  | [d1, d2] => { results := [.lit (.bool false)], args := [d1, d2] }
  | _ => none }
def LabelTellsWrongFalsely : Prop := labelTellsRow.holds Try.pinned (OpenSpec.ofChange labelTellsWrong)

/-- 'gaugehouselaw.LabelFits': WHATEVER THE INPUT: true; the input reads as it did. -/
def labelFitsSpec : ChangeSpec := { name := "labelFits", fn := fun _ => fun
  | [d1, d2, d3] => { results := [.lit (.bool true)], args := [d1, d2, d3] }
  | _ => none }
def labelFitsRow : OpenClaim := { program := "ythdccpgjiogiaaa", sum := "d1385939fffd063dbf0adc993c2362e3317c7066f3a4303f50f6ccb754e2dca0", func := "gaugehouse/gaugehouselaw.LabelFits", spec := "labelFits", inPlace := ["internal/bytealg.IndexByteString", "internal/bytealg.IndexString"], named := ["internal/bytealg.MaxLen"], apart := false }
def LabelFitsSaid : Prop := labelFitsRow.holds Try.pinned (OpenSpec.ofChange labelFitsSpec)

/-- ITS FALSE NEIGHBOUR: 'it returns false'. Refute it at one input. -/
def labelFitsWrong : ChangeSpec := { name := "labelFits", fn := fun _ => fun
  | [d1, d2, d3] => { results := [.lit (.bool false)], args := [d1, d2, d3] }
  | _ => none }
def LabelFitsWrongFalsely : Prop := labelFitsRow.holds Try.pinned (OpenSpec.ofChange labelFitsWrong)

/-- 'gaugehousekeep.LabelBack': WHATEVER THE INPUT: true; the input reads as it did. -/
def labelBackSpec : ChangeSpec := { name := "labelBack", fn := fun _ => fun
  | [d1, d2] => { results := [.lit (.bool true)], args := [d1, d2] }
  | _ => none }
def labelBackRow : OpenClaim := { program := "ythdccpgjiogiaaa", sum := "d1385939fffd063dbf0adc993c2362e3317c7066f3a4303f50f6ccb754e2dca0", func := "gaugehouse/gaugehousekeep.LabelBack", spec := "labelBack", inPlace := ["internal/bytealg.IndexByteString"], apart := false }
def LabelBackSaid : Prop := labelBackRow.holds Try.pinned (OpenSpec.ofChange labelBackSpec)

/-- ITS FALSE NEIGHBOUR: 'it returns false'. Refute it at one input. -/
def labelBackWrong : ChangeSpec := { name := "labelBack", fn := fun _ => fun
  | [d1, d2] => { results := [.lit (.bool false)], args := [d1, d2] }
  | _ => none }
def LabelBackWrongFalsely : Prop := labelBackRow.holds Try.pinned (OpenSpec.ofChange labelBackWrong)

/-- 'gaugehousekeep.LabelOne': WHATEVER THE INPUT: true; the input reads as it did. -/
def labelOneSpec : ChangeSpec := { name := "labelOne", fn := fun _ => fun
  | [d] => { results := [.lit (.bool true)], args := [d] }
  | _ => none }
def labelOneRow : OpenClaim := { program := "ythdccpgjiogiaaa", sum := "d1385939fffd063dbf0adc993c2362e3317c7066f3a4303f50f6ccb754e2dca0", func := "gaugehouse/gaugehousekeep.LabelOne", spec := "labelOne", inPlace := ["internal/bytealg.IndexByteString"], apart := false }
def LabelOneSaid : Prop := labelOneRow.holds Try.pinned (OpenSpec.ofChange labelOneSpec)

/-- ITS FALSE NEIGHBOUR: 'it returns false'. Refute it at one input. -/
def labelOneWrong : ChangeSpec := { name := "labelOne", fn := fun _ => fun
  | [d] => { results := [.lit (.bool false)], args := [d] }
  | _ => none }
def LabelOneWrongFalsely : Prop := labelOneRow.holds Try.pinned (OpenSpec.ofChange labelOneWrong)

/-- 'gaugehousekeep.LabelNot': WHATEVER THE INPUT: true; the input reads as it did. -/
def labelNotSpec : ChangeSpec := { name := "labelNot", fn := fun _ => fun
  | [d1, d2, d3] => { results := [.lit (.bool true)], args := [d1, d2, d3] }
  | _ => none }
def labelNotRow : OpenClaim := { program := "ythdccpgjiogiaaa", sum := "d1385939fffd063dbf0adc993c2362e3317c7066f3a4303f50f6ccb754e2dca0", func := "gaugehouse/gaugehousekeep.LabelNot", spec := "labelNot", inPlace := ["internal/bytealg.IndexByteString", "internal/bytealg.IndexString"], unfollowed := true, recurses := true, named := ["internal/bytealg.MaxLen"], apart := false }
def LabelNotSaid : Prop := labelNotRow.holds Try.pinned (OpenSpec.ofChange labelNotSpec)

/-- ITS FALSE NEIGHBOUR: 'it returns false'. Refute it at one input. -/
def labelNotWrong : ChangeSpec := { name := "labelNot", fn := fun _ => fun
  | [d1, d2, d3] => { results := [.lit (.bool false)], args := [d1, d2, d3] }
  | _ => none }
def LabelNotWrongFalsely : Prop := labelNotRow.holds Try.pinned (OpenSpec.ofChange labelNotWrong)

/-- 'gaugehousekeep.LabelFront': WHATEVER THE INPUT: true; the input reads as it did. -/
def labelFrontSpec : ChangeSpec := { name := "labelFront", fn := fun _ => fun
  | [d1, d2, d3] => { results := [.lit (.bool true)], args := [d1, d2, d3] }
  | _ => none }
def labelFrontRow : OpenClaim := { program := "ythdccpgjiogiaaa", sum := "d1385939fffd063dbf0adc993c2362e3317c7066f3a4303f50f6ccb754e2dca0", func := "gaugehouse/gaugehousekeep.LabelFront", spec := "labelFront", inPlace := ["internal/bytealg.IndexByteString", "internal/bytealg.IndexString"], unfollowed := true, recurses := true, named := ["internal/bytealg.MaxLen"], apart := false }
def LabelFrontSaid : Prop := labelFrontRow.holds Try.pinned (OpenSpec.ofChange labelFrontSpec)

/-- ITS FALSE NEIGHBOUR: 'it returns false'. Refute it at one input. -/
def labelFrontWrong : ChangeSpec := { name := "labelFront", fn := fun _ => fun
  | [d1, d2, d3] => { results := [.lit (.bool false)], args := [d1, d2, d3] }
  | _ => none }
def LabelFrontWrongFalsely : Prop := labelFrontRow.holds Try.pinned (OpenSpec.ofChange labelFrontWrong)

/- THE SECOND FORM. 'bulk': how many values and letters a reading holds, each counted each time it is reached (what is shared counts as often as it is met; a slice's spare places count too). A statement '..UptoSaid' is the law's where the arguments, and the package variables that the reading takes, are together of bulk at most 1048576: NARROWER than '..Said'. Prove '..Said' where nothing that the law and all that it calls make is longer than what came in: it says more and counts as full. Else prove '..UptoSaid'. A law counts once. -/
mutual
def uptoBulk {H : Type} : DataW H → Nat
  | .lit (.string bytes) => bytes.length + 1
  | .lit _ => 1
  | .nil => 1
  | .ptr d => uptoBulk d + 1
  | .slice elems spare => uptoBulkAll elems + uptoBulkAll spare + 1
  | .agg parts => uptoBulkAll parts + 1
  | .iface _ d => uptoBulk d + 1
  | .map entries => uptoBulkEntries entries + 1
  | .held _ => 1
def uptoBulkAll {H : Type} : List (DataW H) → Nat
  | [] => 0
  | d :: r => uptoBulk d + uptoBulkAll r
def uptoBulkEntries {H : Type} : List (Lit × DataW H) → Nat
  | [] => 0
  | x :: r => uptoBulkEntry x + uptoBulkEntries r
def uptoBulkEntry {H : Type} : Lit × DataW H → Nat
  | (.string bytes, d) => bytes.length + uptoBulk d + 1
  | (_, d) => uptoBulk d + 1
 end
def uptoSmall : (H : Type) → List (DataW H) → Bool := fun _ ds => decide (uptoBulkAll ds ≤ 1048576)
def OpenSpec.upto (s : _root_.Go.ChangeSpec) : _root_.Go.OpenSpec := { _root_.Go.OpenSpec.ofChange s with cond := some uptoSmall }

/-- 'gaugehouselaw.LabelTells', WHERE WHAT IT READS IS OF BULK AT MOST 1048576: true; the input reads as it did. -/
def labelTellsUptoRow : OpenClaim := { program := "ythdccpgjiogiaaa", sum := "d1385939fffd063dbf0adc993c2362e3317c7066f3a4303f50f6ccb754e2dca0", func := "gaugehouse/gaugehouselaw.LabelTells", spec := "labelTells", inPlace := ["internal/bytealg.IndexByteString"], apart := false, narrowed := true }
def LabelTellsUptoSaid : Prop := labelTellsUptoRow.holds Try.pinned (OpenSpec.upto labelTellsSpec)

/-- 'gaugehouselaw.LabelFits', WHERE WHAT IT READS IS OF BULK AT MOST 1048576: true; the input reads as it did. -/
def labelFitsUptoRow : OpenClaim := { program := "ythdccpgjiogiaaa", sum := "d1385939fffd063dbf0adc993c2362e3317c7066f3a4303f50f6ccb754e2dca0", func := "gaugehouse/gaugehouselaw.LabelFits", spec := "labelFits", inPlace := ["internal/bytealg.IndexByteString", "internal/bytealg.IndexString"], named := ["internal/bytealg.MaxLen"], apart := false, narrowed := true }
def LabelFitsUptoSaid : Prop := labelFitsUptoRow.holds Try.pinned (OpenSpec.upto labelFitsSpec)

/-- 'gaugehousekeep.LabelBack', WHERE WHAT IT READS IS OF BULK AT MOST 1048576: true; the input reads as it did. -/
def labelBackUptoRow : OpenClaim := { program := "ythdccpgjiogiaaa", sum := "d1385939fffd063dbf0adc993c2362e3317c7066f3a4303f50f6ccb754e2dca0", func := "gaugehouse/gaugehousekeep.LabelBack", spec := "labelBack", inPlace := ["internal/bytealg.IndexByteString"], apart := false, narrowed := true }
def LabelBackUptoSaid : Prop := labelBackUptoRow.holds Try.pinned (OpenSpec.upto labelBackSpec)

/-- 'gaugehousekeep.LabelOne', WHERE WHAT IT READS IS OF BULK AT MOST 1048576: true; the input reads as it did. -/
def labelOneUptoRow : OpenClaim := { program := "ythdccpgjiogiaaa", sum := "d1385939fffd063dbf0adc993c2362e3317c7066f3a4303f50f6ccb754e2dca0", func := "gaugehouse/gaugehousekeep.LabelOne", spec := "labelOne", inPlace := ["internal/bytealg.IndexByteString"], apart := false, narrowed := true }
def LabelOneUptoSaid : Prop := labelOneUptoRow.holds Try.pinned (OpenSpec.upto labelOneSpec)

/-- 'gaugehousekeep.LabelNot', WHERE WHAT IT READS IS OF BULK AT MOST 1048576: true; the input reads as it did. -/
def labelNotUptoRow : OpenClaim := { program := "ythdccpgjiogiaaa", sum := "d1385939fffd063dbf0adc993c2362e3317c7066f3a4303f50f6ccb754e2dca0", func := "gaugehouse/gaugehousekeep.LabelNot", spec := "labelNot", inPlace := ["internal/bytealg.IndexByteString", "internal/bytealg.IndexString"], unfollowed := true, recurses := true, named := ["internal/bytealg.MaxLen"], apart := false, narrowed := true }
def LabelNotUptoSaid : Prop := labelNotUptoRow.holds Try.pinned (OpenSpec.upto labelNotSpec)

/-- 'gaugehousekeep.LabelFront', WHERE WHAT IT READS IS OF BULK AT MOST 1048576: true; the input reads as it did. -/
def labelFrontUptoRow : OpenClaim := { program := "ythdccpgjiogiaaa", sum := "d1385939fffd063dbf0adc993c2362e3317c7066f3a4303f50f6ccb754e2dca0", func := "gaugehouse/gaugehousekeep.LabelFront", spec := "labelFront", inPlace := ["internal/bytealg.IndexByteString", "internal/bytealg.IndexString"], unfollowed := true, recurses := true, named := ["internal/bytealg.MaxLen"], apart := false, narrowed := true }
def LabelFrontUptoSaid : Prop := labelFrontUptoRow.holds Try.pinned (OpenSpec.upto labelFrontSpec)

end Rows
end Go.Proofs.Ythdccpgjiogiaaa
