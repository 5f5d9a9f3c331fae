/-
  No cell of these rows narrows 'for every input' (looked for: loops, veiled, ifaces, maps, wideKeys, modest, calm, conditions, laid).
  DERIVED. THE GIVEN ROWS OF THIS SEAT. 5 by the template 'for every input the law returns true; each argument reads behind the call as it read before'; 0 by the template 'total and deterministic' (their statements: YtbnolckcjimhdaaTotals.lean).
  GIVEN WITH THE SEED: the statements are not yours to turn. If you find one false, say at which input.
  Laid BY PROGRAM, IN A SANDBOX (cutbox-rows.mjs): the forced cells as the released guide's own fill.sh prints them over the translation a66afe8fc51755de… (all of the seat's roots in one cut). By AI agents, Wed Nov 11 2026. No macro, syntax, notation, axiom, sorry.
-/
import Derived.Test.YtbnolckcjimhdaaChecked
import GoSem.Claim
import GoSem.ClaimJoined
import GoSem.ClaimMapViews
import Derived.JoinedTies
import Derived.KernelRfl
namespace Go.Proofs.Ytbnolckcjimhdaa
/- THE CELL 'sum', in the pinned program and in every row, IS THE sha256 OF THE DUMP (.gsa) THAT YtbnolckcjimhdaaProg.lean LOADS. Nothing in Lean hashes anything: it is a label: what it is worth is what the hold of that sum in a sandbox is worth. -/
noncomputable def Try.pinned : Pinned := { name := "ytbnolckcjimhdaa", sum := "a66afe8fc51755de0d33eafa416da7f7b486b5f3cebda7e7894cc5ecc9ce731a", checked := Try.checked }
namespace Rows
def none {H : Type} : Left H := { results := [], args := [] }

/-- 'gaugehouselaw.RateTells': WHATEVER THE INPUT: true; the input reads as it did. -/
def rateTellsSpec : ChangeSpec := { name := "rateTells", fn := fun _ => fun
  | [d1, d2, d3, d4] => { results := [.lit (.bool true)], args := [d1, d2, d3, d4] }
  | _ => none }
def rateTellsRow : OpenClaim := { program := "ytbnolckcjimhdaa", sum := "a66afe8fc51755de0d33eafa416da7f7b486b5f3cebda7e7894cc5ecc9ce731a", func := "gaugehouse/gaugehouselaw.RateTells", spec := "rateTells", unfollowed := true, recurses := true, apart := false }
def RateTellsSaid : Prop := rateTellsRow.holds Try.pinned (OpenSpec.ofChange rateTellsSpec)

/-- ITS FALSE NEIGHBOUR: 'it returns false'. Refute it at one input. -/
def rateTellsWrong : ChangeSpec := { name := "rateTells", fn := fun _ => fun
  | [d1, d2, d3, d4] => { results := [.lit (.bool false)], args := [d1, d2, d3, d4] }
  | _ => none }
def RateTellsWrongFalsely : Prop := rateTellsRow.holds Try.pinned (OpenSpec.ofChange rateTellsWrong)

/-- 'gaugehousekeep.RateParts': WHATEVER THE INPUT: true; the input reads as it did. -/
def ratePartsSpec : ChangeSpec := { name := "rateParts", fn := fun _ => fun
  | [d1, d2] => { results := [.lit (.bool true)], args := [d1, d2] }
  | _ => none }
def ratePartsRow : OpenClaim := { program := "ytbnolckcjimhdaa", sum := "a66afe8fc51755de0d33eafa416da7f7b486b5f3cebda7e7894cc5ecc9ce731a", func := "gaugehouse/gaugehousekeep.RateParts", spec := "rateParts", unfollowed := true, recurses := true, apart := false }
def RatePartsSaid : Prop := ratePartsRow.holds Try.pinned (OpenSpec.ofChange ratePartsSpec)

/-- ITS FALSE NEIGHBOUR: 'it returns false'. Refute it at one input. -/
def ratePartsWrong : ChangeSpec := { name := "rateParts", fn := fun _ => fun
  | [d1, d2] => { results := [.lit (.bool false)], args := [d1, d2] }
  | _ => none }
def RatePartsWrongFalsely : Prop := ratePartsRow.holds Try.pinned (OpenSpec.ofChange ratePartsWrong)

/-- 'gaugehousekeep.RateSteady': WHATEVER THE INPUT: true; the input reads as it did. -/
def rateSteadySpec : ChangeSpec := { name := "rateSteady", fn := fun _ => fun
  | [d] => { results := [.lit (.bool true)], args := [d] }
  | _ => none }
def rateSteadyRow : OpenClaim := { program := "ytbnolckcjimhdaa", sum := "a66afe8fc51755de0d33eafa416da7f7b486b5f3cebda7e7894cc5ecc9ce731a", func := "gaugehouse/gaugehousekeep.RateSteady", spec := "rateSteady", apart := false }
def RateSteadySaid : Prop := rateSteadyRow.holds Try.pinned (OpenSpec.ofChange rateSteadySpec)

/-- ITS FALSE NEIGHBOUR: 'it returns false'. Refute it at one input. -/
def rateSteadyWrong : ChangeSpec := { name := "rateSteady", fn := fun _ => fun
  | [d] => { results := [.lit (.bool false)], args := [d] }
  | _ => none }
def RateSteadyWrongFalsely : Prop := rateSteadyRow.holds Try.pinned (OpenSpec.ofChange rateSteadyWrong)

/-- 'gaugehousekeep.RateUnits': WHATEVER THE INPUT: true; the input reads as it did. -/
def rateUnitsSpec : ChangeSpec := { name := "rateUnits", fn := fun _ => fun
  | [d1, d2, d3, d4, d5] => { results := [.lit (.bool true)], args := [d1, d2, d3, d4, d5] }
  | _ => none }
def rateUnitsRow : OpenClaim := { program := "ytbnolckcjimhdaa", sum := "a66afe8fc51755de0d33eafa416da7f7b486b5f3cebda7e7894cc5ecc9ce731a", func := "gaugehouse/gaugehousekeep.RateUnits", spec := "rateUnits", unfollowed := true, recurses := true, apart := false }
def RateUnitsSaid : Prop := rateUnitsRow.holds Try.pinned (OpenSpec.ofChange rateUnitsSpec)

/-- ITS FALSE NEIGHBOUR: 'it returns false'. Refute it at one input. -/
def rateUnitsWrong : ChangeSpec := { name := "rateUnits", fn := fun _ => fun
  | [d1, d2, d3, d4, d5] => { results := [.lit (.bool false)], args := [d1, d2, d3, d4, d5] }
  | _ => none }
def RateUnitsWrongFalsely : Prop := rateUnitsRow.holds Try.pinned (OpenSpec.ofChange rateUnitsWrong)

/-- 'gaugehousekeep.RateWithin': WHATEVER THE INPUT: true; the input reads as it did. -/
def rateWithinSpec : ChangeSpec := { name := "rateWithin", fn := fun _ => fun
  | [d1, d2, d3, d4] => { results := [.lit (.bool true)], args := [d1, d2, d3, d4] }
  | _ => none }
def rateWithinRow : OpenClaim := { program := "ytbnolckcjimhdaa", sum := "a66afe8fc51755de0d33eafa416da7f7b486b5f3cebda7e7894cc5ecc9ce731a", func := "gaugehouse/gaugehousekeep.RateWithin", spec := "rateWithin", unfollowed := true, recurses := true, apart := false }
def RateWithinSaid : Prop := rateWithinRow.holds Try.pinned (OpenSpec.ofChange rateWithinSpec)

/-- ITS FALSE NEIGHBOUR: 'it returns false'. Refute it at one input. -/
def rateWithinWrong : ChangeSpec := { name := "rateWithin", fn := fun _ => fun
  | [d1, d2, d3, d4] => { results := [.lit (.bool false)], args := [d1, d2, d3, d4] }
  | _ => none }
def RateWithinWrongFalsely : Prop := rateWithinRow.holds Try.pinned (OpenSpec.ofChange rateWithinWrong)

/- THE SECOND FORM. 'bulk': how many values and letters a reading holds, each counted each time it is reached (what is shared counts as often as it is met; a slice's spare places count too). A statement '..UptoSaid' is the law's where the arguments, and the package variables that the reading takes, are together of bulk at most 1048576: NARROWER than '..Said'. Prove '..Said' where nothing that the law and all that it calls make is longer than what came in: it says more and counts as full. Else prove '..UptoSaid'. A law counts once. -/
mutual
def uptoBulk {H : Type} : DataW H → Nat
  | .lit (.string bytes) => bytes.length + 1
  | .lit _ => 1
  | .nil => 1
  | .ptr d => uptoBulk d + 1
  | .slice elems spare => uptoBulkAll elems + uptoBulkAll spare + 1
  | .agg parts => uptoBulkAll parts + 1
  | .iface _ d => uptoBulk d + 1
  | .map entries => uptoBulkEntries entries + 1
  | .held _ => 1
def uptoBulkAll {H : Type} : List (DataW H) → Nat
  | [] => 0
  | d :: r => uptoBulk d + uptoBulkAll r
def uptoBulkEntries {H : Type} : List (Lit × DataW H) → Nat
  | [] => 0
  | x :: r => uptoBulkEntry x + uptoBulkEntries r
def uptoBulkEntry {H : Type} : Lit × DataW H → Nat
  | (.string bytes, d) => bytes.length + uptoBulk d + 1
  | (_, d) => uptoBulk d + 1
 end
def uptoSmall : (H : Type) → List (DataW H) → Bool := fun _ ds => decide (uptoBulkAll ds ≤ 1048576)
def OpenSpec.upto (s : _root_.Go.ChangeSpec) : _root_.Go.OpenSpec := { _root_.Go.OpenSpec.ofChange s with cond := some uptoSmall }

/-- 'gaugehouselaw.RateTells', WHERE WHAT IT READS IS OF BULK AT MOST 1048576: true; the input reads as it did. -/
def rateTellsUptoRow : OpenClaim := { program := "ytbnolckcjimhdaa", sum := "a66afe8fc51755de0d33eafa416da7f7b486b5f3cebda7e7894cc5ecc9ce731a", func := "gaugehouse/gaugehouselaw.RateTells", spec := "rateTells", unfollowed := true, recurses := true, apart := false, narrowed := true }
def RateTellsUptoSaid : Prop := rateTellsUptoRow.holds Try.pinned (OpenSpec.upto rateTellsSpec)

/-- 'gaugehousekeep.RateParts', WHERE WHAT IT READS IS OF BULK AT MOST 1048576: true; the input reads as it did. -/
def ratePartsUptoRow : OpenClaim := { program := "ytbnolckcjimhdaa", sum := "a66afe8fc51755de0d33eafa416da7f7b486b5f3cebda7e7894cc5ecc9ce731a", func := "gaugehouse/gaugehousekeep.RateParts", spec := "rateParts", unfollowed := true, recurses := true, apart := false, narrowed := true }
def RatePartsUptoSaid : Prop := ratePartsUptoRow.holds Try.pinned (OpenSpec.upto ratePartsSpec)

/-- 'gaugehousekeep.RateSteady', WHERE WHAT IT READS IS OF BULK AT MOST 1048576: true; the input reads as it did. -/
def rateSteadyUptoRow : OpenClaim := { program := "ytbnolckcjimhdaa", sum := "a66afe8fc51755de0d33eafa416da7f7b486b5f3cebda7e7894cc5ecc9ce731a", func := "gaugehouse/gaugehousekeep.RateSteady", spec := "rateSteady", apart := false, narrowed := true }
def RateSteadyUptoSaid : Prop := rateSteadyUptoRow.holds Try.pinned (OpenSpec.upto rateSteadySpec)

/-- 'gaugehousekeep.RateUnits', WHERE WHAT IT READS IS OF BULK AT MOST 1048576: true; the input reads as it did. -/
def rateUnitsUptoRow : OpenClaim := { program := "ytbnolckcjimhdaa", sum := "a66afe8fc51755de0d33eafa416da7f7b486b5f3cebda7e7894cc5ecc9ce731a", func := "gaugehouse/gaugehousekeep.RateUnits", spec := "rateUnits", unfollowed := true, recurses := true, apart := false, narrowed := true }
def RateUnitsUptoSaid : Prop := rateUnitsUptoRow.holds Try.pinned (OpenSpec.upto rateUnitsSpec)

/-- 'gaugehousekeep.RateWithin', WHERE WHAT IT READS IS OF BULK AT MOST 1048576: true; the input reads as it did. -/
def rateWithinUptoRow : OpenClaim := { program := "ytbnolckcjimhdaa", sum := "a66afe8fc51755de0d33eafa416da7f7b486b5f3cebda7e7894cc5ecc9ce731a", func := "gaugehouse/gaugehousekeep.RateWithin", spec := "rateWithin", unfollowed := true, recurses := true, apart := false, narrowed := true }
def RateWithinUptoSaid : Prop := rateWithinUptoRow.holds Try.pinned (OpenSpec.upto rateWithinSpec)

end Rows
end Go.Proofs.Ytbnolckcjimhdaa
