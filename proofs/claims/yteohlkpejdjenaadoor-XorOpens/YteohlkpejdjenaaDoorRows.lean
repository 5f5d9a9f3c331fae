/-
  NARROWER THAN 'FOR EVERY INPUT', by the rows' own cells (each row's printed sentence says how): XorPacks: laid · XorOpens: laid · XorBack: laid · XorOne: laid · XorSame: laid · XorTurned: laid.
  DERIVED. THE GIVEN ROWS OF THIS SEAT. 6 by the template 'for every input the law returns true; each argument reads behind the call as it read before'; 0 by the template 'total and deterministic' (their statements: YteohlkpejdjenaaDoorTotals.lean).
  GIVEN WITH THE SEED: the statements are not yours to turn. If you find one false, say at which input.
  Laid BY PROGRAM, IN A SANDBOX (cutbox-rows.mjs): the forced cells as the released guide's own fill.sh prints them over the translation 613e8eca71af0c40… (all of the seat's roots in one cut). By AI agents, Wed Nov 11 2026. No macro, syntax, notation, axiom, sorry.
-/
import Derived.Test.YteohlkpejdjenaaDoorChecked
import GoSem.Claim
import GoSem.ClaimJoined
import GoSem.ClaimMapViews
import Derived.JoinedTies
import Derived.KernelRfl
namespace Go.Proofs.YteohlkpejdjenaaDoor
/- THE CELL 'sum', in the pinned program and in every row, IS THE sha256 OF THE DUMP (.gsa) THAT YteohlkpejdjenaaDoorProg.lean LOADS. Nothing in Lean hashes anything: it is a label: what it is worth is what the hold of that sum in a sandbox is worth. -/
noncomputable def Tryd.pinned : Pinned := { name := "yteohlkpejdjenaadoor", sum := "613e8eca71af0c4071b8fd82620cb4ef835abe41bb417bba455e56bac6f53eac", checked := Tryd.checked }
namespace Rows
def none {H : Type} : Left H := { results := [], args := [] }

/- WHAT THE LISTED PACKAGE-LEVEL VARIABLES READ AS WHEN THE CALL BEGINS. Each datum BY PROGRAM (the guide's laid-datum.mjs) off the statement by which the dump's own 'gosem.cut.vars' lays the variable. In a bare row this is a premise. The card (YteohlkpejdjenaaDoorCards.lean) ties it to the program's text. -/
def laid_math_bits_deBruijn64tab {H : Type} : DataW H := .agg [.lit (.int .u8 0), .lit (.int .u8 1), .lit (.int .u8 56), .lit (.int .u8 2), .lit (.int .u8 57), .lit (.int .u8 49), .lit (.int .u8 28), .lit (.int .u8 3), .lit (.int .u8 61), .lit (.int .u8 58), .lit (.int .u8 42), .lit (.int .u8 50), .lit (.int .u8 38), .lit (.int .u8 29), .lit (.int .u8 17), .lit (.int .u8 4), .lit (.int .u8 62), .lit (.int .u8 47), .lit (.int .u8 59), .lit (.int .u8 36), .lit (.int .u8 45), .lit (.int .u8 43), .lit (.int .u8 51), .lit (.int .u8 22), .lit (.int .u8 53), .lit (.int .u8 39), .lit (.int .u8 33), .lit (.int .u8 30), .lit (.int .u8 24), .lit (.int .u8 18), .lit (.int .u8 12), .lit (.int .u8 5), .lit (.int .u8 63), .lit (.int .u8 55), .lit (.int .u8 48), .lit (.int .u8 27), .lit (.int .u8 60), .lit (.int .u8 41), .lit (.int .u8 37), .lit (.int .u8 16), .lit (.int .u8 46), .lit (.int .u8 35), .lit (.int .u8 44), .lit (.int .u8 21), .lit (.int .u8 52), .lit (.int .u8 32), .lit (.int .u8 23), .lit (.int .u8 11), .lit (.int .u8 54), .lit (.int .u8 26), .lit (.int .u8 40), .lit (.int .u8 15), .lit (.int .u8 34), .lit (.int .u8 20), .lit (.int .u8 31), .lit (.int .u8 10), .lit (.int .u8 25), .lit (.int .u8 14), .lit (.int .u8 19), .lit (.int .u8 9), .lit (.int .u8 13), .lit (.int .u8 8), .lit (.int .u8 7), .lit (.int .u8 6)]

/-- 'gaugehouselaw.XorPacks': WHATEVER THE INPUT: true; the input reads as it did. -/
def xorPacksSpec : ChangeSpec := { name := "xorPacks", fn := fun _ => fun
  | [d] => { results := [.lit (.bool true)], args := [d] }
  | _ => none }
def xorPacksRow : OpenClaim := { program := "yteohlkpejdjenaadoor", sum := "613e8eca71af0c4071b8fd82620cb4ef835abe41bb417bba455e56bac6f53eac", func := "gaugehouse/gaugehouselaw.XorPacks", spec := "xorPacks", named := ["math/bits.deBruijn64tab"], apart := false, laid := [("math/bits.deBruijn64tab", laid_math_bits_deBruijn64tab)] }
def XorPacksSaid : Prop := xorPacksRow.holds Tryd.pinned (OpenSpec.ofChange xorPacksSpec)

/-- ITS FALSE NEIGHBOUR: 'it returns false'. Refute it at one input. -/
def xorPacksWrong : ChangeSpec := { name := "xorPacks", fn := fun _ => fun
  | [d] => { results := [.lit (.bool false)], args := [d] }
  | _ => none }
def XorPacksWrongFalsely : Prop := xorPacksRow.holds Tryd.pinned (OpenSpec.ofChange xorPacksWrong)

/-- 'gaugehouselaw.XorOpens': WHATEVER THE INPUT: true; the input reads as it did. -/
def xorOpensSpec : ChangeSpec := { name := "xorOpens", fn := fun _ => fun
  | [d] => { results := [.lit (.bool true)], args := [d] }
  | _ => none }
def xorOpensRow : OpenClaim := { program := "yteohlkpejdjenaadoor", sum := "613e8eca71af0c4071b8fd82620cb4ef835abe41bb417bba455e56bac6f53eac", func := "gaugehouse/gaugehouselaw.XorOpens", spec := "xorOpens", unfollowed := true, recurses := true, named := ["math/bits.deBruijn64tab"], apart := false, laid := [("math/bits.deBruijn64tab", laid_math_bits_deBruijn64tab)] }
def XorOpensSaid : Prop := xorOpensRow.holds Tryd.pinned (OpenSpec.ofChange xorOpensSpec)

/-- ITS FALSE NEIGHBOUR: 'it returns false'. Refute it at one input. -/
def xorOpensWrong : ChangeSpec := { name := "xorOpens", fn := fun _ => fun
  | [d] => { results := [.lit (.bool false)], args := [d] }
  | _ => none }
def XorOpensWrongFalsely : Prop := xorOpensRow.holds Tryd.pinned (OpenSpec.ofChange xorOpensWrong)

/-- 'gaugehousekeep.XorBack': WHATEVER THE INPUT: true; the input reads as it did. -/
def xorBackSpec : ChangeSpec := { name := "xorBack", fn := fun _ => fun
  | [d] => { results := [.lit (.bool true)], args := [d] }
  | _ => none }
def xorBackRow : OpenClaim := { program := "yteohlkpejdjenaadoor", sum := "613e8eca71af0c4071b8fd82620cb4ef835abe41bb417bba455e56bac6f53eac", func := "gaugehouse/gaugehousekeep.XorBack", spec := "xorBack", named := ["math/bits.deBruijn64tab"], apart := false, laid := [("math/bits.deBruijn64tab", laid_math_bits_deBruijn64tab)] }
def XorBackSaid : Prop := xorBackRow.holds Tryd.pinned (OpenSpec.ofChange xorBackSpec)

/-- ITS FALSE NEIGHBOUR: 'it returns false'. Refute it at one input. -/
def xorBackWrong : ChangeSpec := { name := "xorBack", fn := fun _ => fun
  | [d] => { results := [.lit (.bool false)], args := [d] }
  | _ => none }
def XorBackWrongFalsely : Prop := xorBackRow.holds Tryd.pinned (OpenSpec.ofChange xorBackWrong)

/-- 'gaugehousekeep.XorOne': WHATEVER THE INPUT: true; the input reads as it did. -/
def xorOneSpec : ChangeSpec := { name := "xorOne", fn := fun _ => fun
  | [d] => { results := [.lit (.bool true)], args := [d] }
  | _ => none }
def xorOneRow : OpenClaim := { program := "yteohlkpejdjenaadoor", sum := "613e8eca71af0c4071b8fd82620cb4ef835abe41bb417bba455e56bac6f53eac", func := "gaugehouse/gaugehousekeep.XorOne", spec := "xorOne", named := ["math/bits.deBruijn64tab"], apart := false, laid := [("math/bits.deBruijn64tab", laid_math_bits_deBruijn64tab)] }
def XorOneSaid : Prop := xorOneRow.holds Tryd.pinned (OpenSpec.ofChange xorOneSpec)

/-- ITS FALSE NEIGHBOUR: 'it returns false'. Refute it at one input. -/
def xorOneWrong : ChangeSpec := { name := "xorOne", fn := fun _ => fun
  | [d] => { results := [.lit (.bool false)], args := [d] }
  | _ => none }
def XorOneWrongFalsely : Prop := xorOneRow.holds Tryd.pinned (OpenSpec.ofChange xorOneWrong)

/-- 'gaugehousekeep.XorSame': WHATEVER THE INPUT: true; the input reads as it did. -/
def xorSameSpec : ChangeSpec := { name := "xorSame", fn := fun _ => fun
  | [d1, d2] => { results := [.lit (.bool true)], args := [d1, d2] }
  | _ => none }
def xorSameRow : OpenClaim := { program := "yteohlkpejdjenaadoor", sum := "613e8eca71af0c4071b8fd82620cb4ef835abe41bb417bba455e56bac6f53eac", func := "gaugehouse/gaugehousekeep.XorSame", spec := "xorSame", named := ["math/bits.deBruijn64tab"], apart := false, laid := [("math/bits.deBruijn64tab", laid_math_bits_deBruijn64tab)] }
def XorSameSaid : Prop := xorSameRow.holds Tryd.pinned (OpenSpec.ofChange xorSameSpec)

/-- ITS FALSE NEIGHBOUR: 'it returns false'. Refute it at one input. -/
def xorSameWrong : ChangeSpec := { name := "xorSame", fn := fun _ => fun
  | [d1, d2] => { results := [.lit (.bool false)], args := [d1, d2] }
  | _ => none }
def XorSameWrongFalsely : Prop := xorSameRow.holds Tryd.pinned (OpenSpec.ofChange xorSameWrong)

/-- 'gaugehousekeep.XorTurned': WHATEVER THE INPUT: true; the input reads as it did. -/
def xorTurnedSpec : ChangeSpec := { name := "xorTurned", fn := fun _ => fun
  | [d1, d2] => { results := [.lit (.bool true)], args := [d1, d2] }
  | _ => none }
def xorTurnedRow : OpenClaim := { program := "yteohlkpejdjenaadoor", sum := "613e8eca71af0c4071b8fd82620cb4ef835abe41bb417bba455e56bac6f53eac", func := "gaugehouse/gaugehousekeep.XorTurned", spec := "xorTurned", unfollowed := true, recurses := true, named := ["math/bits.deBruijn64tab"], apart := false, laid := [("math/bits.deBruijn64tab", laid_math_bits_deBruijn64tab)] }
def XorTurnedSaid : Prop := xorTurnedRow.holds Tryd.pinned (OpenSpec.ofChange xorTurnedSpec)

/-- ITS FALSE NEIGHBOUR: 'it returns false'. Refute it at one input. -/
def xorTurnedWrong : ChangeSpec := { name := "xorTurned", fn := fun _ => fun
  | [d1, d2] => { results := [.lit (.bool false)], args := [d1, d2] }
  | _ => none }
def XorTurnedWrongFalsely : Prop := xorTurnedRow.holds Tryd.pinned (OpenSpec.ofChange xorTurnedWrong)

/- THE SECOND FORM. 'bulk': how many values and letters a reading holds, each counted each time it is reached (what is shared counts as often as it is met; a slice's spare places count too). A statement '..UptoSaid' is the law's where the arguments, and the package variables that the reading takes, are together of bulk at most 1048576: NARROWER than '..Said'. Prove '..Said' where nothing that the law and all that it calls make is longer than what came in: it says more and counts as full. Else prove '..UptoSaid'. A law counts once. -/
mutual
def uptoBulk {H : Type} : DataW H → Nat
  | .lit (.string bytes) => bytes.length + 1
  | .lit _ => 1
  | .nil => 1
  | .ptr d => uptoBulk d + 1
  | .slice elems spare => uptoBulkAll elems + uptoBulkAll spare + 1
  | .agg parts => uptoBulkAll parts + 1
  | .iface _ d => uptoBulk d + 1
  | .map entries => uptoBulkEntries entries + 1
  | .held _ => 1
def uptoBulkAll {H : Type} : List (DataW H) → Nat
  | [] => 0
  | d :: r => uptoBulk d + uptoBulkAll r
def uptoBulkEntries {H : Type} : List (Lit × DataW H) → Nat
  | [] => 0
  | x :: r => uptoBulkEntry x + uptoBulkEntries r
def uptoBulkEntry {H : Type} : Lit × DataW H → Nat
  | (.string bytes, d) => bytes.length + uptoBulk d + 1
  | (_, d) => uptoBulk d + 1
 end
def uptoSmall : (H : Type) → List (DataW H) → Bool := fun _ ds => decide (uptoBulkAll ds ≤ 1048576)
def OpenSpec.upto (s : _root_.Go.ChangeSpec) : _root_.Go.OpenSpec := { _root_.Go.OpenSpec.ofChange s with cond := some uptoSmall }

/-- 'gaugehouselaw.XorPacks', WHERE WHAT IT READS IS OF BULK AT MOST 1048576: true; the input reads as it did. -/
def xorPacksUptoRow : OpenClaim := { program := "yteohlkpejdjenaadoor", sum := "613e8eca71af0c4071b8fd82620cb4ef835abe41bb417bba455e56bac6f53eac", func := "gaugehouse/gaugehouselaw.XorPacks", spec := "xorPacks", named := ["math/bits.deBruijn64tab"], apart := false, laid := [("math/bits.deBruijn64tab", laid_math_bits_deBruijn64tab)], narrowed := true }
def XorPacksUptoSaid : Prop := xorPacksUptoRow.holds Tryd.pinned (OpenSpec.upto xorPacksSpec)

/-- 'gaugehouselaw.XorOpens', WHERE WHAT IT READS IS OF BULK AT MOST 1048576: true; the input reads as it did. -/
def xorOpensUptoRow : OpenClaim := { program := "yteohlkpejdjenaadoor", sum := "613e8eca71af0c4071b8fd82620cb4ef835abe41bb417bba455e56bac6f53eac", func := "gaugehouse/gaugehouselaw.XorOpens", spec := "xorOpens", unfollowed := true, recurses := true, named := ["math/bits.deBruijn64tab"], apart := false, laid := [("math/bits.deBruijn64tab", laid_math_bits_deBruijn64tab)], narrowed := true }
def XorOpensUptoSaid : Prop := xorOpensUptoRow.holds Tryd.pinned (OpenSpec.upto xorOpensSpec)

/-- 'gaugehousekeep.XorBack', WHERE WHAT IT READS IS OF BULK AT MOST 1048576: true; the input reads as it did. -/
def xorBackUptoRow : OpenClaim := { program := "yteohlkpejdjenaadoor", sum := "613e8eca71af0c4071b8fd82620cb4ef835abe41bb417bba455e56bac6f53eac", func := "gaugehouse/gaugehousekeep.XorBack", spec := "xorBack", named := ["math/bits.deBruijn64tab"], apart := false, laid := [("math/bits.deBruijn64tab", laid_math_bits_deBruijn64tab)], narrowed := true }
def XorBackUptoSaid : Prop := xorBackUptoRow.holds Tryd.pinned (OpenSpec.upto xorBackSpec)

/-- 'gaugehousekeep.XorOne', WHERE WHAT IT READS IS OF BULK AT MOST 1048576: true; the input reads as it did. -/
def xorOneUptoRow : OpenClaim := { program := "yteohlkpejdjenaadoor", sum := "613e8eca71af0c4071b8fd82620cb4ef835abe41bb417bba455e56bac6f53eac", func := "gaugehouse/gaugehousekeep.XorOne", spec := "xorOne", named := ["math/bits.deBruijn64tab"], apart := false, laid := [("math/bits.deBruijn64tab", laid_math_bits_deBruijn64tab)], narrowed := true }
def XorOneUptoSaid : Prop := xorOneUptoRow.holds Tryd.pinned (OpenSpec.upto xorOneSpec)

/-- 'gaugehousekeep.XorSame', WHERE WHAT IT READS IS OF BULK AT MOST 1048576: true; the input reads as it did. -/
def xorSameUptoRow : OpenClaim := { program := "yteohlkpejdjenaadoor", sum := "613e8eca71af0c4071b8fd82620cb4ef835abe41bb417bba455e56bac6f53eac", func := "gaugehouse/gaugehousekeep.XorSame", spec := "xorSame", named := ["math/bits.deBruijn64tab"], apart := false, laid := [("math/bits.deBruijn64tab", laid_math_bits_deBruijn64tab)], narrowed := true }
def XorSameUptoSaid : Prop := xorSameUptoRow.holds Tryd.pinned (OpenSpec.upto xorSameSpec)

/-- 'gaugehousekeep.XorTurned', WHERE WHAT IT READS IS OF BULK AT MOST 1048576: true; the input reads as it did. -/
def xorTurnedUptoRow : OpenClaim := { program := "yteohlkpejdjenaadoor", sum := "613e8eca71af0c4071b8fd82620cb4ef835abe41bb417bba455e56bac6f53eac", func := "gaugehouse/gaugehousekeep.XorTurned", spec := "xorTurned", unfollowed := true, recurses := true, named := ["math/bits.deBruijn64tab"], apart := false, laid := [("math/bits.deBruijn64tab", laid_math_bits_deBruijn64tab)], narrowed := true }
def XorTurnedUptoSaid : Prop := xorTurnedUptoRow.holds Tryd.pinned (OpenSpec.upto xorTurnedSpec)

end Rows
end Go.Proofs.YteohlkpejdjenaaDoor
