/-
  DERIVED. GIVEN WITH THE SEED: THE CARDS: each row of YteohlkpejdjenaaDoorRows.lean that lists a variable, with what it lists TIED to the program's text (the seventh form; the later family's looks); each row that meets fmt, with fmt's text TOLD by the authors' own Lean function (tested against real Go, not proved from fmt's source: count such statements apart). THE CARD IS WHAT COUNTS. Prove the row's statement (the work); the ties are given (YteohlkpejdjenaaDoorTie.lean); close each card by the builder's one call (the guide's Derived/Test/ToyasCard.lean, 'card_holds'). Laid BY PROGRAM, IN A SANDBOX (cutbox-door.mjs). By AI agents, Wed Nov 11 2026. No macro, syntax, notation, axiom, sorry.
-/
import Derived.Test.YteohlkpejdjenaaDoorRows
import GoSem.ClaimSeven
namespace Go.Proofs.YteohlkpejdjenaaDoor
namespace Rows

/-- THE TIED CARD OF 'gaugehouselaw.XorPacks'. -/
def xorPacksCard : Claim7 := { stood := { row := xorPacksRow, standIns := [], harness := (true, "e6f4b78a08c8d4cea187a826092587bb59965b9979fb9a7455a17a7d8f092630"), looks := false }, kinds := [], alts := [], laidByText := true, laidKinds := [.data], laidTests := true, laidLooks := .later }
def XorPacksCardSaid : Prop := Claim7.holds Tryd.pinned (.plain (OpenSpec.ofChange xorPacksSpec)) xorPacksCard

/-- THE TIED CARD OF 'gaugehouselaw.XorOpens'. -/
def xorOpensCard : Claim7 := { stood := { row := xorOpensRow, standIns := [], harness := (true, "e6f4b78a08c8d4cea187a826092587bb59965b9979fb9a7455a17a7d8f092630"), looks := false }, kinds := [], alts := [], laidByText := true, laidKinds := [.data], laidTests := true, laidLooks := .later }
def XorOpensCardSaid : Prop := Claim7.holds Tryd.pinned (.plain (OpenSpec.ofChange xorOpensSpec)) xorOpensCard

/-- THE TIED CARD OF 'gaugehousekeep.XorBack'. -/
def xorBackCard : Claim7 := { stood := { row := xorBackRow, standIns := [], harness := (true, "e6f4b78a08c8d4cea187a826092587bb59965b9979fb9a7455a17a7d8f092630"), looks := false }, kinds := [], alts := [], laidByText := true, laidKinds := [.data], laidTests := true, laidLooks := .later }
def XorBackCardSaid : Prop := Claim7.holds Tryd.pinned (.plain (OpenSpec.ofChange xorBackSpec)) xorBackCard

/-- THE TIED CARD OF 'gaugehousekeep.XorOne'. -/
def xorOneCard : Claim7 := { stood := { row := xorOneRow, standIns := [], harness := (true, "e6f4b78a08c8d4cea187a826092587bb59965b9979fb9a7455a17a7d8f092630"), looks := false }, kinds := [], alts := [], laidByText := true, laidKinds := [.data], laidTests := true, laidLooks := .later }
def XorOneCardSaid : Prop := Claim7.holds Tryd.pinned (.plain (OpenSpec.ofChange xorOneSpec)) xorOneCard

/-- THE TIED CARD OF 'gaugehousekeep.XorSame'. -/
def xorSameCard : Claim7 := { stood := { row := xorSameRow, standIns := [], harness := (true, "e6f4b78a08c8d4cea187a826092587bb59965b9979fb9a7455a17a7d8f092630"), looks := false }, kinds := [], alts := [], laidByText := true, laidKinds := [.data], laidTests := true, laidLooks := .later }
def XorSameCardSaid : Prop := Claim7.holds Tryd.pinned (.plain (OpenSpec.ofChange xorSameSpec)) xorSameCard

/-- THE TIED CARD OF 'gaugehousekeep.XorTurned'. -/
def xorTurnedCard : Claim7 := { stood := { row := xorTurnedRow, standIns := [], harness := (true, "e6f4b78a08c8d4cea187a826092587bb59965b9979fb9a7455a17a7d8f092630"), looks := false }, kinds := [], alts := [], laidByText := true, laidKinds := [.data], laidTests := true, laidLooks := .later }
def XorTurnedCardSaid : Prop := Claim7.holds Tryd.pinned (.plain (OpenSpec.ofChange xorTurnedSpec)) xorTurnedCard

/-- THE SECOND FORM's CARD OF 'gaugehouselaw.XorPacks'. -/
def xorPacksUptoCard : Claim7 := { stood := { row := xorPacksUptoRow, standIns := [], harness := (true, "e6f4b78a08c8d4cea187a826092587bb59965b9979fb9a7455a17a7d8f092630"), looks := false }, kinds := [], alts := [], laidByText := true, laidKinds := [.data], laidTests := true, laidLooks := .later }
def XorPacksUptoCardSaid : Prop := Claim7.holds Tryd.pinned (.plain (OpenSpec.upto xorPacksSpec)) xorPacksUptoCard

/-- THE SECOND FORM's CARD OF 'gaugehouselaw.XorOpens'. -/
def xorOpensUptoCard : Claim7 := { stood := { row := xorOpensUptoRow, standIns := [], harness := (true, "e6f4b78a08c8d4cea187a826092587bb59965b9979fb9a7455a17a7d8f092630"), looks := false }, kinds := [], alts := [], laidByText := true, laidKinds := [.data], laidTests := true, laidLooks := .later }
def XorOpensUptoCardSaid : Prop := Claim7.holds Tryd.pinned (.plain (OpenSpec.upto xorOpensSpec)) xorOpensUptoCard

/-- THE SECOND FORM's CARD OF 'gaugehousekeep.XorBack'. -/
def xorBackUptoCard : Claim7 := { stood := { row := xorBackUptoRow, standIns := [], harness := (true, "e6f4b78a08c8d4cea187a826092587bb59965b9979fb9a7455a17a7d8f092630"), looks := false }, kinds := [], alts := [], laidByText := true, laidKinds := [.data], laidTests := true, laidLooks := .later }
def XorBackUptoCardSaid : Prop := Claim7.holds Tryd.pinned (.plain (OpenSpec.upto xorBackSpec)) xorBackUptoCard

/-- THE SECOND FORM's CARD OF 'gaugehousekeep.XorOne'. -/
def xorOneUptoCard : Claim7 := { stood := { row := xorOneUptoRow, standIns := [], harness := (true, "e6f4b78a08c8d4cea187a826092587bb59965b9979fb9a7455a17a7d8f092630"), looks := false }, kinds := [], alts := [], laidByText := true, laidKinds := [.data], laidTests := true, laidLooks := .later }
def XorOneUptoCardSaid : Prop := Claim7.holds Tryd.pinned (.plain (OpenSpec.upto xorOneSpec)) xorOneUptoCard

/-- THE SECOND FORM's CARD OF 'gaugehousekeep.XorSame'. -/
def xorSameUptoCard : Claim7 := { stood := { row := xorSameUptoRow, standIns := [], harness := (true, "e6f4b78a08c8d4cea187a826092587bb59965b9979fb9a7455a17a7d8f092630"), looks := false }, kinds := [], alts := [], laidByText := true, laidKinds := [.data], laidTests := true, laidLooks := .later }
def XorSameUptoCardSaid : Prop := Claim7.holds Tryd.pinned (.plain (OpenSpec.upto xorSameSpec)) xorSameUptoCard

/-- THE SECOND FORM's CARD OF 'gaugehousekeep.XorTurned'. -/
def xorTurnedUptoCard : Claim7 := { stood := { row := xorTurnedUptoRow, standIns := [], harness := (true, "e6f4b78a08c8d4cea187a826092587bb59965b9979fb9a7455a17a7d8f092630"), looks := false }, kinds := [], alts := [], laidByText := true, laidKinds := [.data], laidTests := true, laidLooks := .later }
def XorTurnedUptoCardSaid : Prop := Claim7.holds Tryd.pinned (.plain (OpenSpec.upto xorTurnedSpec)) xorTurnedUptoCard
end Rows
end Go.Proofs.YteohlkpejdjenaaDoor
