/-
  DERIVED. GIVEN WITH THE SEED: THE CARDS: each row of YtlejpbghakaooaaDoorRows.lean that lists a variable, with what it lists TIED to the program's text (the seventh form; the later family's looks); each row that meets fmt, with fmt's text TOLD by the authors' own Lean function (tested against real Go, not proved from fmt's source: count such statements apart). THE CARD IS WHAT COUNTS. Prove the row's statement (the work); the ties are given (YtlejpbghakaooaaDoorTie.lean); close each card by the builder's one call (the guide's Derived/Test/ToyasCard.lean, 'card_holds'). Laid BY PROGRAM, IN A SANDBOX (cutbox-door.mjs). By AI agents, Wed Nov 11 2026. No macro, syntax, notation, axiom, sorry.
-/
import Derived.Test.YtlejpbghakaooaaDoorRows
import GoSem.ClaimSeven
namespace Go.Proofs.YtlejpbghakaooaaDoor
namespace Rows

/-- THE TIED CARD OF 'gaugehouselaw.DeltaPacks'. -/
def deltaPacksCard : Claim7 := { stood := { row := deltaPacksRow, standIns := [], harness := (true, "2f10f356802a4c6aa4c4fae63393deebc1c10b9a5de5505037bf3d542beb9619"), looks := false }, kinds := [], alts := [], laidByText := true, laidKinds := [.data], laidTests := true, laidLooks := .later }
def DeltaPacksCardSaid : Prop := Claim7.holds Tryd.pinned (.plain (OpenSpec.ofChange deltaPacksSpec)) deltaPacksCard

/-- THE TIED CARD OF 'gaugehouselaw.DeltaOpens'. -/
def deltaOpensCard : Claim7 := { stood := { row := deltaOpensRow, standIns := [], harness := (true, "2f10f356802a4c6aa4c4fae63393deebc1c10b9a5de5505037bf3d542beb9619"), looks := false }, kinds := [], alts := [], laidByText := true, laidKinds := [.data], laidTests := true, laidLooks := .later }
def DeltaOpensCardSaid : Prop := Claim7.holds Tryd.pinned (.plain (OpenSpec.ofChange deltaOpensSpec)) deltaOpensCard

/-- THE TIED CARD OF 'gaugehousekeep.DeltaBack'. -/
def deltaBackCard : Claim7 := { stood := { row := deltaBackRow, standIns := [], harness := (true, "2f10f356802a4c6aa4c4fae63393deebc1c10b9a5de5505037bf3d542beb9619"), looks := false }, kinds := [], alts := [], laidByText := true, laidKinds := [.data], laidTests := true, laidLooks := .later }
def DeltaBackCardSaid : Prop := Claim7.holds Tryd.pinned (.plain (OpenSpec.ofChange deltaBackSpec)) deltaBackCard

/-- THE TIED CARD OF 'gaugehousekeep.DeltaOne'. -/
def deltaOneCard : Claim7 := { stood := { row := deltaOneRow, standIns := [], harness := (true, "2f10f356802a4c6aa4c4fae63393deebc1c10b9a5de5505037bf3d542beb9619"), looks := false }, kinds := [], alts := [], laidByText := true, laidKinds := [.data], laidTests := true, laidLooks := .later }
def DeltaOneCardSaid : Prop := Claim7.holds Tryd.pinned (.plain (OpenSpec.ofChange deltaOneSpec)) deltaOneCard

/-- THE TIED CARD OF 'gaugehousekeep.DeltaSteady'. -/
def deltaSteadyCard : Claim7 := { stood := { row := deltaSteadyRow, standIns := [], harness := (true, "2f10f356802a4c6aa4c4fae63393deebc1c10b9a5de5505037bf3d542beb9619"), looks := false }, kinds := [], alts := [], laidByText := true, laidKinds := [.data], laidTests := true, laidLooks := .later }
def DeltaSteadyCardSaid : Prop := Claim7.holds Tryd.pinned (.plain (OpenSpec.ofChange deltaSteadySpec)) deltaSteadyCard

/-- THE TIED CARD OF 'gaugehousekeep.DeltaMoved'. -/
def deltaMovedCard : Claim7 := { stood := { row := deltaMovedRow, standIns := [], harness := (true, "2f10f356802a4c6aa4c4fae63393deebc1c10b9a5de5505037bf3d542beb9619"), looks := false }, kinds := [], alts := [], laidByText := true, laidKinds := [.data], laidTests := true, laidLooks := .later }
def DeltaMovedCardSaid : Prop := Claim7.holds Tryd.pinned (.plain (OpenSpec.ofChange deltaMovedSpec)) deltaMovedCard

/-- THE SECOND FORM's CARD OF 'gaugehouselaw.DeltaPacks'. -/
def deltaPacksUptoCard : Claim7 := { stood := { row := deltaPacksUptoRow, standIns := [], harness := (true, "2f10f356802a4c6aa4c4fae63393deebc1c10b9a5de5505037bf3d542beb9619"), looks := false }, kinds := [], alts := [], laidByText := true, laidKinds := [.data], laidTests := true, laidLooks := .later }
def DeltaPacksUptoCardSaid : Prop := Claim7.holds Tryd.pinned (.plain (OpenSpec.upto deltaPacksSpec)) deltaPacksUptoCard

/-- THE SECOND FORM's CARD OF 'gaugehouselaw.DeltaOpens'. -/
def deltaOpensUptoCard : Claim7 := { stood := { row := deltaOpensUptoRow, standIns := [], harness := (true, "2f10f356802a4c6aa4c4fae63393deebc1c10b9a5de5505037bf3d542beb9619"), looks := false }, kinds := [], alts := [], laidByText := true, laidKinds := [.data], laidTests := true, laidLooks := .later }
def DeltaOpensUptoCardSaid : Prop := Claim7.holds Tryd.pinned (.plain (OpenSpec.upto deltaOpensSpec)) deltaOpensUptoCard

/-- THE SECOND FORM's CARD OF 'gaugehousekeep.DeltaBack'. -/
def deltaBackUptoCard : Claim7 := { stood := { row := deltaBackUptoRow, standIns := [], harness := (true, "2f10f356802a4c6aa4c4fae63393deebc1c10b9a5de5505037bf3d542beb9619"), looks := false }, kinds := [], alts := [], laidByText := true, laidKinds := [.data], laidTests := true, laidLooks := .later }
def DeltaBackUptoCardSaid : Prop := Claim7.holds Tryd.pinned (.plain (OpenSpec.upto deltaBackSpec)) deltaBackUptoCard

/-- THE SECOND FORM's CARD OF 'gaugehousekeep.DeltaOne'. -/
def deltaOneUptoCard : Claim7 := { stood := { row := deltaOneUptoRow, standIns := [], harness := (true, "2f10f356802a4c6aa4c4fae63393deebc1c10b9a5de5505037bf3d542beb9619"), looks := false }, kinds := [], alts := [], laidByText := true, laidKinds := [.data], laidTests := true, laidLooks := .later }
def DeltaOneUptoCardSaid : Prop := Claim7.holds Tryd.pinned (.plain (OpenSpec.upto deltaOneSpec)) deltaOneUptoCard

/-- THE SECOND FORM's CARD OF 'gaugehousekeep.DeltaSteady'. -/
def deltaSteadyUptoCard : Claim7 := { stood := { row := deltaSteadyUptoRow, standIns := [], harness := (true, "2f10f356802a4c6aa4c4fae63393deebc1c10b9a5de5505037bf3d542beb9619"), looks := false }, kinds := [], alts := [], laidByText := true, laidKinds := [.data], laidTests := true, laidLooks := .later }
def DeltaSteadyUptoCardSaid : Prop := Claim7.holds Tryd.pinned (.plain (OpenSpec.upto deltaSteadySpec)) deltaSteadyUptoCard

/-- THE SECOND FORM's CARD OF 'gaugehousekeep.DeltaMoved'. -/
def deltaMovedUptoCard : Claim7 := { stood := { row := deltaMovedUptoRow, standIns := [], harness := (true, "2f10f356802a4c6aa4c4fae63393deebc1c10b9a5de5505037bf3d542beb9619"), looks := false }, kinds := [], alts := [], laidByText := true, laidKinds := [.data], laidTests := true, laidLooks := .later }
def DeltaMovedUptoCardSaid : Prop := Claim7.holds Tryd.pinned (.plain (OpenSpec.upto deltaMovedSpec)) deltaMovedUptoCard
end Rows
end Go.Proofs.YtlejpbghakaooaaDoor
