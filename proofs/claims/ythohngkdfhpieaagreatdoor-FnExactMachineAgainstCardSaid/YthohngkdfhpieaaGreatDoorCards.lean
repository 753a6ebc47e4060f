/-
  DERIVED. GIVEN WITH THE SEED: THE CARDS: each row of YthohngkdfhpieaaGreatDoorRows.lean that lists a variable, with what it lists TIED to the program's text (the seventh form; the later family's looks); each row that meets fmt, with fmt's text TOLD by the authors' own Lean function (tested against real Go, not proved from fmt's source: count such statements apart). THE CARD IS WHAT COUNTS. Prove the row's statement (the work); the ties are given (YthohngkdfhpieaaGreatDoorTie.lean); close each card by the builder's one call (the guide's Derived/Test/ToyasCard.lean, 'card_holds'). Laid BY PROGRAM, IN A SANDBOX (cutbox-door.mjs). By AI agents, Wed Nov 11 2026. No macro, syntax, notation, axiom, sorry.
-/
import Derived.Test.YthohngkdfhpieaaGreatDoorRows
import GoSem.ClaimSeven
namespace Go.Proofs.YthohngkdfhpieaaGreatDoor
namespace Rows

/-- THE TIED CARD OF 'laws.FnExactLoadedParts'. -/
def fnExactLoadedPartsCard : Claim7 := { stood := { row := fnExactLoadedPartsRow, standIns := [], harness := (true, "13e043f96bf06e9a48a823683c8b93c02fd752daf95c4b09e8a202ae25b4c9f9"), looks := true }, kinds := [], alts := [], laidByText := true, laidKinds := [.data], laidTests := true, laidLooks := .later }
def FnExactLoadedPartsCardSaid : Prop := Claim7.holds Tryz.pinned (.plain (OpenSpec.ofChange fnExactLoadedPartsSpec)) fnExactLoadedPartsCard

/-- THE TIED CARD OF 'laws.FnExactDifferAt'. -/
def fnExactDifferAtCard : Claim7 := { stood := { row := fnExactDifferAtRow, standIns := [], harness := (true, "13e043f96bf06e9a48a823683c8b93c02fd752daf95c4b09e8a202ae25b4c9f9"), looks := true }, kinds := [], alts := [], laidByText := true, laidKinds := [.data, .data], laidTests := true, laidLooks := .later }
def FnExactDifferAtCardSaid : Prop := Claim7.holds Tryz.pinned (.plain (OpenSpec.ofChange fnExactDifferAtSpec)) fnExactDifferAtCard

/-- THE TIED CARD OF 'laws.FnExactMachineAgainst'. -/
def fnExactMachineAgainstCard : Claim7 := { stood := { row := fnExactMachineAgainstRow, standIns := [], harness := (true, "13e043f96bf06e9a48a823683c8b93c02fd752daf95c4b09e8a202ae25b4c9f9"), looks := true }, kinds := [], alts := [], laidByText := true, laidKinds := [.data, .data], laidTests := true, laidLooks := .later }
def FnExactMachineAgainstCardSaid : Prop := Claim7.holds Tryz.pinned (.plain (OpenSpec.ofChange fnExactMachineAgainstSpec)) fnExactMachineAgainstCard

/-- THE TIED CARD OF 'laws.FnExactIsSteady'. -/
def fnExactIsSteadyCard : Claim7 := { stood := { row := fnExactIsSteadyRow, standIns := [], harness := (true, "13e043f96bf06e9a48a823683c8b93c02fd752daf95c4b09e8a202ae25b4c9f9"), looks := true }, kinds := [], alts := [], laidByText := true, laidKinds := [.data], laidTests := true, laidLooks := .later }
def FnExactIsSteadyCardSaid : Prop := Claim7.holds Tryz.pinned (.plain (OpenSpec.ofChange fnExactIsSteadySpec)) fnExactIsSteadyCard

/-- THE TIED CARD OF 'laws.FnExactFirstUnsteady'. -/
def fnExactFirstUnsteadyCard : Claim7 := { stood := { row := fnExactFirstUnsteadyRow, standIns := [], harness := (true, "13e043f96bf06e9a48a823683c8b93c02fd752daf95c4b09e8a202ae25b4c9f9"), looks := true }, kinds := [], alts := [], laidByText := true, laidKinds := [.data], laidTests := true, laidLooks := .later }
def FnExactFirstUnsteadyCardSaid : Prop := Claim7.holds Tryz.pinned (.plain (OpenSpec.ofChange fnExactFirstUnsteadySpec)) fnExactFirstUnsteadyCard

/-- THE SECOND FORM's CARD OF 'laws.FnExactLoadedParts'. -/
def fnExactLoadedPartsUptoCard : Claim7 := { stood := { row := fnExactLoadedPartsUptoRow, standIns := [], harness := (true, "13e043f96bf06e9a48a823683c8b93c02fd752daf95c4b09e8a202ae25b4c9f9"), looks := true }, kinds := [], alts := [], laidByText := true, laidKinds := [.data], laidTests := true, laidLooks := .later }
def FnExactLoadedPartsUptoCardSaid : Prop := Claim7.holds Tryz.pinned (.plain (OpenSpec.upto fnExactLoadedPartsSpec)) fnExactLoadedPartsUptoCard

/-- THE SECOND FORM's CARD OF 'laws.FnExactDifferAt'. -/
def fnExactDifferAtUptoCard : Claim7 := { stood := { row := fnExactDifferAtUptoRow, standIns := [], harness := (true, "13e043f96bf06e9a48a823683c8b93c02fd752daf95c4b09e8a202ae25b4c9f9"), looks := true }, kinds := [], alts := [], laidByText := true, laidKinds := [.data, .data], laidTests := true, laidLooks := .later }
def FnExactDifferAtUptoCardSaid : Prop := Claim7.holds Tryz.pinned (.plain (OpenSpec.upto fnExactDifferAtSpec)) fnExactDifferAtUptoCard

/-- THE SECOND FORM's CARD OF 'laws.FnExactMachineAgainst'. -/
def fnExactMachineAgainstUptoCard : Claim7 := { stood := { row := fnExactMachineAgainstUptoRow, standIns := [], harness := (true, "13e043f96bf06e9a48a823683c8b93c02fd752daf95c4b09e8a202ae25b4c9f9"), looks := true }, kinds := [], alts := [], laidByText := true, laidKinds := [.data, .data], laidTests := true, laidLooks := .later }
def FnExactMachineAgainstUptoCardSaid : Prop := Claim7.holds Tryz.pinned (.plain (OpenSpec.upto fnExactMachineAgainstSpec)) fnExactMachineAgainstUptoCard

/-- THE SECOND FORM's CARD OF 'laws.FnExactIsSteady'. -/
def fnExactIsSteadyUptoCard : Claim7 := { stood := { row := fnExactIsSteadyUptoRow, standIns := [], harness := (true, "13e043f96bf06e9a48a823683c8b93c02fd752daf95c4b09e8a202ae25b4c9f9"), looks := true }, kinds := [], alts := [], laidByText := true, laidKinds := [.data], laidTests := true, laidLooks := .later }
def FnExactIsSteadyUptoCardSaid : Prop := Claim7.holds Tryz.pinned (.plain (OpenSpec.upto fnExactIsSteadySpec)) fnExactIsSteadyUptoCard

/-- THE SECOND FORM's CARD OF 'laws.FnExactFirstUnsteady'. -/
def fnExactFirstUnsteadyUptoCard : Claim7 := { stood := { row := fnExactFirstUnsteadyUptoRow, standIns := [], harness := (true, "13e043f96bf06e9a48a823683c8b93c02fd752daf95c4b09e8a202ae25b4c9f9"), looks := true }, kinds := [], alts := [], laidByText := true, laidKinds := [.data], laidTests := true, laidLooks := .later }
def FnExactFirstUnsteadyUptoCardSaid : Prop := Claim7.holds Tryz.pinned (.plain (OpenSpec.upto fnExactFirstUnsteadySpec)) fnExactFirstUnsteadyUptoCard
end Rows
end Go.Proofs.YthohngkdfhpieaaGreatDoor
