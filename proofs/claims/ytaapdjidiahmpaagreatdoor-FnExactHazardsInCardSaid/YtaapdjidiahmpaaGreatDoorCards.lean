/-
  DERIVED. GIVEN WITH THE SEED: THE CARDS: each row of YtaapdjidiahmpaaGreatDoorRows.lean that lists a variable, with what it lists TIED to the program's text (the seventh form; the later family's looks); each row that meets fmt, with fmt's text TOLD by the authors' own Lean function (tested against real Go, not proved from fmt's source: count such statements apart). THE CARD IS WHAT COUNTS. Prove the row's statement (the work); the ties are given (YtaapdjidiahmpaaGreatDoorTie.lean); close each card by the builder's one call (the guide's Derived/Test/ToyasCard.lean, 'card_holds'). Laid BY PROGRAM, IN A SANDBOX (cutbox-door.mjs). By AI agents, Wed Nov 11 2026. No macro, syntax, notation, axiom, sorry.
-/
import Derived.Test.YtaapdjidiahmpaaGreatDoorRows
import GoSem.ClaimSeven
namespace Go.Proofs.YtaapdjidiahmpaaGreatDoor
namespace Rows

/-- THE TIED CARD OF 'laws.FnExactOutputsIn'. -/
def fnExactOutputsInCard : Claim7 := { stood := { row := fnExactOutputsInRow, standIns := [], harness := (true, "c2068e43cf7cf88ae8cb227520b4a90a023b37fe13c2c230b66be344e249d299"), looks := true }, kinds := [], alts := [], laidByText := true, laidKinds := [.data], laidTests := true, laidLooks := .later }
def FnExactOutputsInCardSaid : Prop := Claim7.holds Tryz.pinned (.plain (OpenSpec.ofChange fnExactOutputsInSpec)) fnExactOutputsInCard

/-- THE TIED CARD OF 'laws.FnExactTicksIn'. -/
def fnExactTicksInCard : Claim7 := { stood := { row := fnExactTicksInRow, standIns := [], harness := (true, "c2068e43cf7cf88ae8cb227520b4a90a023b37fe13c2c230b66be344e249d299"), looks := true }, kinds := [], alts := [], laidByText := true, laidKinds := [.data], laidTests := true, laidLooks := .later }
def FnExactTicksInCardSaid : Prop := Claim7.holds Tryz.pinned (.plain (OpenSpec.ofChange fnExactTicksInSpec)) fnExactTicksInCard

/-- THE TIED CARD OF 'laws.FnExactMachineTables'. -/
def fnExactMachineTablesCard : Claim7 := { stood := { row := fnExactMachineTablesRow, standIns := [], harness := (true, "c2068e43cf7cf88ae8cb227520b4a90a023b37fe13c2c230b66be344e249d299"), looks := true }, kinds := [], alts := [], laidByText := true, laidKinds := [.data], laidTests := true, laidLooks := .later }
def FnExactMachineTablesCardSaid : Prop := Claim7.holds Tryz.pinned (.plain (OpenSpec.ofChange fnExactMachineTablesSpec)) fnExactMachineTablesCard

/-- THE TIED CARD OF 'laws.FnExactSlowestRow'. -/
def fnExactSlowestRowCard : Claim7 := { stood := { row := fnExactSlowestRowRow, standIns := [], harness := (true, "c2068e43cf7cf88ae8cb227520b4a90a023b37fe13c2c230b66be344e249d299"), looks := true }, kinds := [], alts := [], laidByText := true, laidKinds := [.data], laidTests := true, laidLooks := .later }
def FnExactSlowestRowCardSaid : Prop := Claim7.holds Tryz.pinned (.plain (OpenSpec.ofChange fnExactSlowestRowSpec)) fnExactSlowestRowCard

/-- THE TIED CARD OF 'laws.FnExactMachineNeeds'. -/
def fnExactMachineNeedsCard : Claim7 := { stood := { row := fnExactMachineNeedsRow, standIns := [], harness := (true, "c2068e43cf7cf88ae8cb227520b4a90a023b37fe13c2c230b66be344e249d299"), looks := true }, kinds := [], alts := [], laidByText := true, laidKinds := [.data], laidTests := true, laidLooks := .later }
def FnExactMachineNeedsCardSaid : Prop := Claim7.holds Tryz.pinned (.plain (OpenSpec.ofChange fnExactMachineNeedsSpec)) fnExactMachineNeedsCard

/-- THE TIED CARD OF 'laws.FnExactRowWith'. -/
def fnExactRowWithCard : Claim7 := { stood := { row := fnExactRowWithRow, standIns := [], harness := (true, "c2068e43cf7cf88ae8cb227520b4a90a023b37fe13c2c230b66be344e249d299"), looks := true }, kinds := [], alts := [], laidByText := true, laidKinds := [.data], laidTests := true, laidLooks := .later }
def FnExactRowWithCardSaid : Prop := Claim7.holds Tryz.pinned (.plain (OpenSpec.ofChange fnExactRowWithSpec)) fnExactRowWithCard

/-- THE TIED CARD OF 'laws.FnExactDifferAt'. -/
def fnExactDifferAtCard : Claim7 := { stood := { row := fnExactDifferAtRow, standIns := [], harness := (true, "c2068e43cf7cf88ae8cb227520b4a90a023b37fe13c2c230b66be344e249d299"), looks := true }, kinds := [], alts := [], laidByText := true, laidKinds := [.data, .data], laidTests := true, laidLooks := .later }
def FnExactDifferAtCardSaid : Prop := Claim7.holds Tryz.pinned (.plain (OpenSpec.ofChange fnExactDifferAtSpec)) fnExactDifferAtCard

/-- THE TIED CARD OF 'laws.FnExactHazardsIn'. -/
def fnExactHazardsInCard : Claim7 := { stood := { row := fnExactHazardsInRow, standIns := [], harness := (true, "c2068e43cf7cf88ae8cb227520b4a90a023b37fe13c2c230b66be344e249d299"), looks := true }, kinds := [], alts := [], laidByText := true, laidKinds := [.data], laidTests := true, laidLooks := .later }
def FnExactHazardsInCardSaid : Prop := Claim7.holds Tryz.pinned (.plain (OpenSpec.ofChange fnExactHazardsInSpec)) fnExactHazardsInCard

/-- THE TIED CARD OF 'laws.FnExactLoadedParts'. -/
def fnExactLoadedPartsCard : Claim7 := { stood := { row := fnExactLoadedPartsRow, standIns := [], harness := (true, "c2068e43cf7cf88ae8cb227520b4a90a023b37fe13c2c230b66be344e249d299"), looks := true }, kinds := [], alts := [], laidByText := true, laidKinds := [.data], laidTests := true, laidLooks := .later }
def FnExactLoadedPartsCardSaid : Prop := Claim7.holds Tryz.pinned (.plain (OpenSpec.ofChange fnExactLoadedPartsSpec)) fnExactLoadedPartsCard

/-- THE SECOND FORM's CARD OF 'laws.FnExactOutputsIn'. -/
def fnExactOutputsInUptoCard : Claim7 := { stood := { row := fnExactOutputsInUptoRow, standIns := [], harness := (true, "c2068e43cf7cf88ae8cb227520b4a90a023b37fe13c2c230b66be344e249d299"), looks := true }, kinds := [], alts := [], laidByText := true, laidKinds := [.data], laidTests := true, laidLooks := .later }
def FnExactOutputsInUptoCardSaid : Prop := Claim7.holds Tryz.pinned (.plain (OpenSpec.upto fnExactOutputsInSpec)) fnExactOutputsInUptoCard

/-- THE SECOND FORM's CARD OF 'laws.FnExactTicksIn'. -/
def fnExactTicksInUptoCard : Claim7 := { stood := { row := fnExactTicksInUptoRow, standIns := [], harness := (true, "c2068e43cf7cf88ae8cb227520b4a90a023b37fe13c2c230b66be344e249d299"), looks := true }, kinds := [], alts := [], laidByText := true, laidKinds := [.data], laidTests := true, laidLooks := .later }
def FnExactTicksInUptoCardSaid : Prop := Claim7.holds Tryz.pinned (.plain (OpenSpec.upto fnExactTicksInSpec)) fnExactTicksInUptoCard

/-- THE SECOND FORM's CARD OF 'laws.FnExactMachineTables'. -/
def fnExactMachineTablesUptoCard : Claim7 := { stood := { row := fnExactMachineTablesUptoRow, standIns := [], harness := (true, "c2068e43cf7cf88ae8cb227520b4a90a023b37fe13c2c230b66be344e249d299"), looks := true }, kinds := [], alts := [], laidByText := true, laidKinds := [.data], laidTests := true, laidLooks := .later }
def FnExactMachineTablesUptoCardSaid : Prop := Claim7.holds Tryz.pinned (.plain (OpenSpec.upto fnExactMachineTablesSpec)) fnExactMachineTablesUptoCard

/-- THE SECOND FORM's CARD OF 'laws.FnExactSlowestRow'. -/
def fnExactSlowestRowUptoCard : Claim7 := { stood := { row := fnExactSlowestRowUptoRow, standIns := [], harness := (true, "c2068e43cf7cf88ae8cb227520b4a90a023b37fe13c2c230b66be344e249d299"), looks := true }, kinds := [], alts := [], laidByText := true, laidKinds := [.data], laidTests := true, laidLooks := .later }
def FnExactSlowestRowUptoCardSaid : Prop := Claim7.holds Tryz.pinned (.plain (OpenSpec.upto fnExactSlowestRowSpec)) fnExactSlowestRowUptoCard

/-- THE SECOND FORM's CARD OF 'laws.FnExactMachineNeeds'. -/
def fnExactMachineNeedsUptoCard : Claim7 := { stood := { row := fnExactMachineNeedsUptoRow, standIns := [], harness := (true, "c2068e43cf7cf88ae8cb227520b4a90a023b37fe13c2c230b66be344e249d299"), looks := true }, kinds := [], alts := [], laidByText := true, laidKinds := [.data], laidTests := true, laidLooks := .later }
def FnExactMachineNeedsUptoCardSaid : Prop := Claim7.holds Tryz.pinned (.plain (OpenSpec.upto fnExactMachineNeedsSpec)) fnExactMachineNeedsUptoCard

/-- THE SECOND FORM's CARD OF 'laws.FnExactRowWith'. -/
def fnExactRowWithUptoCard : Claim7 := { stood := { row := fnExactRowWithUptoRow, standIns := [], harness := (true, "c2068e43cf7cf88ae8cb227520b4a90a023b37fe13c2c230b66be344e249d299"), looks := true }, kinds := [], alts := [], laidByText := true, laidKinds := [.data], laidTests := true, laidLooks := .later }
def FnExactRowWithUptoCardSaid : Prop := Claim7.holds Tryz.pinned (.plain (OpenSpec.upto fnExactRowWithSpec)) fnExactRowWithUptoCard

/-- THE SECOND FORM's CARD OF 'laws.FnExactDifferAt'. -/
def fnExactDifferAtUptoCard : Claim7 := { stood := { row := fnExactDifferAtUptoRow, standIns := [], harness := (true, "c2068e43cf7cf88ae8cb227520b4a90a023b37fe13c2c230b66be344e249d299"), looks := true }, kinds := [], alts := [], laidByText := true, laidKinds := [.data, .data], laidTests := true, laidLooks := .later }
def FnExactDifferAtUptoCardSaid : Prop := Claim7.holds Tryz.pinned (.plain (OpenSpec.upto fnExactDifferAtSpec)) fnExactDifferAtUptoCard

/-- THE SECOND FORM's CARD OF 'laws.FnExactHazardsIn'. -/
def fnExactHazardsInUptoCard : Claim7 := { stood := { row := fnExactHazardsInUptoRow, standIns := [], harness := (true, "c2068e43cf7cf88ae8cb227520b4a90a023b37fe13c2c230b66be344e249d299"), looks := true }, kinds := [], alts := [], laidByText := true, laidKinds := [.data], laidTests := true, laidLooks := .later }
def FnExactHazardsInUptoCardSaid : Prop := Claim7.holds Tryz.pinned (.plain (OpenSpec.upto fnExactHazardsInSpec)) fnExactHazardsInUptoCard

/-- THE SECOND FORM's CARD OF 'laws.FnExactLoadedParts'. -/
def fnExactLoadedPartsUptoCard : Claim7 := { stood := { row := fnExactLoadedPartsUptoRow, standIns := [], harness := (true, "c2068e43cf7cf88ae8cb227520b4a90a023b37fe13c2c230b66be344e249d299"), looks := true }, kinds := [], alts := [], laidByText := true, laidKinds := [.data], laidTests := true, laidLooks := .later }
def FnExactLoadedPartsUptoCardSaid : Prop := Claim7.holds Tryz.pinned (.plain (OpenSpec.upto fnExactLoadedPartsSpec)) fnExactLoadedPartsUptoCard
end Rows
end Go.Proofs.YtaapdjidiahmpaaGreatDoor
