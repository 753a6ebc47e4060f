/-
  DERIVED. GIVEN WITH THE SEED: THE CARDS: each row of YtcafoppnnlfmmaaGreatDoorRows.lean that lists a variable, with what it lists TIED to the program's text (the seventh form; the later family's looks); each row that meets fmt, with fmt's text TOLD by the authors' own Lean function (tested against real Go, not proved from fmt's source: count such statements apart). THE CARD IS WHAT COUNTS. Prove the row's statement (the work); the ties are given (YtcafoppnnlfmmaaGreatDoorTie.lean); close each card by the builder's one call (the guide's Derived/Test/ToyasCard.lean, 'card_holds'). Laid BY PROGRAM, IN A SANDBOX (cutbox-door.mjs). By AI agents, Wed Nov 11 2026. No macro, syntax, notation, axiom, sorry.
-/
import Derived.Test.YtcafoppnnlfmmaaGreatDoorRows
import GoSem.ClaimSeven
namespace Go.Proofs.YtcafoppnnlfmmaaGreatDoor
namespace Rows

/-- THE TIED CARD OF 'laws.FnExactMachineTables'. -/
def fnExactMachineTablesCard : Claim7 := { stood := { row := fnExactMachineTablesRow, standIns := [], harness := (true, "17b2d538e9255349f68e709aa8b18bdadc807623fe8d1407da91f4cdf6cb3074"), looks := true }, kinds := [], alts := [], laidByText := true, laidKinds := [.data], laidTests := true, laidLooks := .later }
def FnExactMachineTablesCardSaid : Prop := Claim7.holds Tryz.pinned (.plain (OpenSpec.ofChange fnExactMachineTablesSpec)) fnExactMachineTablesCard

/-- THE TIED CARD OF 'laws.FnExactSlowestRow'. -/
def fnExactSlowestRowCard : Claim7 := { stood := { row := fnExactSlowestRowRow, standIns := [], harness := (true, "17b2d538e9255349f68e709aa8b18bdadc807623fe8d1407da91f4cdf6cb3074"), looks := true }, kinds := [], alts := [], laidByText := true, laidKinds := [.data], laidTests := true, laidLooks := .later }
def FnExactSlowestRowCardSaid : Prop := Claim7.holds Tryz.pinned (.plain (OpenSpec.ofChange fnExactSlowestRowSpec)) fnExactSlowestRowCard

/-- THE TIED CARD OF 'laws.FnExactMachineNeeds'. -/
def fnExactMachineNeedsCard : Claim7 := { stood := { row := fnExactMachineNeedsRow, standIns := [], harness := (true, "17b2d538e9255349f68e709aa8b18bdadc807623fe8d1407da91f4cdf6cb3074"), looks := true }, kinds := [], alts := [], laidByText := true, laidKinds := [.data], laidTests := true, laidLooks := .later }
def FnExactMachineNeedsCardSaid : Prop := Claim7.holds Tryz.pinned (.plain (OpenSpec.ofChange fnExactMachineNeedsSpec)) fnExactMachineNeedsCard

/-- THE TIED CARD OF 'laws.FnExactRowWith'. -/
def fnExactRowWithCard : Claim7 := { stood := { row := fnExactRowWithRow, standIns := [], harness := (true, "17b2d538e9255349f68e709aa8b18bdadc807623fe8d1407da91f4cdf6cb3074"), looks := true }, kinds := [], alts := [], laidByText := true, laidKinds := [.data], laidTests := true, laidLooks := .later }
def FnExactRowWithCardSaid : Prop := Claim7.holds Tryz.pinned (.plain (OpenSpec.ofChange fnExactRowWithSpec)) fnExactRowWithCard

/-- THE TIED CARD OF 'laws.FnExactDifferAt'. -/
def fnExactDifferAtCard : Claim7 := { stood := { row := fnExactDifferAtRow, standIns := [], harness := (true, "17b2d538e9255349f68e709aa8b18bdadc807623fe8d1407da91f4cdf6cb3074"), looks := true }, kinds := [], alts := [], laidByText := true, laidKinds := [.data, .data], laidTests := true, laidLooks := .later }
def FnExactDifferAtCardSaid : Prop := Claim7.holds Tryz.pinned (.plain (OpenSpec.ofChange fnExactDifferAtSpec)) fnExactDifferAtCard

/-- THE TIED CARD OF 'laws.FnExactLoadedParts'. -/
def fnExactLoadedPartsCard : Claim7 := { stood := { row := fnExactLoadedPartsRow, standIns := [], harness := (true, "17b2d538e9255349f68e709aa8b18bdadc807623fe8d1407da91f4cdf6cb3074"), looks := true }, kinds := [], alts := [], laidByText := true, laidKinds := [.data], laidTests := true, laidLooks := .later }
def FnExactLoadedPartsCardSaid : Prop := Claim7.holds Tryz.pinned (.plain (OpenSpec.ofChange fnExactLoadedPartsSpec)) fnExactLoadedPartsCard

/-- THE SECOND FORM's CARD OF 'laws.FnExactMachineTables'. -/
def fnExactMachineTablesUptoCard : Claim7 := { stood := { row := fnExactMachineTablesUptoRow, standIns := [], harness := (true, "17b2d538e9255349f68e709aa8b18bdadc807623fe8d1407da91f4cdf6cb3074"), looks := true }, kinds := [], alts := [], laidByText := true, laidKinds := [.data], laidTests := true, laidLooks := .later }
def FnExactMachineTablesUptoCardSaid : Prop := Claim7.holds Tryz.pinned (.plain (OpenSpec.upto fnExactMachineTablesSpec)) fnExactMachineTablesUptoCard

/-- THE SECOND FORM's CARD OF 'laws.FnExactSlowestRow'. -/
def fnExactSlowestRowUptoCard : Claim7 := { stood := { row := fnExactSlowestRowUptoRow, standIns := [], harness := (true, "17b2d538e9255349f68e709aa8b18bdadc807623fe8d1407da91f4cdf6cb3074"), looks := true }, kinds := [], alts := [], laidByText := true, laidKinds := [.data], laidTests := true, laidLooks := .later }
def FnExactSlowestRowUptoCardSaid : Prop := Claim7.holds Tryz.pinned (.plain (OpenSpec.upto fnExactSlowestRowSpec)) fnExactSlowestRowUptoCard

/-- THE SECOND FORM's CARD OF 'laws.FnExactMachineNeeds'. -/
def fnExactMachineNeedsUptoCard : Claim7 := { stood := { row := fnExactMachineNeedsUptoRow, standIns := [], harness := (true, "17b2d538e9255349f68e709aa8b18bdadc807623fe8d1407da91f4cdf6cb3074"), looks := true }, kinds := [], alts := [], laidByText := true, laidKinds := [.data], laidTests := true, laidLooks := .later }
def FnExactMachineNeedsUptoCardSaid : Prop := Claim7.holds Tryz.pinned (.plain (OpenSpec.upto fnExactMachineNeedsSpec)) fnExactMachineNeedsUptoCard

/-- THE SECOND FORM's CARD OF 'laws.FnExactRowWith'. -/
def fnExactRowWithUptoCard : Claim7 := { stood := { row := fnExactRowWithUptoRow, standIns := [], harness := (true, "17b2d538e9255349f68e709aa8b18bdadc807623fe8d1407da91f4cdf6cb3074"), looks := true }, kinds := [], alts := [], laidByText := true, laidKinds := [.data], laidTests := true, laidLooks := .later }
def FnExactRowWithUptoCardSaid : Prop := Claim7.holds Tryz.pinned (.plain (OpenSpec.upto fnExactRowWithSpec)) fnExactRowWithUptoCard

/-- THE SECOND FORM's CARD OF 'laws.FnExactDifferAt'. -/
def fnExactDifferAtUptoCard : Claim7 := { stood := { row := fnExactDifferAtUptoRow, standIns := [], harness := (true, "17b2d538e9255349f68e709aa8b18bdadc807623fe8d1407da91f4cdf6cb3074"), looks := true }, kinds := [], alts := [], laidByText := true, laidKinds := [.data, .data], laidTests := true, laidLooks := .later }
def FnExactDifferAtUptoCardSaid : Prop := Claim7.holds Tryz.pinned (.plain (OpenSpec.upto fnExactDifferAtSpec)) fnExactDifferAtUptoCard

/-- THE SECOND FORM's CARD OF 'laws.FnExactLoadedParts'. -/
def fnExactLoadedPartsUptoCard : Claim7 := { stood := { row := fnExactLoadedPartsUptoRow, standIns := [], harness := (true, "17b2d538e9255349f68e709aa8b18bdadc807623fe8d1407da91f4cdf6cb3074"), looks := true }, kinds := [], alts := [], laidByText := true, laidKinds := [.data], laidTests := true, laidLooks := .later }
def FnExactLoadedPartsUptoCardSaid : Prop := Claim7.holds Tryz.pinned (.plain (OpenSpec.upto fnExactLoadedPartsSpec)) fnExactLoadedPartsUptoCard
end Rows
end Go.Proofs.YtcafoppnnlfmmaaGreatDoor
