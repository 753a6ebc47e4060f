/-
  DERIVED. GIVEN WITH THE SEED: THE CARDS: each row of YtobhppkcgioheaaDoorRows.lean that lists a variable, with what it lists TIED to the program's text (the seventh form; the later family's looks); each row that meets fmt, with fmt's text TOLD by the authors' own Lean function (tested against real Go, not proved from fmt's source: count such statements apart). THE CARD IS WHAT COUNTS. Prove the row's statement (the work); the ties are given (YtobhppkcgioheaaDoorTie.lean); close each card by the builder's one call (the guide's Derived/Test/ToyasCard.lean, 'card_holds'). Laid BY PROGRAM, IN A SANDBOX (cutbox-door.mjs). By AI agents, Wed Nov 11 2026. No macro, syntax, notation, axiom, sorry.
-/
import Derived.Test.YtobhppkcgioheaaDoorRows
import GoSem.ClaimSeven
namespace Go.Proofs.YtobhppkcgioheaaDoor
namespace Rows

/-- THE TIED CARD OF 'laws.FnExactReadWay'. -/
def fnExactReadWayCard : Claim7 := { stood := { row := fnExactReadWayRow, standIns := [], harness := (true, "823631560a66f148f20d2893f516a7d71e9f74d92fc339fcd3bfa1f59866e020"), looks := true }, kinds := [], alts := [], laidByText := true, laidKinds := [.data, .data, .data, .data, .sentinel, .sentinel, .data, .pinned], laidTests := true, laidLooks := .later }
def FnExactReadWayCardSaid : Prop := Claim7.holds Tryd.pinned (.plain (OpenSpec.ofChange fnExactReadWaySpec)) fnExactReadWayCard

/-- THE TIED CARD OF 'laws.FnExactReadBoard'. -/
def fnExactReadBoardCard : Claim7 := { stood := { row := fnExactReadBoardRow, standIns := [], harness := (true, "823631560a66f148f20d2893f516a7d71e9f74d92fc339fcd3bfa1f59866e020"), looks := true }, kinds := [], alts := [], laidByText := true, laidKinds := [.data, .data, .data, .data, .sentinel, .sentinel, .data, .pinned], laidTests := true, laidLooks := .later }
def FnExactReadBoardCardSaid : Prop := Claim7.holds Tryd.pinned (.plain (OpenSpec.ofChange fnExactReadBoardSpec)) fnExactReadBoardCard

/-- THE TIED CARD OF 'laws.FnExactReadKnocks'. -/
def fnExactReadKnocksCard : Claim7 := { stood := { row := fnExactReadKnocksRow, standIns := [], harness := (true, "823631560a66f148f20d2893f516a7d71e9f74d92fc339fcd3bfa1f59866e020"), looks := true }, kinds := [], alts := [], laidByText := true, laidKinds := [.data, .data, .data, .data, .sentinel, .sentinel, .data, .pinned], laidTests := true, laidLooks := .later }
def FnExactReadKnocksCardSaid : Prop := Claim7.holds Tryd.pinned (.plain (OpenSpec.ofChange fnExactReadKnocksSpec)) fnExactReadKnocksCard

/-- THE TIED CARD OF 'laws.FnExactReadPushes'. -/
def fnExactReadPushesCard : Claim7 := { stood := { row := fnExactReadPushesRow, standIns := [], harness := (true, "823631560a66f148f20d2893f516a7d71e9f74d92fc339fcd3bfa1f59866e020"), looks := true }, kinds := [], alts := [], laidByText := true, laidKinds := [.data, .data, .data, .data, .sentinel, .sentinel, .data, .pinned], laidTests := true, laidLooks := .later }
def FnExactReadPushesCardSaid : Prop := Claim7.holds Tryd.pinned (.plain (OpenSpec.ofChange fnExactReadPushesSpec)) fnExactReadPushesCard

/-- THE TIED CARD OF 'laws.FnExactReadSpans'. -/
def fnExactReadSpansCard : Claim7 := { stood := { row := fnExactReadSpansRow, standIns := [], harness := (true, "823631560a66f148f20d2893f516a7d71e9f74d92fc339fcd3bfa1f59866e020"), looks := true }, kinds := [], alts := [], laidByText := true, laidKinds := [.data, .data, .data, .data, .sentinel, .sentinel, .pinned], laidTests := true, laidLooks := .later }
def FnExactReadSpansCardSaid : Prop := Claim7.holds Tryd.pinned (.plain (OpenSpec.ofChange fnExactReadSpansSpec)) fnExactReadSpansCard

/-- THE TIED CARD OF 'laws.FnExactReadNetwork'. -/
def fnExactReadNetworkCard : Claim7 := { stood := { row := fnExactReadNetworkRow, standIns := [], harness := (true, "823631560a66f148f20d2893f516a7d71e9f74d92fc339fcd3bfa1f59866e020"), looks := true }, kinds := [], alts := [], laidByText := true, laidKinds := [.data, .data, .data, .data, .sentinel, .sentinel, .data, .data, .pinned], laidTests := true, laidLooks := .later }
def FnExactReadNetworkCardSaid : Prop := Claim7.holds Tryd.pinned (.plain (OpenSpec.ofChange fnExactReadNetworkSpec)) fnExactReadNetworkCard

/-- THE TIED CARD OF 'laws.FnExactNetworkText'. -/
def fnExactNetworkTextCard : Claim7 := { stood := { row := fnExactNetworkTextRow, standIns := [], harness := (true, "823631560a66f148f20d2893f516a7d71e9f74d92fc339fcd3bfa1f59866e020"), looks := true }, kinds := [], alts := [], laidByText := true, laidKinds := [.data, .data, .data, .data, .data], laidTests := true, laidLooks := .later }
def FnExactNetworkTextCardSaid : Prop := Claim7.holds Tryd.pinned (.plain (OpenSpec.ofChange fnExactNetworkTextSpec)) fnExactNetworkTextCard

/-- THE SECOND FORM's CARD OF 'laws.FnExactReadWay'. -/
def fnExactReadWayUptoCard : Claim7 := { stood := { row := fnExactReadWayUptoRow, standIns := [], harness := (true, "823631560a66f148f20d2893f516a7d71e9f74d92fc339fcd3bfa1f59866e020"), looks := true }, kinds := [], alts := [], laidByText := true, laidKinds := [.data, .data, .data, .data, .sentinel, .sentinel, .data, .pinned], laidTests := true, laidLooks := .later }
def FnExactReadWayUptoCardSaid : Prop := Claim7.holds Tryd.pinned (.plain (OpenSpec.upto fnExactReadWaySpec)) fnExactReadWayUptoCard

/-- THE SECOND FORM's CARD OF 'laws.FnExactReadBoard'. -/
def fnExactReadBoardUptoCard : Claim7 := { stood := { row := fnExactReadBoardUptoRow, standIns := [], harness := (true, "823631560a66f148f20d2893f516a7d71e9f74d92fc339fcd3bfa1f59866e020"), looks := true }, kinds := [], alts := [], laidByText := true, laidKinds := [.data, .data, .data, .data, .sentinel, .sentinel, .data, .pinned], laidTests := true, laidLooks := .later }
def FnExactReadBoardUptoCardSaid : Prop := Claim7.holds Tryd.pinned (.plain (OpenSpec.upto fnExactReadBoardSpec)) fnExactReadBoardUptoCard

/-- THE SECOND FORM's CARD OF 'laws.FnExactReadKnocks'. -/
def fnExactReadKnocksUptoCard : Claim7 := { stood := { row := fnExactReadKnocksUptoRow, standIns := [], harness := (true, "823631560a66f148f20d2893f516a7d71e9f74d92fc339fcd3bfa1f59866e020"), looks := true }, kinds := [], alts := [], laidByText := true, laidKinds := [.data, .data, .data, .data, .sentinel, .sentinel, .data, .pinned], laidTests := true, laidLooks := .later }
def FnExactReadKnocksUptoCardSaid : Prop := Claim7.holds Tryd.pinned (.plain (OpenSpec.upto fnExactReadKnocksSpec)) fnExactReadKnocksUptoCard

/-- THE SECOND FORM's CARD OF 'laws.FnExactReadPushes'. -/
def fnExactReadPushesUptoCard : Claim7 := { stood := { row := fnExactReadPushesUptoRow, standIns := [], harness := (true, "823631560a66f148f20d2893f516a7d71e9f74d92fc339fcd3bfa1f59866e020"), looks := true }, kinds := [], alts := [], laidByText := true, laidKinds := [.data, .data, .data, .data, .sentinel, .sentinel, .data, .pinned], laidTests := true, laidLooks := .later }
def FnExactReadPushesUptoCardSaid : Prop := Claim7.holds Tryd.pinned (.plain (OpenSpec.upto fnExactReadPushesSpec)) fnExactReadPushesUptoCard

/-- THE SECOND FORM's CARD OF 'laws.FnExactReadSpans'. -/
def fnExactReadSpansUptoCard : Claim7 := { stood := { row := fnExactReadSpansUptoRow, standIns := [], harness := (true, "823631560a66f148f20d2893f516a7d71e9f74d92fc339fcd3bfa1f59866e020"), looks := true }, kinds := [], alts := [], laidByText := true, laidKinds := [.data, .data, .data, .data, .sentinel, .sentinel, .pinned], laidTests := true, laidLooks := .later }
def FnExactReadSpansUptoCardSaid : Prop := Claim7.holds Tryd.pinned (.plain (OpenSpec.upto fnExactReadSpansSpec)) fnExactReadSpansUptoCard

/-- THE SECOND FORM's CARD OF 'laws.FnExactReadNetwork'. -/
def fnExactReadNetworkUptoCard : Claim7 := { stood := { row := fnExactReadNetworkUptoRow, standIns := [], harness := (true, "823631560a66f148f20d2893f516a7d71e9f74d92fc339fcd3bfa1f59866e020"), looks := true }, kinds := [], alts := [], laidByText := true, laidKinds := [.data, .data, .data, .data, .sentinel, .sentinel, .data, .data, .pinned], laidTests := true, laidLooks := .later }
def FnExactReadNetworkUptoCardSaid : Prop := Claim7.holds Tryd.pinned (.plain (OpenSpec.upto fnExactReadNetworkSpec)) fnExactReadNetworkUptoCard

/-- THE SECOND FORM's CARD OF 'laws.FnExactNetworkText'. -/
def fnExactNetworkTextUptoCard : Claim7 := { stood := { row := fnExactNetworkTextUptoRow, standIns := [], harness := (true, "823631560a66f148f20d2893f516a7d71e9f74d92fc339fcd3bfa1f59866e020"), looks := true }, kinds := [], alts := [], laidByText := true, laidKinds := [.data, .data, .data, .data, .data], laidTests := true, laidLooks := .later }
def FnExactNetworkTextUptoCardSaid : Prop := Claim7.holds Tryd.pinned (.plain (OpenSpec.upto fnExactNetworkTextSpec)) fnExactNetworkTextUptoCard
end Rows
end Go.Proofs.YtobhppkcgioheaaDoor
