/-
  DERIVED. GIVEN WITH THE SEED: THE CARDS: each row of YtmllfacgonchnaaDoorRows.lean that lists a variable, with what it lists TIED to the program's text (the seventh form; the later family's looks); each row that meets fmt, with fmt's text TOLD by the authors' own Lean function (tested against real Go, not proved from fmt's source: count such statements apart). THE CARD IS WHAT COUNTS. Prove the row's statement (the work); the ties are given (YtmllfacgonchnaaDoorTie.lean); close each card by the builder's one call (the guide's Derived/Test/ToyasCard.lean, 'card_holds'). Laid BY PROGRAM, IN A SANDBOX (cutbox-door.mjs). By AI agents, Wed Nov 11 2026. No macro, syntax, notation, axiom, sorry.
-/
import Derived.Test.YtmllfacgonchnaaDoorRows
import GoSem.ClaimSeven
namespace Go.Proofs.YtmllfacgonchnaaDoor
namespace Rows

/-- THE TIED CARD OF 'laws.FnExactBoardText'. -/
def fnExactBoardTextCard : Claim7 := { stood := { row := fnExactBoardTextRow, standIns := [], harness := (true, "c86dbfffaf70c3c0f6e28a002827983a45b0fea8336726e3de167ec463d17b2d"), looks := false }, kinds := [], alts := [], laidByText := true, laidKinds := [.data, .data, .data, .data], laidTests := true, laidLooks := .later }
def FnExactBoardTextCardSaid : Prop := Claim7.holds Tryd.pinned (.plain (OpenSpec.ofChange fnExactBoardTextSpec)) fnExactBoardTextCard

/-- THE TIED CARD OF 'laws.FnExactPushesText'. -/
def fnExactPushesTextCard : Claim7 := { stood := { row := fnExactPushesTextRow, standIns := [], harness := (true, "c86dbfffaf70c3c0f6e28a002827983a45b0fea8336726e3de167ec463d17b2d"), looks := false }, kinds := [], alts := [], laidByText := true, laidKinds := [.data, .data, .data, .data], laidTests := true, laidLooks := .later }
def FnExactPushesTextCardSaid : Prop := Claim7.holds Tryd.pinned (.plain (OpenSpec.ofChange fnExactPushesTextSpec)) fnExactPushesTextCard

/-- THE TIED CARD OF 'laws.FnExactWayText'. -/
def fnExactWayTextCard : Claim7 := { stood := { row := fnExactWayTextRow, standIns := [], harness := (true, "c86dbfffaf70c3c0f6e28a002827983a45b0fea8336726e3de167ec463d17b2d"), looks := false }, kinds := [], alts := [], laidByText := true, laidKinds := [.data, .data, .data, .data], laidTests := true, laidLooks := .later }
def FnExactWayTextCardSaid : Prop := Claim7.holds Tryd.pinned (.plain (OpenSpec.ofChange fnExactWayTextSpec)) fnExactWayTextCard

/-- THE TIED CARD OF 'laws.FnExactSpansText'. -/
def fnExactSpansTextCard : Claim7 := { stood := { row := fnExactSpansTextRow, standIns := [], harness := (true, "c86dbfffaf70c3c0f6e28a002827983a45b0fea8336726e3de167ec463d17b2d"), looks := false }, kinds := [], alts := [], laidByText := true, laidKinds := [.data, .data, .data], laidTests := true, laidLooks := .later }
def FnExactSpansTextCardSaid : Prop := Claim7.holds Tryd.pinned (.plain (OpenSpec.ofChange fnExactSpansTextSpec)) fnExactSpansTextCard

/-- THE TIED CARD OF 'laws.FnExactKnocksText'. -/
def fnExactKnocksTextCard : Claim7 := { stood := { row := fnExactKnocksTextRow, standIns := [], harness := (true, "c86dbfffaf70c3c0f6e28a002827983a45b0fea8336726e3de167ec463d17b2d"), looks := false }, kinds := [], alts := [], laidByText := true, laidKinds := [.data, .data, .data, .data], laidTests := true, laidLooks := .later }
def FnExactKnocksTextCardSaid : Prop := Claim7.holds Tryd.pinned (.plain (OpenSpec.ofChange fnExactKnocksTextSpec)) fnExactKnocksTextCard

/-- THE TIED CARD OF 'laws.FnExactMachineText'. -/
def fnExactMachineTextCard : Claim7 := { stood := { row := fnExactMachineTextRow, standIns := [], harness := (true, "c86dbfffaf70c3c0f6e28a002827983a45b0fea8336726e3de167ec463d17b2d"), looks := false }, kinds := [], alts := [], laidByText := true, laidKinds := [.data, .data, .data, .data, .data], laidTests := true, laidLooks := .later }
def FnExactMachineTextCardSaid : Prop := Claim7.holds Tryd.pinned (.plain (OpenSpec.ofChange fnExactMachineTextSpec)) fnExactMachineTextCard

/-- THE SECOND FORM's CARD OF 'laws.FnExactBoardText'. -/
def fnExactBoardTextUptoCard : Claim7 := { stood := { row := fnExactBoardTextUptoRow, standIns := [], harness := (true, "c86dbfffaf70c3c0f6e28a002827983a45b0fea8336726e3de167ec463d17b2d"), looks := false }, kinds := [], alts := [], laidByText := true, laidKinds := [.data, .data, .data, .data], laidTests := true, laidLooks := .later }
def FnExactBoardTextUptoCardSaid : Prop := Claim7.holds Tryd.pinned (.plain (OpenSpec.upto fnExactBoardTextSpec)) fnExactBoardTextUptoCard

/-- THE SECOND FORM's CARD OF 'laws.FnExactPushesText'. -/
def fnExactPushesTextUptoCard : Claim7 := { stood := { row := fnExactPushesTextUptoRow, standIns := [], harness := (true, "c86dbfffaf70c3c0f6e28a002827983a45b0fea8336726e3de167ec463d17b2d"), looks := false }, kinds := [], alts := [], laidByText := true, laidKinds := [.data, .data, .data, .data], laidTests := true, laidLooks := .later }
def FnExactPushesTextUptoCardSaid : Prop := Claim7.holds Tryd.pinned (.plain (OpenSpec.upto fnExactPushesTextSpec)) fnExactPushesTextUptoCard

/-- THE SECOND FORM's CARD OF 'laws.FnExactWayText'. -/
def fnExactWayTextUptoCard : Claim7 := { stood := { row := fnExactWayTextUptoRow, standIns := [], harness := (true, "c86dbfffaf70c3c0f6e28a002827983a45b0fea8336726e3de167ec463d17b2d"), looks := false }, kinds := [], alts := [], laidByText := true, laidKinds := [.data, .data, .data, .data], laidTests := true, laidLooks := .later }
def FnExactWayTextUptoCardSaid : Prop := Claim7.holds Tryd.pinned (.plain (OpenSpec.upto fnExactWayTextSpec)) fnExactWayTextUptoCard

/-- THE SECOND FORM's CARD OF 'laws.FnExactSpansText'. -/
def fnExactSpansTextUptoCard : Claim7 := { stood := { row := fnExactSpansTextUptoRow, standIns := [], harness := (true, "c86dbfffaf70c3c0f6e28a002827983a45b0fea8336726e3de167ec463d17b2d"), looks := false }, kinds := [], alts := [], laidByText := true, laidKinds := [.data, .data, .data], laidTests := true, laidLooks := .later }
def FnExactSpansTextUptoCardSaid : Prop := Claim7.holds Tryd.pinned (.plain (OpenSpec.upto fnExactSpansTextSpec)) fnExactSpansTextUptoCard

/-- THE SECOND FORM's CARD OF 'laws.FnExactKnocksText'. -/
def fnExactKnocksTextUptoCard : Claim7 := { stood := { row := fnExactKnocksTextUptoRow, standIns := [], harness := (true, "c86dbfffaf70c3c0f6e28a002827983a45b0fea8336726e3de167ec463d17b2d"), looks := false }, kinds := [], alts := [], laidByText := true, laidKinds := [.data, .data, .data, .data], laidTests := true, laidLooks := .later }
def FnExactKnocksTextUptoCardSaid : Prop := Claim7.holds Tryd.pinned (.plain (OpenSpec.upto fnExactKnocksTextSpec)) fnExactKnocksTextUptoCard

/-- THE SECOND FORM's CARD OF 'laws.FnExactMachineText'. -/
def fnExactMachineTextUptoCard : Claim7 := { stood := { row := fnExactMachineTextUptoRow, standIns := [], harness := (true, "c86dbfffaf70c3c0f6e28a002827983a45b0fea8336726e3de167ec463d17b2d"), looks := false }, kinds := [], alts := [], laidByText := true, laidKinds := [.data, .data, .data, .data, .data], laidTests := true, laidLooks := .later }
def FnExactMachineTextUptoCardSaid : Prop := Claim7.holds Tryd.pinned (.plain (OpenSpec.upto fnExactMachineTextSpec)) fnExactMachineTextUptoCard
end Rows
end Go.Proofs.YtmllfacgonchnaaDoor
