/-
  DERIVED. GIVEN WITH THE SEED: THE CARDS: each row of YtebicgfoaefabaaDoorRows.lean that lists a variable, with what it lists TIED to the program's text (the seventh form; the later family's looks); each row that meets fmt, with fmt's text TOLD by the authors' own Lean function (tested against real Go, not proved from fmt's source: count such statements apart). THE CARD IS WHAT COUNTS. Prove the row's statement (the work); the ties are given (YtebicgfoaefabaaDoorTie.lean); close each card by the builder's one call (the guide's Derived/Test/ToyasCard.lean, 'card_holds'). Laid BY PROGRAM, IN A SANDBOX (cutbox-door.mjs). By AI agents, Wed Nov 11 2026. No macro, syntax, notation, axiom, sorry.
-/
import Derived.Test.YtebicgfoaefabaaDoorRows
import GoSem.ClaimSeven
namespace Go.Proofs.YtebicgfoaefabaaDoor
namespace Rows

/-- THE TIED CARD OF 'laws.FnExactDiffer'. -/
def fnExactDifferCard : Claim7 := { stood := { row := fnExactDifferRow, standIns := [], harness := (true, "f59c03d96d8c1ab284661384ea3a639639fe72e4e9ce8e23c553498e0740b8be"), looks := false }, kinds := [], alts := [], laidByText := true, laidKinds := [.data], laidTests := true, laidLooks := .later }
def FnExactDifferCardSaid : Prop := Claim7.holds Tryd.pinned (.plain (OpenSpec.ofChange fnExactDifferSpec)) fnExactDifferCard

/-- THE TIED CARD OF 'laws.FnExactDepthOf'. -/
def fnExactDepthOfCard : Claim7 := { stood := { row := fnExactDepthOfRow, standIns := [], harness := (true, "f59c03d96d8c1ab284661384ea3a639639fe72e4e9ce8e23c553498e0740b8be"), looks := false }, kinds := [], alts := [], laidByText := true, laidKinds := [.data], laidTests := true, laidLooks := .later }
def FnExactDepthOfCardSaid : Prop := Claim7.holds Tryd.pinned (.plain (OpenSpec.ofChange fnExactDepthOfSpec)) fnExactDepthOfCard

/-- THE SECOND FORM's CARD OF 'laws.FnExactDiffer'. -/
def fnExactDifferUptoCard : Claim7 := { stood := { row := fnExactDifferUptoRow, standIns := [], harness := (true, "f59c03d96d8c1ab284661384ea3a639639fe72e4e9ce8e23c553498e0740b8be"), looks := false }, kinds := [], alts := [], laidByText := true, laidKinds := [.data], laidTests := true, laidLooks := .later }
def FnExactDifferUptoCardSaid : Prop := Claim7.holds Tryd.pinned (.plain (OpenSpec.upto fnExactDifferSpec)) fnExactDifferUptoCard

/-- THE SECOND FORM's CARD OF 'laws.FnExactDepthOf'. -/
def fnExactDepthOfUptoCard : Claim7 := { stood := { row := fnExactDepthOfUptoRow, standIns := [], harness := (true, "f59c03d96d8c1ab284661384ea3a639639fe72e4e9ce8e23c553498e0740b8be"), looks := false }, kinds := [], alts := [], laidByText := true, laidKinds := [.data], laidTests := true, laidLooks := .later }
def FnExactDepthOfUptoCardSaid : Prop := Claim7.holds Tryd.pinned (.plain (OpenSpec.upto fnExactDepthOfSpec)) fnExactDepthOfUptoCard
end Rows
end Go.Proofs.YtebicgfoaefabaaDoor
