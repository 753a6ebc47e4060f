/-
  DERIVED. GIVEN WITH THE SEED: THE CARDS: each row of YtflkfkbdgekpkaaDoorRows.lean that lists a variable, with what it lists TIED to the program's text (the seventh form; the later family's looks); each row that meets fmt, with fmt's text TOLD by the authors' own Lean function (tested against real Go, not proved from fmt's source: count such statements apart). THE CARD IS WHAT COUNTS. Prove the row's statement (the work); the ties are given (YtflkfkbdgekpkaaDoorTie.lean); close each card by the builder's one call (the guide's Derived/Test/ToyasCard.lean, 'card_holds'). Laid BY PROGRAM, IN A SANDBOX (cutbox-door.mjs). By AI agents, Wed Nov 11 2026. No macro, syntax, notation, axiom, sorry.
-/
import Derived.Test.YtflkfkbdgekpkaaDoorRows
import GoSem.ClaimSeven
namespace Go.Proofs.YtflkfkbdgekpkaaDoor
namespace Rows

/-- THE TIED CARD OF 'laws.FnExactCarriesPush'. -/
def fnExactCarriesPushCard : Claim7 := { stood := { row := fnExactCarriesPushRow, standIns := [], harness := (true, "f87f4070bdde9edae2c85b7b41802aca7f3e1429ca8cfe2f2b0f63ac215c19ce"), looks := true }, kinds := [], alts := [], laidByText := true, laidKinds := [.data], laidTests := true, laidLooks := .later }
def FnExactCarriesPushCardSaid : Prop := Claim7.holds Tryd.pinned (.plain (OpenSpec.ofChange fnExactCarriesPushSpec)) fnExactCarriesPushCard

/-- THE TIED CARD OF 'laws.FnExactNeverHit'. -/
def fnExactNeverHitCard : Claim7 := { stood := { row := fnExactNeverHitRow, standIns := [], harness := (true, "f87f4070bdde9edae2c85b7b41802aca7f3e1429ca8cfe2f2b0f63ac215c19ce"), looks := true }, kinds := [], alts := [], laidByText := true, laidKinds := [.data], laidTests := true, laidLooks := .later }
def FnExactNeverHitCardSaid : Prop := Claim7.holds Tryd.pinned (.plain (OpenSpec.ofChange fnExactNeverHitSpec)) fnExactNeverHitCard

/-- THE TIED CARD OF 'laws.FnExactCheckFalls'. -/
def fnExactCheckFallsCard : Claim7 := { stood := { row := fnExactCheckFallsRow, standIns := [], harness := (true, "f87f4070bdde9edae2c85b7b41802aca7f3e1429ca8cfe2f2b0f63ac215c19ce"), looks := true }, kinds := [], alts := [], laidByText := true, laidKinds := [.data], laidTests := true, laidLooks := .later }
def FnExactCheckFallsCardSaid : Prop := Claim7.holds Tryd.pinned (.plain (OpenSpec.ofChange fnExactCheckFallsSpec)) fnExactCheckFallsCard

/-- THE TIED CARD OF 'laws.FnExactFirstWrong'. -/
def fnExactFirstWrongCard : Claim7 := { stood := { row := fnExactFirstWrongRow, standIns := [], harness := (true, "f87f4070bdde9edae2c85b7b41802aca7f3e1429ca8cfe2f2b0f63ac215c19ce"), looks := true }, kinds := [], alts := [], laidByText := true, laidKinds := [.data], laidTests := true, laidLooks := .later }
def FnExactFirstWrongCardSaid : Prop := Claim7.holds Tryd.pinned (.plain (OpenSpec.ofChange fnExactFirstWrongSpec)) fnExactFirstWrongCard

/-- THE SECOND FORM's CARD OF 'laws.FnExactCarriesPush'. -/
def fnExactCarriesPushUptoCard : Claim7 := { stood := { row := fnExactCarriesPushUptoRow, standIns := [], harness := (true, "f87f4070bdde9edae2c85b7b41802aca7f3e1429ca8cfe2f2b0f63ac215c19ce"), looks := true }, kinds := [], alts := [], laidByText := true, laidKinds := [.data], laidTests := true, laidLooks := .later }
def FnExactCarriesPushUptoCardSaid : Prop := Claim7.holds Tryd.pinned (.plain (OpenSpec.upto fnExactCarriesPushSpec)) fnExactCarriesPushUptoCard

/-- THE SECOND FORM's CARD OF 'laws.FnExactNeverHit'. -/
def fnExactNeverHitUptoCard : Claim7 := { stood := { row := fnExactNeverHitUptoRow, standIns := [], harness := (true, "f87f4070bdde9edae2c85b7b41802aca7f3e1429ca8cfe2f2b0f63ac215c19ce"), looks := true }, kinds := [], alts := [], laidByText := true, laidKinds := [.data], laidTests := true, laidLooks := .later }
def FnExactNeverHitUptoCardSaid : Prop := Claim7.holds Tryd.pinned (.plain (OpenSpec.upto fnExactNeverHitSpec)) fnExactNeverHitUptoCard

/-- THE SECOND FORM's CARD OF 'laws.FnExactCheckFalls'. -/
def fnExactCheckFallsUptoCard : Claim7 := { stood := { row := fnExactCheckFallsUptoRow, standIns := [], harness := (true, "f87f4070bdde9edae2c85b7b41802aca7f3e1429ca8cfe2f2b0f63ac215c19ce"), looks := true }, kinds := [], alts := [], laidByText := true, laidKinds := [.data], laidTests := true, laidLooks := .later }
def FnExactCheckFallsUptoCardSaid : Prop := Claim7.holds Tryd.pinned (.plain (OpenSpec.upto fnExactCheckFallsSpec)) fnExactCheckFallsUptoCard

/-- THE SECOND FORM's CARD OF 'laws.FnExactFirstWrong'. -/
def fnExactFirstWrongUptoCard : Claim7 := { stood := { row := fnExactFirstWrongUptoRow, standIns := [], harness := (true, "f87f4070bdde9edae2c85b7b41802aca7f3e1429ca8cfe2f2b0f63ac215c19ce"), looks := true }, kinds := [], alts := [], laidByText := true, laidKinds := [.data], laidTests := true, laidLooks := .later }
def FnExactFirstWrongUptoCardSaid : Prop := Claim7.holds Tryd.pinned (.plain (OpenSpec.upto fnExactFirstWrongSpec)) fnExactFirstWrongUptoCard
end Rows
end Go.Proofs.YtflkfkbdgekpkaaDoor
