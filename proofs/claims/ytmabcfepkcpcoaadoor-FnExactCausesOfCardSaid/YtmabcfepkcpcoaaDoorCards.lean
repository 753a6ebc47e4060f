/-
  DERIVED. GIVEN WITH THE SEED: THE CARDS: each row of YtmabcfepkcpcoaaDoorRows.lean that lists a variable, with what it lists TIED to the program's text (the seventh form; the later family's looks); each row that meets fmt, with fmt's text TOLD by the authors' own Lean function (tested against real Go, not proved from fmt's source: count such statements apart). THE CARD IS WHAT COUNTS. Prove the row's statement (the work); the ties are given (YtmabcfepkcpcoaaDoorTie.lean); close each card by the builder's one call (the guide's Derived/Test/ToyasCard.lean, 'card_holds'). Laid BY PROGRAM, IN A SANDBOX (cutbox-door.mjs). By AI agents, Wed Nov 11 2026. No macro, syntax, notation, axiom, sorry.
-/
import Derived.Test.YtmabcfepkcpcoaaDoorRows
import GoSem.ClaimSeven
namespace Go.Proofs.YtmabcfepkcpcoaaDoor
namespace Rows

/-- THE TIED CARD OF 'laws.FnExactRunBoard'. -/
def fnExactRunBoardCard : Claim7 := { stood := { row := fnExactRunBoardRow, standIns := [], harness := (true, "3b71233f701157d281caccdb9ede2bdfd1bcb916245d6c710e9ecc9983d4466c"), looks := true }, kinds := [], alts := [], laidByText := true, laidKinds := [.data], laidTests := true, laidLooks := .later }
def FnExactRunBoardCardSaid : Prop := Claim7.holds Tryd.pinned (.plain (OpenSpec.ofChange fnExactRunBoardSpec)) fnExactRunBoardCard

/-- THE TIED CARD OF 'laws.FnExactFallenUntil'. -/
def fnExactFallenUntilCard : Claim7 := { stood := { row := fnExactFallenUntilRow, standIns := [], harness := (true, "3b71233f701157d281caccdb9ede2bdfd1bcb916245d6c710e9ecc9983d4466c"), looks := true }, kinds := [], alts := [], laidByText := true, laidKinds := [.data], laidTests := true, laidLooks := .later }
def FnExactFallenUntilCardSaid : Prop := Claim7.holds Tryd.pinned (.plain (OpenSpec.ofChange fnExactFallenUntilSpec)) fnExactFallenUntilCard

/-- THE TIED CARD OF 'laws.FnExactStandingAfter'. -/
def fnExactStandingAfterCard : Claim7 := { stood := { row := fnExactStandingAfterRow, standIns := [], harness := (true, "3b71233f701157d281caccdb9ede2bdfd1bcb916245d6c710e9ecc9983d4466c"), looks := true }, kinds := [], alts := [], laidByText := true, laidKinds := [.data], laidTests := true, laidLooks := .later }
def FnExactStandingAfterCardSaid : Prop := Claim7.holds Tryd.pinned (.plain (OpenSpec.ofChange fnExactStandingAfterSpec)) fnExactStandingAfterCard

/-- THE TIED CARD OF 'laws.FnExactFallOrder'. -/
def fnExactFallOrderCard : Claim7 := { stood := { row := fnExactFallOrderRow, standIns := [], harness := (true, "3b71233f701157d281caccdb9ede2bdfd1bcb916245d6c710e9ecc9983d4466c"), looks := true }, kinds := [], alts := [], laidByText := true, laidKinds := [.data], laidTests := true, laidLooks := .later }
def FnExactFallOrderCardSaid : Prop := Claim7.holds Tryd.pinned (.plain (OpenSpec.ofChange fnExactFallOrderSpec)) fnExactFallOrderCard

/-- THE TIED CARD OF 'laws.FnExactLastTick'. -/
def fnExactLastTickCard : Claim7 := { stood := { row := fnExactLastTickRow, standIns := [], harness := (true, "3b71233f701157d281caccdb9ede2bdfd1bcb916245d6c710e9ecc9983d4466c"), looks := true }, kinds := [], alts := [], laidByText := true, laidKinds := [.data], laidTests := true, laidLooks := .later }
def FnExactLastTickCardSaid : Prop := Claim7.holds Tryd.pinned (.plain (OpenSpec.ofChange fnExactLastTickSpec)) fnExactLastTickCard

/-- THE TIED CARD OF 'laws.FnExactCausesOf'. -/
def fnExactCausesOfCard : Claim7 := { stood := { row := fnExactCausesOfRow, standIns := [], harness := (true, "3b71233f701157d281caccdb9ede2bdfd1bcb916245d6c710e9ecc9983d4466c"), looks := true }, kinds := [], alts := [], laidByText := true, laidKinds := [.data], laidTests := true, laidLooks := .later }
def FnExactCausesOfCardSaid : Prop := Claim7.holds Tryd.pinned (.plain (OpenSpec.ofChange fnExactCausesOfSpec)) fnExactCausesOfCard

/-- THE TIED CARD OF 'laws.FnExactCheckFalls'. -/
def fnExactCheckFallsCard : Claim7 := { stood := { row := fnExactCheckFallsRow, standIns := [], harness := (true, "3b71233f701157d281caccdb9ede2bdfd1bcb916245d6c710e9ecc9983d4466c"), looks := true }, kinds := [], alts := [], laidByText := true, laidKinds := [.data], laidTests := true, laidLooks := .later }
def FnExactCheckFallsCardSaid : Prop := Claim7.holds Tryd.pinned (.plain (OpenSpec.ofChange fnExactCheckFallsSpec)) fnExactCheckFallsCard

/-- THE TIED CARD OF 'laws.FnExactFirstWrong'. -/
def fnExactFirstWrongCard : Claim7 := { stood := { row := fnExactFirstWrongRow, standIns := [], harness := (true, "3b71233f701157d281caccdb9ede2bdfd1bcb916245d6c710e9ecc9983d4466c"), looks := true }, kinds := [], alts := [], laidByText := true, laidKinds := [.data], laidTests := true, laidLooks := .later }
def FnExactFirstWrongCardSaid : Prop := Claim7.holds Tryd.pinned (.plain (OpenSpec.ofChange fnExactFirstWrongSpec)) fnExactFirstWrongCard

/-- THE TIED CARD OF 'laws.FnExactPushOne'. -/
def fnExactPushOneCard : Claim7 := { stood := { row := fnExactPushOneRow, standIns := [], harness := (true, "3b71233f701157d281caccdb9ede2bdfd1bcb916245d6c710e9ecc9983d4466c"), looks := true }, kinds := [], alts := [], laidByText := true, laidKinds := [.data], laidTests := true, laidLooks := .later }
def FnExactPushOneCardSaid : Prop := Claim7.holds Tryd.pinned (.plain (OpenSpec.ofChange fnExactPushOneSpec)) fnExactPushOneCard

/-- THE TIED CARD OF 'laws.FnExactCountFrom'. -/
def fnExactCountFromCard : Claim7 := { stood := { row := fnExactCountFromRow, standIns := [], harness := (true, "3b71233f701157d281caccdb9ede2bdfd1bcb916245d6c710e9ecc9983d4466c"), looks := true }, kinds := [], alts := [], laidByText := true, laidKinds := [.data], laidTests := true, laidLooks := .later }
def FnExactCountFromCardSaid : Prop := Claim7.holds Tryd.pinned (.plain (OpenSpec.ofChange fnExactCountFromSpec)) fnExactCountFromCard

/-- THE TIED CARD OF 'laws.FnExactNeverHit'. -/
def fnExactNeverHitCard : Claim7 := { stood := { row := fnExactNeverHitRow, standIns := [], harness := (true, "3b71233f701157d281caccdb9ede2bdfd1bcb916245d6c710e9ecc9983d4466c"), looks := true }, kinds := [], alts := [], laidByText := true, laidKinds := [.data], laidTests := true, laidLooks := .later }
def FnExactNeverHitCardSaid : Prop := Claim7.holds Tryd.pinned (.plain (OpenSpec.ofChange fnExactNeverHitSpec)) fnExactNeverHitCard

/-- THE SECOND FORM's CARD OF 'laws.FnExactRunBoard'. -/
def fnExactRunBoardUptoCard : Claim7 := { stood := { row := fnExactRunBoardUptoRow, standIns := [], harness := (true, "3b71233f701157d281caccdb9ede2bdfd1bcb916245d6c710e9ecc9983d4466c"), looks := true }, kinds := [], alts := [], laidByText := true, laidKinds := [.data], laidTests := true, laidLooks := .later }
def FnExactRunBoardUptoCardSaid : Prop := Claim7.holds Tryd.pinned (.plain (OpenSpec.upto fnExactRunBoardSpec)) fnExactRunBoardUptoCard

/-- THE SECOND FORM's CARD OF 'laws.FnExactFallenUntil'. -/
def fnExactFallenUntilUptoCard : Claim7 := { stood := { row := fnExactFallenUntilUptoRow, standIns := [], harness := (true, "3b71233f701157d281caccdb9ede2bdfd1bcb916245d6c710e9ecc9983d4466c"), looks := true }, kinds := [], alts := [], laidByText := true, laidKinds := [.data], laidTests := true, laidLooks := .later }
def FnExactFallenUntilUptoCardSaid : Prop := Claim7.holds Tryd.pinned (.plain (OpenSpec.upto fnExactFallenUntilSpec)) fnExactFallenUntilUptoCard

/-- THE SECOND FORM's CARD OF 'laws.FnExactStandingAfter'. -/
def fnExactStandingAfterUptoCard : Claim7 := { stood := { row := fnExactStandingAfterUptoRow, standIns := [], harness := (true, "3b71233f701157d281caccdb9ede2bdfd1bcb916245d6c710e9ecc9983d4466c"), looks := true }, kinds := [], alts := [], laidByText := true, laidKinds := [.data], laidTests := true, laidLooks := .later }
def FnExactStandingAfterUptoCardSaid : Prop := Claim7.holds Tryd.pinned (.plain (OpenSpec.upto fnExactStandingAfterSpec)) fnExactStandingAfterUptoCard

/-- THE SECOND FORM's CARD OF 'laws.FnExactFallOrder'. -/
def fnExactFallOrderUptoCard : Claim7 := { stood := { row := fnExactFallOrderUptoRow, standIns := [], harness := (true, "3b71233f701157d281caccdb9ede2bdfd1bcb916245d6c710e9ecc9983d4466c"), looks := true }, kinds := [], alts := [], laidByText := true, laidKinds := [.data], laidTests := true, laidLooks := .later }
def FnExactFallOrderUptoCardSaid : Prop := Claim7.holds Tryd.pinned (.plain (OpenSpec.upto fnExactFallOrderSpec)) fnExactFallOrderUptoCard

/-- THE SECOND FORM's CARD OF 'laws.FnExactLastTick'. -/
def fnExactLastTickUptoCard : Claim7 := { stood := { row := fnExactLastTickUptoRow, standIns := [], harness := (true, "3b71233f701157d281caccdb9ede2bdfd1bcb916245d6c710e9ecc9983d4466c"), looks := true }, kinds := [], alts := [], laidByText := true, laidKinds := [.data], laidTests := true, laidLooks := .later }
def FnExactLastTickUptoCardSaid : Prop := Claim7.holds Tryd.pinned (.plain (OpenSpec.upto fnExactLastTickSpec)) fnExactLastTickUptoCard

/-- THE SECOND FORM's CARD OF 'laws.FnExactCausesOf'. -/
def fnExactCausesOfUptoCard : Claim7 := { stood := { row := fnExactCausesOfUptoRow, standIns := [], harness := (true, "3b71233f701157d281caccdb9ede2bdfd1bcb916245d6c710e9ecc9983d4466c"), looks := true }, kinds := [], alts := [], laidByText := true, laidKinds := [.data], laidTests := true, laidLooks := .later }
def FnExactCausesOfUptoCardSaid : Prop := Claim7.holds Tryd.pinned (.plain (OpenSpec.upto fnExactCausesOfSpec)) fnExactCausesOfUptoCard

/-- THE SECOND FORM's CARD OF 'laws.FnExactCheckFalls'. -/
def fnExactCheckFallsUptoCard : Claim7 := { stood := { row := fnExactCheckFallsUptoRow, standIns := [], harness := (true, "3b71233f701157d281caccdb9ede2bdfd1bcb916245d6c710e9ecc9983d4466c"), looks := true }, kinds := [], alts := [], laidByText := true, laidKinds := [.data], laidTests := true, laidLooks := .later }
def FnExactCheckFallsUptoCardSaid : Prop := Claim7.holds Tryd.pinned (.plain (OpenSpec.upto fnExactCheckFallsSpec)) fnExactCheckFallsUptoCard

/-- THE SECOND FORM's CARD OF 'laws.FnExactFirstWrong'. -/
def fnExactFirstWrongUptoCard : Claim7 := { stood := { row := fnExactFirstWrongUptoRow, standIns := [], harness := (true, "3b71233f701157d281caccdb9ede2bdfd1bcb916245d6c710e9ecc9983d4466c"), looks := true }, kinds := [], alts := [], laidByText := true, laidKinds := [.data], laidTests := true, laidLooks := .later }
def FnExactFirstWrongUptoCardSaid : Prop := Claim7.holds Tryd.pinned (.plain (OpenSpec.upto fnExactFirstWrongSpec)) fnExactFirstWrongUptoCard

/-- THE SECOND FORM's CARD OF 'laws.FnExactPushOne'. -/
def fnExactPushOneUptoCard : Claim7 := { stood := { row := fnExactPushOneUptoRow, standIns := [], harness := (true, "3b71233f701157d281caccdb9ede2bdfd1bcb916245d6c710e9ecc9983d4466c"), looks := true }, kinds := [], alts := [], laidByText := true, laidKinds := [.data], laidTests := true, laidLooks := .later }
def FnExactPushOneUptoCardSaid : Prop := Claim7.holds Tryd.pinned (.plain (OpenSpec.upto fnExactPushOneSpec)) fnExactPushOneUptoCard

/-- THE SECOND FORM's CARD OF 'laws.FnExactCountFrom'. -/
def fnExactCountFromUptoCard : Claim7 := { stood := { row := fnExactCountFromUptoRow, standIns := [], harness := (true, "3b71233f701157d281caccdb9ede2bdfd1bcb916245d6c710e9ecc9983d4466c"), looks := true }, kinds := [], alts := [], laidByText := true, laidKinds := [.data], laidTests := true, laidLooks := .later }
def FnExactCountFromUptoCardSaid : Prop := Claim7.holds Tryd.pinned (.plain (OpenSpec.upto fnExactCountFromSpec)) fnExactCountFromUptoCard

/-- THE SECOND FORM's CARD OF 'laws.FnExactNeverHit'. -/
def fnExactNeverHitUptoCard : Claim7 := { stood := { row := fnExactNeverHitUptoRow, standIns := [], harness := (true, "3b71233f701157d281caccdb9ede2bdfd1bcb916245d6c710e9ecc9983d4466c"), looks := true }, kinds := [], alts := [], laidByText := true, laidKinds := [.data], laidTests := true, laidLooks := .later }
def FnExactNeverHitUptoCardSaid : Prop := Claim7.holds Tryd.pinned (.plain (OpenSpec.upto fnExactNeverHitSpec)) fnExactNeverHitUptoCard
end Rows
end Go.Proofs.YtmabcfepkcpcoaaDoor
