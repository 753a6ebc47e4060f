/-
  DERIVED. GIVEN WITH THE SEED: THE CARDS: each row of YthngnbaoaeomeaaDoorRows.lean that lists a variable, with what it lists TIED to the program's text (the seventh form; the later family's looks); each row that meets fmt, with fmt's text TOLD by the authors' own Lean function (tested against real Go, not proved from fmt's source: count such statements apart). THE CARD IS WHAT COUNTS. Prove the row's statement (the work); the ties are given (YthngnbaoaeomeaaDoorTie.lean); close each card by the builder's one call (the guide's Derived/Test/ToyasCard.lean, 'card_holds'). Laid BY PROGRAM, IN A SANDBOX (cutbox-door.mjs). By AI agents, Wed Nov 11 2026. No macro, syntax, notation, axiom, sorry.
-/
import Derived.Test.YthngnbaoaeomeaaDoorRows
import GoSem.ClaimSeven
namespace Go.Proofs.YthngnbaoaeomeaaDoor
namespace Rows

/-- THE TIED CARD OF 'laws.FnExactReadNetwork'. -/
def fnExactReadNetworkCard : Claim7 := { stood := { row := fnExactReadNetworkRow, standIns := [], harness := (true, "61f7092c80afc994bb3a6aabb4bd8d3cea3b58db86e9e5f303aa9b69f9791158"), looks := true }, kinds := [], alts := [], laidByText := true, laidKinds := [.data, .data, .data, .data, .sentinel, .sentinel, .data, .data, .pinned], laidTests := true, laidLooks := .later }
def FnExactReadNetworkCardSaid : Prop := Claim7.holds Tryd.pinned (.plain (OpenSpec.ofChange fnExactReadNetworkSpec)) fnExactReadNetworkCard

/-- THE TIED CARD OF 'laws.FnExactReadPushes'. -/
def fnExactReadPushesCard : Claim7 := { stood := { row := fnExactReadPushesRow, standIns := [], harness := (true, "61f7092c80afc994bb3a6aabb4bd8d3cea3b58db86e9e5f303aa9b69f9791158"), looks := true }, kinds := [], alts := [], laidByText := true, laidKinds := [.data, .data, .data, .data, .sentinel, .sentinel, .data, .pinned], laidTests := true, laidLooks := .later }
def FnExactReadPushesCardSaid : Prop := Claim7.holds Tryd.pinned (.plain (OpenSpec.ofChange fnExactReadPushesSpec)) fnExactReadPushesCard

/-- THE TIED CARD OF 'laws.FnExactReadKnocks'. -/
def fnExactReadKnocksCard : Claim7 := { stood := { row := fnExactReadKnocksRow, standIns := [], harness := (true, "61f7092c80afc994bb3a6aabb4bd8d3cea3b58db86e9e5f303aa9b69f9791158"), looks := true }, kinds := [], alts := [], laidByText := true, laidKinds := [.data, .data, .data, .data, .sentinel, .sentinel, .data, .pinned], laidTests := true, laidLooks := .later }
def FnExactReadKnocksCardSaid : Prop := Claim7.holds Tryd.pinned (.plain (OpenSpec.ofChange fnExactReadKnocksSpec)) fnExactReadKnocksCard

/-- THE TIED CARD OF 'laws.FnExactReadSpans'. -/
def fnExactReadSpansCard : Claim7 := { stood := { row := fnExactReadSpansRow, standIns := [], harness := (true, "61f7092c80afc994bb3a6aabb4bd8d3cea3b58db86e9e5f303aa9b69f9791158"), looks := true }, kinds := [], alts := [], laidByText := true, laidKinds := [.data, .data, .data, .data, .sentinel, .sentinel, .pinned], laidTests := true, laidLooks := .later }
def FnExactReadSpansCardSaid : Prop := Claim7.holds Tryd.pinned (.plain (OpenSpec.ofChange fnExactReadSpansSpec)) fnExactReadSpansCard

/-- THE SECOND FORM's CARD OF 'laws.FnExactReadNetwork'. -/
def fnExactReadNetworkUptoCard : Claim7 := { stood := { row := fnExactReadNetworkUptoRow, standIns := [], harness := (true, "61f7092c80afc994bb3a6aabb4bd8d3cea3b58db86e9e5f303aa9b69f9791158"), looks := true }, kinds := [], alts := [], laidByText := true, laidKinds := [.data, .data, .data, .data, .sentinel, .sentinel, .data, .data, .pinned], laidTests := true, laidLooks := .later }
def FnExactReadNetworkUptoCardSaid : Prop := Claim7.holds Tryd.pinned (.plain (OpenSpec.upto fnExactReadNetworkSpec)) fnExactReadNetworkUptoCard

/-- THE SECOND FORM's CARD OF 'laws.FnExactReadPushes'. -/
def fnExactReadPushesUptoCard : Claim7 := { stood := { row := fnExactReadPushesUptoRow, standIns := [], harness := (true, "61f7092c80afc994bb3a6aabb4bd8d3cea3b58db86e9e5f303aa9b69f9791158"), looks := true }, kinds := [], alts := [], laidByText := true, laidKinds := [.data, .data, .data, .data, .sentinel, .sentinel, .data, .pinned], laidTests := true, laidLooks := .later }
def FnExactReadPushesUptoCardSaid : Prop := Claim7.holds Tryd.pinned (.plain (OpenSpec.upto fnExactReadPushesSpec)) fnExactReadPushesUptoCard

/-- THE SECOND FORM's CARD OF 'laws.FnExactReadKnocks'. -/
def fnExactReadKnocksUptoCard : Claim7 := { stood := { row := fnExactReadKnocksUptoRow, standIns := [], harness := (true, "61f7092c80afc994bb3a6aabb4bd8d3cea3b58db86e9e5f303aa9b69f9791158"), looks := true }, kinds := [], alts := [], laidByText := true, laidKinds := [.data, .data, .data, .data, .sentinel, .sentinel, .data, .pinned], laidTests := true, laidLooks := .later }
def FnExactReadKnocksUptoCardSaid : Prop := Claim7.holds Tryd.pinned (.plain (OpenSpec.upto fnExactReadKnocksSpec)) fnExactReadKnocksUptoCard

/-- THE SECOND FORM's CARD OF 'laws.FnExactReadSpans'. -/
def fnExactReadSpansUptoCard : Claim7 := { stood := { row := fnExactReadSpansUptoRow, standIns := [], harness := (true, "61f7092c80afc994bb3a6aabb4bd8d3cea3b58db86e9e5f303aa9b69f9791158"), looks := true }, kinds := [], alts := [], laidByText := true, laidKinds := [.data, .data, .data, .data, .sentinel, .sentinel, .pinned], laidTests := true, laidLooks := .later }
def FnExactReadSpansUptoCardSaid : Prop := Claim7.holds Tryd.pinned (.plain (OpenSpec.upto fnExactReadSpansSpec)) fnExactReadSpansUptoCard
end Rows
end Go.Proofs.YthngnbaoaeomeaaDoor
