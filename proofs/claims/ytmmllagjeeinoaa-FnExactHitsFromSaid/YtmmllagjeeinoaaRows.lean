/-
  No cell of these rows narrows 'for every input' (looked for: loops, veiled, ifaces, maps, wideKeys, modest, calm, conditions, laid).
  DERIVED. THE GIVEN ROWS OF THIS SEAT. 8 by the template 'for every input the law returns true; each argument reads behind the call as it read before'; 0 by the template 'total and deterministic' (their statements: YtmmllagjeeinoaaTotals.lean).
  GIVEN WITH THE SEED: the statements are not yours to turn. If you find one false, say at which input.
  Laid BY PROGRAM, IN A SANDBOX (cutbox-rows.mjs): the forced cells as the released guide's own fill.sh prints them over the translation 30c8a88d4de0ac7a… (all of the seat's roots in one cut). By AI agents, Wed Nov 11 2026. No macro, syntax, notation, axiom, sorry.
-/
import Derived.Test.YtmmllagjeeinoaaChecked
import GoSem.Claim
import GoSem.ClaimJoined
import GoSem.ClaimMapViews
import Derived.JoinedTies
import Derived.KernelRfl
namespace Go.Proofs.Ytmmllagjeeinoaa
/- THE CELL 'sum', in the pinned program and in every row, IS THE sha256 OF THE DUMP (.gsa) THAT YtmmllagjeeinoaaProg.lean LOADS. Nothing in Lean hashes anything: it is a label: what it is worth is what the hold of that sum in a sandbox is worth. -/
noncomputable def Try.pinned : Pinned := { name := "ytmmllagjeeinoaa", sum := "30c8a88d4de0ac7a8722fb7cdc68f61a9338d8395389461fbfdfa659f3cc0fed", checked := Try.checked }
namespace Rows
def none {H : Type} : Left H := { results := [], args := [] }

/-- 'laws.FnExactCodeName': WHATEVER THE INPUT: true; the input reads as it did. -/
def fnExactCodeNameSpec : ChangeSpec := { name := "fnExactCodeName", fn := fun _ => fun
  | [d] => { results := [.lit (.bool true)], args := [d] }
  | _ => none }
def fnExactCodeNameRow : OpenClaim := { program := "ytmmllagjeeinoaa", sum := "30c8a88d4de0ac7a8722fb7cdc68f61a9338d8395389461fbfdfa659f3cc0fed", func := "loop.example/g01274/laws.FnExactCodeName", spec := "fnExactCodeName", apart := false }
def FnExactCodeNameSaid : Prop := fnExactCodeNameRow.holds Try.pinned (OpenSpec.ofChange fnExactCodeNameSpec)

/-- ITS FALSE NEIGHBOUR: 'it returns false'. Refute it at one input. -/
def fnExactCodeNameWrong : ChangeSpec := { name := "fnExactCodeName", fn := fun _ => fun
  | [d] => { results := [.lit (.bool false)], args := [d] }
  | _ => none }
def FnExactCodeNameWrongFalsely : Prop := fnExactCodeNameRow.holds Try.pinned (OpenSpec.ofChange fnExactCodeNameWrong)

/-- 'laws.FnExactOppositeSide': WHATEVER THE INPUT: true; the input reads as it did. -/
def fnExactOppositeSideSpec : ChangeSpec := { name := "fnExactOppositeSide", fn := fun _ => fun
  | [d] => { results := [.lit (.bool true)], args := [d] }
  | _ => none }
def fnExactOppositeSideRow : OpenClaim := { program := "ytmmllagjeeinoaa", sum := "30c8a88d4de0ac7a8722fb7cdc68f61a9338d8395389461fbfdfa659f3cc0fed", func := "loop.example/g01274/laws.FnExactOppositeSide", spec := "fnExactOppositeSide", apart := false }
def FnExactOppositeSideSaid : Prop := fnExactOppositeSideRow.holds Try.pinned (OpenSpec.ofChange fnExactOppositeSideSpec)

/-- ITS FALSE NEIGHBOUR: 'it returns false'. Refute it at one input. -/
def fnExactOppositeSideWrong : ChangeSpec := { name := "fnExactOppositeSide", fn := fun _ => fun
  | [d] => { results := [.lit (.bool false)], args := [d] }
  | _ => none }
def FnExactOppositeSideWrongFalsely : Prop := fnExactOppositeSideRow.holds Try.pinned (OpenSpec.ofChange fnExactOppositeSideWrong)

/-- 'laws.FnExactNextCell': WHATEVER THE INPUT: true; the input reads as it did. -/
def fnExactNextCellSpec : ChangeSpec := { name := "fnExactNextCell", fn := fun _ => fun
  | [d1, d2] => { results := [.lit (.bool true)], args := [d1, d2] }
  | _ => none }
def fnExactNextCellRow : OpenClaim := { program := "ytmmllagjeeinoaa", sum := "30c8a88d4de0ac7a8722fb7cdc68f61a9338d8395389461fbfdfa659f3cc0fed", func := "loop.example/g01274/laws.FnExactNextCell", spec := "fnExactNextCell", apart := false }
def FnExactNextCellSaid : Prop := fnExactNextCellRow.holds Try.pinned (OpenSpec.ofChange fnExactNextCellSpec)

/-- ITS FALSE NEIGHBOUR: 'it returns false'. Refute it at one input. -/
def fnExactNextCellWrong : ChangeSpec := { name := "fnExactNextCell", fn := fun _ => fun
  | [d1, d2] => { results := [.lit (.bool false)], args := [d1, d2] }
  | _ => none }
def FnExactNextCellWrongFalsely : Prop := fnExactNextCellRow.holds Try.pinned (OpenSpec.ofChange fnExactNextCellWrong)

/-- 'laws.FnExactValidPiece': WHATEVER THE INPUT: true; the input reads as it did. -/
def fnExactValidPieceSpec : ChangeSpec := { name := "fnExactValidPiece", fn := fun _ => fun
  | [d] => { results := [.lit (.bool true)], args := [d] }
  | _ => none }
def fnExactValidPieceRow : OpenClaim := { program := "ytmmllagjeeinoaa", sum := "30c8a88d4de0ac7a8722fb7cdc68f61a9338d8395389461fbfdfa659f3cc0fed", func := "loop.example/g01274/laws.FnExactValidPiece", spec := "fnExactValidPiece", apart := false }
def FnExactValidPieceSaid : Prop := fnExactValidPieceRow.holds Try.pinned (OpenSpec.ofChange fnExactValidPieceSpec)

/-- ITS FALSE NEIGHBOUR: 'it returns false'. Refute it at one input. -/
def fnExactValidPieceWrong : ChangeSpec := { name := "fnExactValidPiece", fn := fun _ => fun
  | [d] => { results := [.lit (.bool false)], args := [d] }
  | _ => none }
def FnExactValidPieceWrongFalsely : Prop := fnExactValidPieceRow.holds Try.pinned (OpenSpec.ofChange fnExactValidPieceWrong)

/-- 'laws.FnExactFallsFrom': WHATEVER THE INPUT: true; the input reads as it did. -/
def fnExactFallsFromSpec : ChangeSpec := { name := "fnExactFallsFrom", fn := fun _ => fun
  | [d1, d2] => { results := [.lit (.bool true)], args := [d1, d2] }
  | _ => none }
def fnExactFallsFromRow : OpenClaim := { program := "ytmmllagjeeinoaa", sum := "30c8a88d4de0ac7a8722fb7cdc68f61a9338d8395389461fbfdfa659f3cc0fed", func := "loop.example/g01274/laws.FnExactFallsFrom", spec := "fnExactFallsFrom", unfollowed := true, recurses := true, apart := false }
def FnExactFallsFromSaid : Prop := fnExactFallsFromRow.holds Try.pinned (OpenSpec.ofChange fnExactFallsFromSpec)

/-- ITS FALSE NEIGHBOUR: 'it returns false'. Refute it at one input. -/
def fnExactFallsFromWrong : ChangeSpec := { name := "fnExactFallsFrom", fn := fun _ => fun
  | [d1, d2] => { results := [.lit (.bool false)], args := [d1, d2] }
  | _ => none }
def FnExactFallsFromWrongFalsely : Prop := fnExactFallsFromRow.holds Try.pinned (OpenSpec.ofChange fnExactFallsFromWrong)

/-- 'laws.FnExactHitsFrom': WHATEVER THE INPUT: true; the input reads as it did. -/
def fnExactHitsFromSpec : ChangeSpec := { name := "fnExactHitsFrom", fn := fun _ => fun
  | [d1, d2] => { results := [.lit (.bool true)], args := [d1, d2] }
  | _ => none }
def fnExactHitsFromRow : OpenClaim := { program := "ytmmllagjeeinoaa", sum := "30c8a88d4de0ac7a8722fb7cdc68f61a9338d8395389461fbfdfa659f3cc0fed", func := "loop.example/g01274/laws.FnExactHitsFrom", spec := "fnExactHitsFrom", unfollowed := true, recurses := true, apart := false }
def FnExactHitsFromSaid : Prop := fnExactHitsFromRow.holds Try.pinned (OpenSpec.ofChange fnExactHitsFromSpec)

/-- ITS FALSE NEIGHBOUR: 'it returns false'. Refute it at one input. -/
def fnExactHitsFromWrong : ChangeSpec := { name := "fnExactHitsFrom", fn := fun _ => fun
  | [d1, d2] => { results := [.lit (.bool false)], args := [d1, d2] }
  | _ => none }
def FnExactHitsFromWrongFalsely : Prop := fnExactHitsFromRow.holds Try.pinned (OpenSpec.ofChange fnExactHitsFromWrong)

/-- 'laws.FnExactTurnPiece': WHATEVER THE INPUT: true; the input reads as it did. -/
def fnExactTurnPieceSpec : ChangeSpec := { name := "fnExactTurnPiece", fn := fun _ => fun
  | [d1, d2] => { results := [.lit (.bool true)], args := [d1, d2] }
  | _ => none }
def fnExactTurnPieceRow : OpenClaim := { program := "ytmmllagjeeinoaa", sum := "30c8a88d4de0ac7a8722fb7cdc68f61a9338d8395389461fbfdfa659f3cc0fed", func := "loop.example/g01274/laws.FnExactTurnPiece", spec := "fnExactTurnPiece", apart := false }
def FnExactTurnPieceSaid : Prop := fnExactTurnPieceRow.holds Try.pinned (OpenSpec.ofChange fnExactTurnPieceSpec)

/-- ITS FALSE NEIGHBOUR: 'it returns false'. Refute it at one input. -/
def fnExactTurnPieceWrong : ChangeSpec := { name := "fnExactTurnPiece", fn := fun _ => fun
  | [d1, d2] => { results := [.lit (.bool false)], args := [d1, d2] }
  | _ => none }
def FnExactTurnPieceWrongFalsely : Prop := fnExactTurnPieceRow.holds Try.pinned (OpenSpec.ofChange fnExactTurnPieceWrong)

/-- 'laws.FnExactAlikePieces': WHATEVER THE INPUT: true; the input reads as it did. -/
def fnExactAlikePiecesSpec : ChangeSpec := { name := "fnExactAlikePieces", fn := fun _ => fun
  | [d1, d2] => { results := [.lit (.bool true)], args := [d1, d2] }
  | _ => none }
def fnExactAlikePiecesRow : OpenClaim := { program := "ytmmllagjeeinoaa", sum := "30c8a88d4de0ac7a8722fb7cdc68f61a9338d8395389461fbfdfa659f3cc0fed", func := "loop.example/g01274/laws.FnExactAlikePieces", spec := "fnExactAlikePieces", unfollowed := true, recurses := true, apart := false }
def FnExactAlikePiecesSaid : Prop := fnExactAlikePiecesRow.holds Try.pinned (OpenSpec.ofChange fnExactAlikePiecesSpec)

/-- ITS FALSE NEIGHBOUR: 'it returns false'. Refute it at one input. -/
def fnExactAlikePiecesWrong : ChangeSpec := { name := "fnExactAlikePieces", fn := fun _ => fun
  | [d1, d2] => { results := [.lit (.bool false)], args := [d1, d2] }
  | _ => none }
def FnExactAlikePiecesWrongFalsely : Prop := fnExactAlikePiecesRow.holds Try.pinned (OpenSpec.ofChange fnExactAlikePiecesWrong)

/- THE SECOND FORM. 'bulk': how many values and letters a reading holds, each counted each time it is reached (what is shared counts as often as it is met; a slice's spare places count too). A statement '..UptoSaid' is the law's where the arguments, and the package variables that the reading takes, are together of bulk at most 1048576: NARROWER than '..Said'. Prove '..Said' where nothing that the law and all that it calls make is longer than what came in: it says more and counts as full. Else prove '..UptoSaid'. A law counts once. -/
mutual
def uptoBulk {H : Type} : DataW H → Nat
  | .lit (.string bytes) => bytes.length + 1
  | .lit _ => 1
  | .nil => 1
  | .ptr d => uptoBulk d + 1
  | .slice elems spare => uptoBulkAll elems + uptoBulkAll spare + 1
  | .agg parts => uptoBulkAll parts + 1
  | .iface _ d => uptoBulk d + 1
  | .map entries => uptoBulkEntries entries + 1
  | .held _ => 1
def uptoBulkAll {H : Type} : List (DataW H) → Nat
  | [] => 0
  | d :: r => uptoBulk d + uptoBulkAll r
def uptoBulkEntries {H : Type} : List (Lit × DataW H) → Nat
  | [] => 0
  | x :: r => uptoBulkEntry x + uptoBulkEntries r
def uptoBulkEntry {H : Type} : Lit × DataW H → Nat
  | (.string bytes, d) => bytes.length + uptoBulk d + 1
  | (_, d) => uptoBulk d + 1
 end
def uptoSmall : (H : Type) → List (DataW H) → Bool := fun _ ds => decide (uptoBulkAll ds ≤ 1048576)
def OpenSpec.upto (s : _root_.Go.ChangeSpec) : _root_.Go.OpenSpec := { _root_.Go.OpenSpec.ofChange s with cond := some uptoSmall }

/-- 'laws.FnExactCodeName', WHERE WHAT IT READS IS OF BULK AT MOST 1048576: true; the input reads as it did. -/
def fnExactCodeNameUptoRow : OpenClaim := { program := "ytmmllagjeeinoaa", sum := "30c8a88d4de0ac7a8722fb7cdc68f61a9338d8395389461fbfdfa659f3cc0fed", func := "loop.example/g01274/laws.FnExactCodeName", spec := "fnExactCodeName", apart := false, narrowed := true }
def FnExactCodeNameUptoSaid : Prop := fnExactCodeNameUptoRow.holds Try.pinned (OpenSpec.upto fnExactCodeNameSpec)

/-- 'laws.FnExactOppositeSide', WHERE WHAT IT READS IS OF BULK AT MOST 1048576: true; the input reads as it did. -/
def fnExactOppositeSideUptoRow : OpenClaim := { program := "ytmmllagjeeinoaa", sum := "30c8a88d4de0ac7a8722fb7cdc68f61a9338d8395389461fbfdfa659f3cc0fed", func := "loop.example/g01274/laws.FnExactOppositeSide", spec := "fnExactOppositeSide", apart := false, narrowed := true }
def FnExactOppositeSideUptoSaid : Prop := fnExactOppositeSideUptoRow.holds Try.pinned (OpenSpec.upto fnExactOppositeSideSpec)

/-- 'laws.FnExactNextCell', WHERE WHAT IT READS IS OF BULK AT MOST 1048576: true; the input reads as it did. -/
def fnExactNextCellUptoRow : OpenClaim := { program := "ytmmllagjeeinoaa", sum := "30c8a88d4de0ac7a8722fb7cdc68f61a9338d8395389461fbfdfa659f3cc0fed", func := "loop.example/g01274/laws.FnExactNextCell", spec := "fnExactNextCell", apart := false, narrowed := true }
def FnExactNextCellUptoSaid : Prop := fnExactNextCellUptoRow.holds Try.pinned (OpenSpec.upto fnExactNextCellSpec)

/-- 'laws.FnExactValidPiece', WHERE WHAT IT READS IS OF BULK AT MOST 1048576: true; the input reads as it did. -/
def fnExactValidPieceUptoRow : OpenClaim := { program := "ytmmllagjeeinoaa", sum := "30c8a88d4de0ac7a8722fb7cdc68f61a9338d8395389461fbfdfa659f3cc0fed", func := "loop.example/g01274/laws.FnExactValidPiece", spec := "fnExactValidPiece", apart := false, narrowed := true }
def FnExactValidPieceUptoSaid : Prop := fnExactValidPieceUptoRow.holds Try.pinned (OpenSpec.upto fnExactValidPieceSpec)

/-- 'laws.FnExactFallsFrom', WHERE WHAT IT READS IS OF BULK AT MOST 1048576: true; the input reads as it did. -/
def fnExactFallsFromUptoRow : OpenClaim := { program := "ytmmllagjeeinoaa", sum := "30c8a88d4de0ac7a8722fb7cdc68f61a9338d8395389461fbfdfa659f3cc0fed", func := "loop.example/g01274/laws.FnExactFallsFrom", spec := "fnExactFallsFrom", unfollowed := true, recurses := true, apart := false, narrowed := true }
def FnExactFallsFromUptoSaid : Prop := fnExactFallsFromUptoRow.holds Try.pinned (OpenSpec.upto fnExactFallsFromSpec)

/-- 'laws.FnExactHitsFrom', WHERE WHAT IT READS IS OF BULK AT MOST 1048576: true; the input reads as it did. -/
def fnExactHitsFromUptoRow : OpenClaim := { program := "ytmmllagjeeinoaa", sum := "30c8a88d4de0ac7a8722fb7cdc68f61a9338d8395389461fbfdfa659f3cc0fed", func := "loop.example/g01274/laws.FnExactHitsFrom", spec := "fnExactHitsFrom", unfollowed := true, recurses := true, apart := false, narrowed := true }
def FnExactHitsFromUptoSaid : Prop := fnExactHitsFromUptoRow.holds Try.pinned (OpenSpec.upto fnExactHitsFromSpec)

/-- 'laws.FnExactTurnPiece', WHERE WHAT IT READS IS OF BULK AT MOST 1048576: true; the input reads as it did. -/
def fnExactTurnPieceUptoRow : OpenClaim := { program := "ytmmllagjeeinoaa", sum := "30c8a88d4de0ac7a8722fb7cdc68f61a9338d8395389461fbfdfa659f3cc0fed", func := "loop.example/g01274/laws.FnExactTurnPiece", spec := "fnExactTurnPiece", apart := false, narrowed := true }
def FnExactTurnPieceUptoSaid : Prop := fnExactTurnPieceUptoRow.holds Try.pinned (OpenSpec.upto fnExactTurnPieceSpec)

/-- 'laws.FnExactAlikePieces', WHERE WHAT IT READS IS OF BULK AT MOST 1048576: true; the input reads as it did. -/
def fnExactAlikePiecesUptoRow : OpenClaim := { program := "ytmmllagjeeinoaa", sum := "30c8a88d4de0ac7a8722fb7cdc68f61a9338d8395389461fbfdfa659f3cc0fed", func := "loop.example/g01274/laws.FnExactAlikePieces", spec := "fnExactAlikePieces", unfollowed := true, recurses := true, apart := false, narrowed := true }
def FnExactAlikePiecesUptoSaid : Prop := fnExactAlikePiecesUptoRow.holds Try.pinned (OpenSpec.upto fnExactAlikePiecesSpec)

end Rows
end Go.Proofs.Ytmmllagjeeinoaa
