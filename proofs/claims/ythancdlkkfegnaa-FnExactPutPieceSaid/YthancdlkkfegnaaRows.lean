/-
  No cell of these rows narrows 'for every input' (looked for: loops, veiled, ifaces, maps, wideKeys, modest, calm, conditions, laid).
  DERIVED. THE GIVEN ROWS OF THIS SEAT. 14 by the template 'for every input the law returns true; each argument reads behind the call as it read before'; 0 by the template 'total and deterministic' (their statements: YthancdlkkfegnaaTotals.lean).
  GIVEN WITH THE SEED: the statements are not yours to turn. If you find one false, say at which input.
  Laid BY PROGRAM, IN A SANDBOX (cutbox-rows.mjs): the forced cells as the released guide's own fill.sh prints them over the translation 9e9757d038aed030… (all of the seat's roots in one cut). By AI agents, Wed Nov 11 2026. No macro, syntax, notation, axiom, sorry.
-/
import Derived.Test.YthancdlkkfegnaaChecked
import GoSem.Claim
import GoSem.ClaimJoined
import GoSem.ClaimMapViews
import Derived.JoinedTies
import Derived.KernelRfl
namespace Go.Proofs.Ythancdlkkfegnaa
/- THE CELL 'sum', in the pinned program and in every row, IS THE sha256 OF THE DUMP (.gsa) THAT YthancdlkkfegnaaProg.lean LOADS. Nothing in Lean hashes anything: it is a label: what it is worth is what the hold of that sum in a sandbox is worth. -/
noncomputable def Try.pinned : Pinned := { name := "ythancdlkkfegnaa", sum := "9e9757d038aed030809393619ff5c6d01aa84d19e5ed499bec5b8c37d6d24fc5", checked := Try.checked }
namespace Rows
def none {H : Type} : Left H := { results := [], args := [] }

/-- 'laws.FnExactValidBoard': WHATEVER THE INPUT: true; the input reads as it did. -/
def fnExactValidBoardSpec : ChangeSpec := { name := "fnExactValidBoard", fn := fun _ => fun
  | [d] => { results := [.lit (.bool true)], args := [d] }
  | _ => none }
def fnExactValidBoardRow : OpenClaim := { program := "ythancdlkkfegnaa", sum := "9e9757d038aed030809393619ff5c6d01aa84d19e5ed499bec5b8c37d6d24fc5", func := "loop.example/g01274/laws.FnExactValidBoard", spec := "fnExactValidBoard", plainKeys := false, apart := false }
def FnExactValidBoardSaid : Prop := fnExactValidBoardRow.holds Try.pinned (OpenSpec.ofChange fnExactValidBoardSpec)

/-- ITS FALSE NEIGHBOUR: 'it returns false'. Refute it at one input. -/
def fnExactValidBoardWrong : ChangeSpec := { name := "fnExactValidBoard", fn := fun _ => fun
  | [d] => { results := [.lit (.bool false)], args := [d] }
  | _ => none }
def FnExactValidBoardWrongFalsely : Prop := fnExactValidBoardRow.holds Try.pinned (OpenSpec.ofChange fnExactValidBoardWrong)

/-- 'laws.FnExactSameBoard': WHATEVER THE INPUT: true; the input reads as it did. -/
def fnExactSameBoardSpec : ChangeSpec := { name := "fnExactSameBoard", fn := fun _ => fun
  | [d1, d2] => { results := [.lit (.bool true)], args := [d1, d2] }
  | _ => none }
def fnExactSameBoardRow : OpenClaim := { program := "ythancdlkkfegnaa", sum := "9e9757d038aed030809393619ff5c6d01aa84d19e5ed499bec5b8c37d6d24fc5", func := "loop.example/g01274/laws.FnExactSameBoard", spec := "fnExactSameBoard", plainKeys := false, apart := false }
def FnExactSameBoardSaid : Prop := fnExactSameBoardRow.holds Try.pinned (OpenSpec.ofChange fnExactSameBoardSpec)

/-- ITS FALSE NEIGHBOUR: 'it returns false'. Refute it at one input. -/
def fnExactSameBoardWrong : ChangeSpec := { name := "fnExactSameBoard", fn := fun _ => fun
  | [d1, d2] => { results := [.lit (.bool false)], args := [d1, d2] }
  | _ => none }
def FnExactSameBoardWrongFalsely : Prop := fnExactSameBoardRow.holds Try.pinned (OpenSpec.ofChange fnExactSameBoardWrong)

/-- 'laws.FnExactPieceAt': WHATEVER THE INPUT: true; the input reads as it did. -/
def fnExactPieceAtSpec : ChangeSpec := { name := "fnExactPieceAt", fn := fun _ => fun
  | [d1, d2] => { results := [.lit (.bool true)], args := [d1, d2] }
  | _ => none }
def fnExactPieceAtRow : OpenClaim := { program := "ythancdlkkfegnaa", sum := "9e9757d038aed030809393619ff5c6d01aa84d19e5ed499bec5b8c37d6d24fc5", func := "loop.example/g01274/laws.FnExactPieceAt", spec := "fnExactPieceAt", plainKeys := false, apart := false }
def FnExactPieceAtSaid : Prop := fnExactPieceAtRow.holds Try.pinned (OpenSpec.ofChange fnExactPieceAtSpec)

/-- ITS FALSE NEIGHBOUR: 'it returns false'. Refute it at one input. -/
def fnExactPieceAtWrong : ChangeSpec := { name := "fnExactPieceAt", fn := fun _ => fun
  | [d1, d2] => { results := [.lit (.bool false)], args := [d1, d2] }
  | _ => none }
def FnExactPieceAtWrongFalsely : Prop := fnExactPieceAtRow.holds Try.pinned (OpenSpec.ofChange fnExactPieceAtWrong)

/-- 'laws.FnExactPutPiece': WHATEVER THE INPUT: true; the input reads as it did. -/
def fnExactPutPieceSpec : ChangeSpec := { name := "fnExactPutPiece", fn := fun _ => fun
  | [d1, d2] => { results := [.lit (.bool true)], args := [d1, d2] }
  | _ => none }
def fnExactPutPieceRow : OpenClaim := { program := "ythancdlkkfegnaa", sum := "9e9757d038aed030809393619ff5c6d01aa84d19e5ed499bec5b8c37d6d24fc5", func := "loop.example/g01274/laws.FnExactPutPiece", spec := "fnExactPutPiece", plainKeys := false, apart := false }
def FnExactPutPieceSaid : Prop := fnExactPutPieceRow.holds Try.pinned (OpenSpec.ofChange fnExactPutPieceSpec)

/-- ITS FALSE NEIGHBOUR: 'it returns false'. Refute it at one input. -/
def fnExactPutPieceWrong : ChangeSpec := { name := "fnExactPutPiece", fn := fun _ => fun
  | [d1, d2] => { results := [.lit (.bool false)], args := [d1, d2] }
  | _ => none }
def FnExactPutPieceWrongFalsely : Prop := fnExactPutPieceRow.holds Try.pinned (OpenSpec.ofChange fnExactPutPieceWrong)

/-- 'laws.FnExactTakePiece': WHATEVER THE INPUT: true; the input reads as it did. -/
def fnExactTakePieceSpec : ChangeSpec := { name := "fnExactTakePiece", fn := fun _ => fun
  | [d1, d2] => { results := [.lit (.bool true)], args := [d1, d2] }
  | _ => none }
def fnExactTakePieceRow : OpenClaim := { program := "ythancdlkkfegnaa", sum := "9e9757d038aed030809393619ff5c6d01aa84d19e5ed499bec5b8c37d6d24fc5", func := "loop.example/g01274/laws.FnExactTakePiece", spec := "fnExactTakePiece", plainKeys := false, apart := false }
def FnExactTakePieceSaid : Prop := fnExactTakePieceRow.holds Try.pinned (OpenSpec.ofChange fnExactTakePieceSpec)

/-- ITS FALSE NEIGHBOUR: 'it returns false'. Refute it at one input. -/
def fnExactTakePieceWrong : ChangeSpec := { name := "fnExactTakePiece", fn := fun _ => fun
  | [d1, d2] => { results := [.lit (.bool false)], args := [d1, d2] }
  | _ => none }
def FnExactTakePieceWrongFalsely : Prop := fnExactTakePieceRow.holds Try.pinned (OpenSpec.ofChange fnExactTakePieceWrong)

/-- 'laws.FnExactCountKinds': WHATEVER THE INPUT: true; the input reads as it did. -/
def fnExactCountKindsSpec : ChangeSpec := { name := "fnExactCountKinds", fn := fun _ => fun
  | [d] => { results := [.lit (.bool true)], args := [d] }
  | _ => none }
def fnExactCountKindsRow : OpenClaim := { program := "ythancdlkkfegnaa", sum := "9e9757d038aed030809393619ff5c6d01aa84d19e5ed499bec5b8c37d6d24fc5", func := "loop.example/g01274/laws.FnExactCountKinds", spec := "fnExactCountKinds", plainKeys := false, apart := false }
def FnExactCountKindsSaid : Prop := fnExactCountKindsRow.holds Try.pinned (OpenSpec.ofChange fnExactCountKindsSpec)

/-- ITS FALSE NEIGHBOUR: 'it returns false'. Refute it at one input. -/
def fnExactCountKindsWrong : ChangeSpec := { name := "fnExactCountKinds", fn := fun _ => fun
  | [d] => { results := [.lit (.bool false)], args := [d] }
  | _ => none }
def FnExactCountKindsWrongFalsely : Prop := fnExactCountKindsRow.holds Try.pinned (OpenSpec.ofChange fnExactCountKindsWrong)

/-- 'laws.FnExactNeighboursOf': WHATEVER THE INPUT: true; the input reads as it did. -/
def fnExactNeighboursOfSpec : ChangeSpec := { name := "fnExactNeighboursOf", fn := fun _ => fun
  | [d1, d2] => { results := [.lit (.bool true)], args := [d1, d2] }
  | _ => none }
def fnExactNeighboursOfRow : OpenClaim := { program := "ythancdlkkfegnaa", sum := "9e9757d038aed030809393619ff5c6d01aa84d19e5ed499bec5b8c37d6d24fc5", func := "loop.example/g01274/laws.FnExactNeighboursOf", spec := "fnExactNeighboursOf", plainKeys := false, apart := false }
def FnExactNeighboursOfSaid : Prop := fnExactNeighboursOfRow.holds Try.pinned (OpenSpec.ofChange fnExactNeighboursOfSpec)

/-- ITS FALSE NEIGHBOUR: 'it returns false'. Refute it at one input. -/
def fnExactNeighboursOfWrong : ChangeSpec := { name := "fnExactNeighboursOf", fn := fun _ => fun
  | [d1, d2] => { results := [.lit (.bool false)], args := [d1, d2] }
  | _ => none }
def FnExactNeighboursOfWrongFalsely : Prop := fnExactNeighboursOfRow.holds Try.pinned (OpenSpec.ofChange fnExactNeighboursOfWrong)

/-- 'laws.FnExactMoveBoard': WHATEVER THE INPUT: true; the input reads as it did. -/
def fnExactMoveBoardSpec : ChangeSpec := { name := "fnExactMoveBoard", fn := fun _ => fun
  | [d1, d2, d3] => { results := [.lit (.bool true)], args := [d1, d2, d3] }
  | _ => none }
def fnExactMoveBoardRow : OpenClaim := { program := "ythancdlkkfegnaa", sum := "9e9757d038aed030809393619ff5c6d01aa84d19e5ed499bec5b8c37d6d24fc5", func := "loop.example/g01274/laws.FnExactMoveBoard", spec := "fnExactMoveBoard", plainKeys := false, apart := false }
def FnExactMoveBoardSaid : Prop := fnExactMoveBoardRow.holds Try.pinned (OpenSpec.ofChange fnExactMoveBoardSpec)

/-- ITS FALSE NEIGHBOUR: 'it returns false'. Refute it at one input. -/
def fnExactMoveBoardWrong : ChangeSpec := { name := "fnExactMoveBoard", fn := fun _ => fun
  | [d1, d2, d3] => { results := [.lit (.bool false)], args := [d1, d2, d3] }
  | _ => none }
def FnExactMoveBoardWrongFalsely : Prop := fnExactMoveBoardRow.holds Try.pinned (OpenSpec.ofChange fnExactMoveBoardWrong)

/-- 'laws.FnExactTurnBoard': WHATEVER THE INPUT: true; the input reads as it did. -/
def fnExactTurnBoardSpec : ChangeSpec := { name := "fnExactTurnBoard", fn := fun _ => fun
  | [d1, d2] => { results := [.lit (.bool true)], args := [d1, d2] }
  | _ => none }
def fnExactTurnBoardRow : OpenClaim := { program := "ythancdlkkfegnaa", sum := "9e9757d038aed030809393619ff5c6d01aa84d19e5ed499bec5b8c37d6d24fc5", func := "loop.example/g01274/laws.FnExactTurnBoard", spec := "fnExactTurnBoard", plainKeys := false, apart := false }
def FnExactTurnBoardSaid : Prop := fnExactTurnBoardRow.holds Try.pinned (OpenSpec.ofChange fnExactTurnBoardSpec)

/-- ITS FALSE NEIGHBOUR: 'it returns false'. Refute it at one input. -/
def fnExactTurnBoardWrong : ChangeSpec := { name := "fnExactTurnBoard", fn := fun _ => fun
  | [d1, d2] => { results := [.lit (.bool false)], args := [d1, d2] }
  | _ => none }
def FnExactTurnBoardWrongFalsely : Prop := fnExactTurnBoardRow.holds Try.pinned (OpenSpec.ofChange fnExactTurnBoardWrong)

/-- 'laws.FnExactJoinBoards': WHATEVER THE INPUT: true; the input reads as it did. -/
def fnExactJoinBoardsSpec : ChangeSpec := { name := "fnExactJoinBoards", fn := fun _ => fun
  | [d1, d2] => { results := [.lit (.bool true)], args := [d1, d2] }
  | _ => none }
def fnExactJoinBoardsRow : OpenClaim := { program := "ythancdlkkfegnaa", sum := "9e9757d038aed030809393619ff5c6d01aa84d19e5ed499bec5b8c37d6d24fc5", func := "loop.example/g01274/laws.FnExactJoinBoards", spec := "fnExactJoinBoards", plainKeys := false, apart := false }
def FnExactJoinBoardsSaid : Prop := fnExactJoinBoardsRow.holds Try.pinned (OpenSpec.ofChange fnExactJoinBoardsSpec)

/-- ITS FALSE NEIGHBOUR: 'it returns false'. Refute it at one input. -/
def fnExactJoinBoardsWrong : ChangeSpec := { name := "fnExactJoinBoards", fn := fun _ => fun
  | [d1, d2] => { results := [.lit (.bool false)], args := [d1, d2] }
  | _ => none }
def FnExactJoinBoardsWrongFalsely : Prop := fnExactJoinBoardsRow.holds Try.pinned (OpenSpec.ofChange fnExactJoinBoardsWrong)

/-- 'laws.FnExactBoardPicture': WHATEVER THE INPUT: true; the input reads as it did. -/
def fnExactBoardPictureSpec : ChangeSpec := { name := "fnExactBoardPicture", fn := fun _ => fun
  | [d] => { results := [.lit (.bool true)], args := [d] }
  | _ => none }
def fnExactBoardPictureRow : OpenClaim := { program := "ythancdlkkfegnaa", sum := "9e9757d038aed030809393619ff5c6d01aa84d19e5ed499bec5b8c37d6d24fc5", func := "loop.example/g01274/laws.FnExactBoardPicture", spec := "fnExactBoardPicture", plainKeys := false, apart := false }
def FnExactBoardPictureSaid : Prop := fnExactBoardPictureRow.holds Try.pinned (OpenSpec.ofChange fnExactBoardPictureSpec)

/-- ITS FALSE NEIGHBOUR: 'it returns false'. Refute it at one input. -/
def fnExactBoardPictureWrong : ChangeSpec := { name := "fnExactBoardPicture", fn := fun _ => fun
  | [d] => { results := [.lit (.bool false)], args := [d] }
  | _ => none }
def FnExactBoardPictureWrongFalsely : Prop := fnExactBoardPictureRow.holds Try.pinned (OpenSpec.ofChange fnExactBoardPictureWrong)

/-- 'laws.FnExactSameFalls': WHATEVER THE INPUT: true; the input reads as it did. -/
def fnExactSameFallsSpec : ChangeSpec := { name := "fnExactSameFalls", fn := fun _ => fun
  | [d1, d2] => { results := [.lit (.bool true)], args := [d1, d2] }
  | _ => none }
def fnExactSameFallsRow : OpenClaim := { program := "ythancdlkkfegnaa", sum := "9e9757d038aed030809393619ff5c6d01aa84d19e5ed499bec5b8c37d6d24fc5", func := "loop.example/g01274/laws.FnExactSameFalls", spec := "fnExactSameFalls", plainKeys := false, apart := false }
def FnExactSameFallsSaid : Prop := fnExactSameFallsRow.holds Try.pinned (OpenSpec.ofChange fnExactSameFallsSpec)

/-- ITS FALSE NEIGHBOUR: 'it returns false'. Refute it at one input. -/
def fnExactSameFallsWrong : ChangeSpec := { name := "fnExactSameFalls", fn := fun _ => fun
  | [d1, d2] => { results := [.lit (.bool false)], args := [d1, d2] }
  | _ => none }
def FnExactSameFallsWrongFalsely : Prop := fnExactSameFallsRow.holds Try.pinned (OpenSpec.ofChange fnExactSameFallsWrong)

/-- 'laws.FnExactValidPushes': WHATEVER THE INPUT: true; the input reads as it did. -/
def fnExactValidPushesSpec : ChangeSpec := { name := "fnExactValidPushes", fn := fun _ => fun
  | [d1, d2] => { results := [.lit (.bool true)], args := [d1, d2] }
  | _ => none }
def fnExactValidPushesRow : OpenClaim := { program := "ythancdlkkfegnaa", sum := "9e9757d038aed030809393619ff5c6d01aa84d19e5ed499bec5b8c37d6d24fc5", func := "loop.example/g01274/laws.FnExactValidPushes", spec := "fnExactValidPushes", plainKeys := false, apart := false }
def FnExactValidPushesSaid : Prop := fnExactValidPushesRow.holds Try.pinned (OpenSpec.ofChange fnExactValidPushesSpec)

/-- ITS FALSE NEIGHBOUR: 'it returns false'. Refute it at one input. -/
def fnExactValidPushesWrong : ChangeSpec := { name := "fnExactValidPushes", fn := fun _ => fun
  | [d1, d2] => { results := [.lit (.bool false)], args := [d1, d2] }
  | _ => none }
def FnExactValidPushesWrongFalsely : Prop := fnExactValidPushesRow.holds Try.pinned (OpenSpec.ofChange fnExactValidPushesWrong)

/-- 'laws.FnExactLaterPushes': WHATEVER THE INPUT: true; the input reads as it did. -/
def fnExactLaterPushesSpec : ChangeSpec := { name := "fnExactLaterPushes", fn := fun _ => fun
  | [d1, d2] => { results := [.lit (.bool true)], args := [d1, d2] }
  | _ => none }
def fnExactLaterPushesRow : OpenClaim := { program := "ythancdlkkfegnaa", sum := "9e9757d038aed030809393619ff5c6d01aa84d19e5ed499bec5b8c37d6d24fc5", func := "loop.example/g01274/laws.FnExactLaterPushes", spec := "fnExactLaterPushes", plainKeys := false, apart := false }
def FnExactLaterPushesSaid : Prop := fnExactLaterPushesRow.holds Try.pinned (OpenSpec.ofChange fnExactLaterPushesSpec)

/-- ITS FALSE NEIGHBOUR: 'it returns false'. Refute it at one input. -/
def fnExactLaterPushesWrong : ChangeSpec := { name := "fnExactLaterPushes", fn := fun _ => fun
  | [d1, d2] => { results := [.lit (.bool false)], args := [d1, d2] }
  | _ => none }
def FnExactLaterPushesWrongFalsely : Prop := fnExactLaterPushesRow.holds Try.pinned (OpenSpec.ofChange fnExactLaterPushesWrong)

/- THE SECOND FORM. 'bulk': how many values and letters a reading holds, each counted each time it is reached (what is shared counts as often as it is met; a slice's spare places count too). A statement '..UptoSaid' is the law's where the arguments, and the package variables that the reading takes, are together of bulk at most 1048576: NARROWER than '..Said'. Prove '..Said' where nothing that the law and all that it calls make is longer than what came in: it says more and counts as full. Else prove '..UptoSaid'. A law counts once. -/
mutual
def uptoBulk {H : Type} : DataW H → Nat
  | .lit (.string bytes) => bytes.length + 1
  | .lit _ => 1
  | .nil => 1
  | .ptr d => uptoBulk d + 1
  | .slice elems spare => uptoBulkAll elems + uptoBulkAll spare + 1
  | .agg parts => uptoBulkAll parts + 1
  | .iface _ d => uptoBulk d + 1
  | .map entries => uptoBulkEntries entries + 1
  | .held _ => 1
def uptoBulkAll {H : Type} : List (DataW H) → Nat
  | [] => 0
  | d :: r => uptoBulk d + uptoBulkAll r
def uptoBulkEntries {H : Type} : List (Lit × DataW H) → Nat
  | [] => 0
  | x :: r => uptoBulkEntry x + uptoBulkEntries r
def uptoBulkEntry {H : Type} : Lit × DataW H → Nat
  | (.string bytes, d) => bytes.length + uptoBulk d + 1
  | (_, d) => uptoBulk d + 1
 end
def uptoSmall : (H : Type) → List (DataW H) → Bool := fun _ ds => decide (uptoBulkAll ds ≤ 1048576)
def OpenSpec.upto (s : _root_.Go.ChangeSpec) : _root_.Go.OpenSpec := { _root_.Go.OpenSpec.ofChange s with cond := some uptoSmall }

/-- 'laws.FnExactValidBoard', WHERE WHAT IT READS IS OF BULK AT MOST 1048576: true; the input reads as it did. -/
def fnExactValidBoardUptoRow : OpenClaim := { program := "ythancdlkkfegnaa", sum := "9e9757d038aed030809393619ff5c6d01aa84d19e5ed499bec5b8c37d6d24fc5", func := "loop.example/g01274/laws.FnExactValidBoard", spec := "fnExactValidBoard", plainKeys := false, apart := false, narrowed := true }
def FnExactValidBoardUptoSaid : Prop := fnExactValidBoardUptoRow.holds Try.pinned (OpenSpec.upto fnExactValidBoardSpec)

/-- 'laws.FnExactSameBoard', WHERE WHAT IT READS IS OF BULK AT MOST 1048576: true; the input reads as it did. -/
def fnExactSameBoardUptoRow : OpenClaim := { program := "ythancdlkkfegnaa", sum := "9e9757d038aed030809393619ff5c6d01aa84d19e5ed499bec5b8c37d6d24fc5", func := "loop.example/g01274/laws.FnExactSameBoard", spec := "fnExactSameBoard", plainKeys := false, apart := false, narrowed := true }
def FnExactSameBoardUptoSaid : Prop := fnExactSameBoardUptoRow.holds Try.pinned (OpenSpec.upto fnExactSameBoardSpec)

/-- 'laws.FnExactPieceAt', WHERE WHAT IT READS IS OF BULK AT MOST 1048576: true; the input reads as it did. -/
def fnExactPieceAtUptoRow : OpenClaim := { program := "ythancdlkkfegnaa", sum := "9e9757d038aed030809393619ff5c6d01aa84d19e5ed499bec5b8c37d6d24fc5", func := "loop.example/g01274/laws.FnExactPieceAt", spec := "fnExactPieceAt", plainKeys := false, apart := false, narrowed := true }
def FnExactPieceAtUptoSaid : Prop := fnExactPieceAtUptoRow.holds Try.pinned (OpenSpec.upto fnExactPieceAtSpec)

/-- 'laws.FnExactPutPiece', WHERE WHAT IT READS IS OF BULK AT MOST 1048576: true; the input reads as it did. -/
def fnExactPutPieceUptoRow : OpenClaim := { program := "ythancdlkkfegnaa", sum := "9e9757d038aed030809393619ff5c6d01aa84d19e5ed499bec5b8c37d6d24fc5", func := "loop.example/g01274/laws.FnExactPutPiece", spec := "fnExactPutPiece", plainKeys := false, apart := false, narrowed := true }
def FnExactPutPieceUptoSaid : Prop := fnExactPutPieceUptoRow.holds Try.pinned (OpenSpec.upto fnExactPutPieceSpec)

/-- 'laws.FnExactTakePiece', WHERE WHAT IT READS IS OF BULK AT MOST 1048576: true; the input reads as it did. -/
def fnExactTakePieceUptoRow : OpenClaim := { program := "ythancdlkkfegnaa", sum := "9e9757d038aed030809393619ff5c6d01aa84d19e5ed499bec5b8c37d6d24fc5", func := "loop.example/g01274/laws.FnExactTakePiece", spec := "fnExactTakePiece", plainKeys := false, apart := false, narrowed := true }
def FnExactTakePieceUptoSaid : Prop := fnExactTakePieceUptoRow.holds Try.pinned (OpenSpec.upto fnExactTakePieceSpec)

/-- 'laws.FnExactCountKinds', WHERE WHAT IT READS IS OF BULK AT MOST 1048576: true; the input reads as it did. -/
def fnExactCountKindsUptoRow : OpenClaim := { program := "ythancdlkkfegnaa", sum := "9e9757d038aed030809393619ff5c6d01aa84d19e5ed499bec5b8c37d6d24fc5", func := "loop.example/g01274/laws.FnExactCountKinds", spec := "fnExactCountKinds", plainKeys := false, apart := false, narrowed := true }
def FnExactCountKindsUptoSaid : Prop := fnExactCountKindsUptoRow.holds Try.pinned (OpenSpec.upto fnExactCountKindsSpec)

/-- 'laws.FnExactNeighboursOf', WHERE WHAT IT READS IS OF BULK AT MOST 1048576: true; the input reads as it did. -/
def fnExactNeighboursOfUptoRow : OpenClaim := { program := "ythancdlkkfegnaa", sum := "9e9757d038aed030809393619ff5c6d01aa84d19e5ed499bec5b8c37d6d24fc5", func := "loop.example/g01274/laws.FnExactNeighboursOf", spec := "fnExactNeighboursOf", plainKeys := false, apart := false, narrowed := true }
def FnExactNeighboursOfUptoSaid : Prop := fnExactNeighboursOfUptoRow.holds Try.pinned (OpenSpec.upto fnExactNeighboursOfSpec)

/-- 'laws.FnExactMoveBoard', WHERE WHAT IT READS IS OF BULK AT MOST 1048576: true; the input reads as it did. -/
def fnExactMoveBoardUptoRow : OpenClaim := { program := "ythancdlkkfegnaa", sum := "9e9757d038aed030809393619ff5c6d01aa84d19e5ed499bec5b8c37d6d24fc5", func := "loop.example/g01274/laws.FnExactMoveBoard", spec := "fnExactMoveBoard", plainKeys := false, apart := false, narrowed := true }
def FnExactMoveBoardUptoSaid : Prop := fnExactMoveBoardUptoRow.holds Try.pinned (OpenSpec.upto fnExactMoveBoardSpec)

/-- 'laws.FnExactTurnBoard', WHERE WHAT IT READS IS OF BULK AT MOST 1048576: true; the input reads as it did. -/
def fnExactTurnBoardUptoRow : OpenClaim := { program := "ythancdlkkfegnaa", sum := "9e9757d038aed030809393619ff5c6d01aa84d19e5ed499bec5b8c37d6d24fc5", func := "loop.example/g01274/laws.FnExactTurnBoard", spec := "fnExactTurnBoard", plainKeys := false, apart := false, narrowed := true }
def FnExactTurnBoardUptoSaid : Prop := fnExactTurnBoardUptoRow.holds Try.pinned (OpenSpec.upto fnExactTurnBoardSpec)

/-- 'laws.FnExactJoinBoards', WHERE WHAT IT READS IS OF BULK AT MOST 1048576: true; the input reads as it did. -/
def fnExactJoinBoardsUptoRow : OpenClaim := { program := "ythancdlkkfegnaa", sum := "9e9757d038aed030809393619ff5c6d01aa84d19e5ed499bec5b8c37d6d24fc5", func := "loop.example/g01274/laws.FnExactJoinBoards", spec := "fnExactJoinBoards", plainKeys := false, apart := false, narrowed := true }
def FnExactJoinBoardsUptoSaid : Prop := fnExactJoinBoardsUptoRow.holds Try.pinned (OpenSpec.upto fnExactJoinBoardsSpec)

/-- 'laws.FnExactBoardPicture', WHERE WHAT IT READS IS OF BULK AT MOST 1048576: true; the input reads as it did. -/
def fnExactBoardPictureUptoRow : OpenClaim := { program := "ythancdlkkfegnaa", sum := "9e9757d038aed030809393619ff5c6d01aa84d19e5ed499bec5b8c37d6d24fc5", func := "loop.example/g01274/laws.FnExactBoardPicture", spec := "fnExactBoardPicture", plainKeys := false, apart := false, narrowed := true }
def FnExactBoardPictureUptoSaid : Prop := fnExactBoardPictureUptoRow.holds Try.pinned (OpenSpec.upto fnExactBoardPictureSpec)

/-- 'laws.FnExactSameFalls', WHERE WHAT IT READS IS OF BULK AT MOST 1048576: true; the input reads as it did. -/
def fnExactSameFallsUptoRow : OpenClaim := { program := "ythancdlkkfegnaa", sum := "9e9757d038aed030809393619ff5c6d01aa84d19e5ed499bec5b8c37d6d24fc5", func := "loop.example/g01274/laws.FnExactSameFalls", spec := "fnExactSameFalls", plainKeys := false, apart := false, narrowed := true }
def FnExactSameFallsUptoSaid : Prop := fnExactSameFallsUptoRow.holds Try.pinned (OpenSpec.upto fnExactSameFallsSpec)

/-- 'laws.FnExactValidPushes', WHERE WHAT IT READS IS OF BULK AT MOST 1048576: true; the input reads as it did. -/
def fnExactValidPushesUptoRow : OpenClaim := { program := "ythancdlkkfegnaa", sum := "9e9757d038aed030809393619ff5c6d01aa84d19e5ed499bec5b8c37d6d24fc5", func := "loop.example/g01274/laws.FnExactValidPushes", spec := "fnExactValidPushes", plainKeys := false, apart := false, narrowed := true }
def FnExactValidPushesUptoSaid : Prop := fnExactValidPushesUptoRow.holds Try.pinned (OpenSpec.upto fnExactValidPushesSpec)

/-- 'laws.FnExactLaterPushes', WHERE WHAT IT READS IS OF BULK AT MOST 1048576: true; the input reads as it did. -/
def fnExactLaterPushesUptoRow : OpenClaim := { program := "ythancdlkkfegnaa", sum := "9e9757d038aed030809393619ff5c6d01aa84d19e5ed499bec5b8c37d6d24fc5", func := "loop.example/g01274/laws.FnExactLaterPushes", spec := "fnExactLaterPushes", plainKeys := false, apart := false, narrowed := true }
def FnExactLaterPushesUptoSaid : Prop := fnExactLaterPushesUptoRow.holds Try.pinned (OpenSpec.upto fnExactLaterPushesSpec)

end Rows
end Go.Proofs.Ythancdlkkfegnaa
