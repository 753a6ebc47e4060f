/-
  No cell of these rows narrows 'for every input' (looked for: loops, veiled, ifaces, maps, wideKeys, modest, calm, conditions, laid).
  DERIVED. THE GIVEN ROWS OF THIS SEAT. 6 by the template 'for every input the law returns true; each argument reads behind the call as it read before'; 0 by the template 'total and deterministic' (their statements: YtlmnoopoohdbkaaTotals.lean).
  GIVEN WITH THE SEED: the statements are not yours to turn. If you find one false, say at which input.
  Laid BY PROGRAM, IN A SANDBOX (cutbox-rows.mjs): the forced cells as the released guide's own fill.sh prints them over the translation 1b7147beac295848… (all of the seat's roots in one cut). By AI agents, Wed Nov 11 2026. No macro, syntax, notation, axiom, sorry.
-/
import Derived.Test.YtlmnoopoohdbkaaChecked
import GoSem.Claim
import GoSem.ClaimJoined
import GoSem.ClaimMapViews
import Derived.JoinedTies
import Derived.KernelRfl
namespace Go.Proofs.Ytlmnoopoohdbkaa
/- THE CELL 'sum', in the pinned program and in every row, IS THE sha256 OF THE DUMP (.gsa) THAT YtlmnoopoohdbkaaProg.lean LOADS. Nothing in Lean hashes anything: it is a label: what it is worth is what the hold of that sum in a sandbox is worth. -/
noncomputable def Try.pinned : Pinned := { name := "ytlmnoopoohdbkaa", sum := "1b7147beac295848501ebd18e83bc94a41498b903ac96a56f22ad27085d45170", checked := Try.checked }
namespace Rows
def none {H : Type} : Left H := { results := [], args := [] }

/-- 'laws.FnExactTakePiece': WHATEVER THE INPUT: true; the input reads as it did. -/
def fnExactTakePieceSpec : ChangeSpec := { name := "fnExactTakePiece", fn := fun _ => fun
  | [d1, d2] => { results := [.lit (.bool true)], args := [d1, d2] }
  | _ => none }
def fnExactTakePieceRow : OpenClaim := { program := "ytlmnoopoohdbkaa", sum := "1b7147beac295848501ebd18e83bc94a41498b903ac96a56f22ad27085d45170", func := "loop.example/g01274/laws.FnExactTakePiece", spec := "fnExactTakePiece", plainKeys := false, apart := false }
def FnExactTakePieceSaid : Prop := fnExactTakePieceRow.holds Try.pinned (OpenSpec.ofChange fnExactTakePieceSpec)

/-- ITS FALSE NEIGHBOUR: 'it returns false'. Refute it at one input. -/
def fnExactTakePieceWrong : ChangeSpec := { name := "fnExactTakePiece", fn := fun _ => fun
  | [d1, d2] => { results := [.lit (.bool false)], args := [d1, d2] }
  | _ => none }
def FnExactTakePieceWrongFalsely : Prop := fnExactTakePieceRow.holds Try.pinned (OpenSpec.ofChange fnExactTakePieceWrong)

/-- 'laws.FnExactJoinBoards': WHATEVER THE INPUT: true; the input reads as it did. -/
def fnExactJoinBoardsSpec : ChangeSpec := { name := "fnExactJoinBoards", fn := fun _ => fun
  | [d1, d2] => { results := [.lit (.bool true)], args := [d1, d2] }
  | _ => none }
def fnExactJoinBoardsRow : OpenClaim := { program := "ytlmnoopoohdbkaa", sum := "1b7147beac295848501ebd18e83bc94a41498b903ac96a56f22ad27085d45170", func := "loop.example/g01274/laws.FnExactJoinBoards", spec := "fnExactJoinBoards", plainKeys := false, apart := false }
def FnExactJoinBoardsSaid : Prop := fnExactJoinBoardsRow.holds Try.pinned (OpenSpec.ofChange fnExactJoinBoardsSpec)

/-- ITS FALSE NEIGHBOUR: 'it returns false'. Refute it at one input. -/
def fnExactJoinBoardsWrong : ChangeSpec := { name := "fnExactJoinBoards", fn := fun _ => fun
  | [d1, d2] => { results := [.lit (.bool false)], args := [d1, d2] }
  | _ => none }
def FnExactJoinBoardsWrongFalsely : Prop := fnExactJoinBoardsRow.holds Try.pinned (OpenSpec.ofChange fnExactJoinBoardsWrong)

/-- 'laws.FnExactSortBoard': WHATEVER THE INPUT: true; the input reads as it did. -/
def fnExactSortBoardSpec : ChangeSpec := { name := "fnExactSortBoard", fn := fun _ => fun
  | [d] => { results := [.lit (.bool true)], args := [d] }
  | _ => none }
def fnExactSortBoardRow : OpenClaim := { program := "ytlmnoopoohdbkaa", sum := "1b7147beac295848501ebd18e83bc94a41498b903ac96a56f22ad27085d45170", func := "loop.example/g01274/laws.FnExactSortBoard", spec := "fnExactSortBoard", unfollowed := true, recurses := true, plainKeys := false, apart := false }
def FnExactSortBoardSaid : Prop := fnExactSortBoardRow.holds Try.pinned (OpenSpec.ofChange fnExactSortBoardSpec)

/-- ITS FALSE NEIGHBOUR: 'it returns false'. Refute it at one input. -/
def fnExactSortBoardWrong : ChangeSpec := { name := "fnExactSortBoard", fn := fun _ => fun
  | [d] => { results := [.lit (.bool false)], args := [d] }
  | _ => none }
def FnExactSortBoardWrongFalsely : Prop := fnExactSortBoardRow.holds Try.pinned (OpenSpec.ofChange fnExactSortBoardWrong)

/-- 'laws.FnExactMoveMachine': WHATEVER THE INPUT: true; the input reads as it did. -/
def fnExactMoveMachineSpec : ChangeSpec := { name := "fnExactMoveMachine", fn := fun _ => fun
  | [d1, d2, d3] => { results := [.lit (.bool true)], args := [d1, d2, d3] }
  | _ => none }
def fnExactMoveMachineRow : OpenClaim := { program := "ytlmnoopoohdbkaa", sum := "1b7147beac295848501ebd18e83bc94a41498b903ac96a56f22ad27085d45170", func := "loop.example/g01274/laws.FnExactMoveMachine", spec := "fnExactMoveMachine", plainKeys := false, apart := false }
def FnExactMoveMachineSaid : Prop := fnExactMoveMachineRow.holds Try.pinned (OpenSpec.ofChange fnExactMoveMachineSpec)

/-- ITS FALSE NEIGHBOUR: 'it returns false'. Refute it at one input. -/
def fnExactMoveMachineWrong : ChangeSpec := { name := "fnExactMoveMachine", fn := fun _ => fun
  | [d1, d2, d3] => { results := [.lit (.bool false)], args := [d1, d2, d3] }
  | _ => none }
def FnExactMoveMachineWrongFalsely : Prop := fnExactMoveMachineRow.holds Try.pinned (OpenSpec.ofChange fnExactMoveMachineWrong)

/-- 'laws.FnExactDistancesFrom': WHATEVER THE INPUT: true; the input reads as it did. -/
def fnExactDistancesFromSpec : ChangeSpec := { name := "fnExactDistancesFrom", fn := fun _ => fun
  | [d1, d2] => { results := [.lit (.bool true)], args := [d1, d2] }
  | _ => none }
def fnExactDistancesFromRow : OpenClaim := { program := "ytlmnoopoohdbkaa", sum := "1b7147beac295848501ebd18e83bc94a41498b903ac96a56f22ad27085d45170", func := "loop.example/g01274/laws.FnExactDistancesFrom", spec := "fnExactDistancesFrom", unfollowed := true, recurses := true, plainKeys := false, apart := false }
def FnExactDistancesFromSaid : Prop := fnExactDistancesFromRow.holds Try.pinned (OpenSpec.ofChange fnExactDistancesFromSpec)

/-- ITS FALSE NEIGHBOUR: 'it returns false'. Refute it at one input. -/
def fnExactDistancesFromWrong : ChangeSpec := { name := "fnExactDistancesFrom", fn := fun _ => fun
  | [d1, d2] => { results := [.lit (.bool false)], args := [d1, d2] }
  | _ => none }
def FnExactDistancesFromWrongFalsely : Prop := fnExactDistancesFromRow.holds Try.pinned (OpenSpec.ofChange fnExactDistancesFromWrong)

/-- 'laws.FnPieces': WHATEVER THE INPUT: true; the input reads as it did. -/
def fnPiecesSpec : ChangeSpec := { name := "fnPieces", fn := fun _ => fun
  | [d1, d2] => { results := [.lit (.bool true)], args := [d1, d2] }
  | _ => none }
def fnPiecesRow : OpenClaim := { program := "ytlmnoopoohdbkaa", sum := "1b7147beac295848501ebd18e83bc94a41498b903ac96a56f22ad27085d45170", func := "loop.example/g01274/laws.FnPieces", spec := "fnPieces", unfollowed := true, recurses := true, plainKeys := false, apart := false }
def FnPiecesSaid : Prop := fnPiecesRow.holds Try.pinned (OpenSpec.ofChange fnPiecesSpec)

/-- ITS FALSE NEIGHBOUR: 'it returns false'. Refute it at one input. -/
def fnPiecesWrong : ChangeSpec := { name := "fnPieces", fn := fun _ => fun
  | [d1, d2] => { results := [.lit (.bool false)], args := [d1, d2] }
  | _ => none }
def FnPiecesWrongFalsely : Prop := fnPiecesRow.holds Try.pinned (OpenSpec.ofChange fnPiecesWrong)

/- THE SECOND FORM. 'bulk': how many values and letters a reading holds, each counted each time it is reached (what is shared counts as often as it is met; a slice's spare places count too). A statement '..UptoSaid' is the law's where the arguments, and the package variables that the reading takes, are together of bulk at most 1048576: NARROWER than '..Said'. Prove '..Said' where nothing that the law and all that it calls make is longer than what came in: it says more and counts as full. Else prove '..UptoSaid'. A law counts once. -/
mutual
def uptoBulk {H : Type} : DataW H → Nat
  | .lit (.string bytes) => bytes.length + 1
  | .lit _ => 1
  | .nil => 1
  | .ptr d => uptoBulk d + 1
  | .slice elems spare => uptoBulkAll elems + uptoBulkAll spare + 1
  | .agg parts => uptoBulkAll parts + 1
  | .iface _ d => uptoBulk d + 1
  | .map entries => uptoBulkEntries entries + 1
  | .held _ => 1
def uptoBulkAll {H : Type} : List (DataW H) → Nat
  | [] => 0
  | d :: r => uptoBulk d + uptoBulkAll r
def uptoBulkEntries {H : Type} : List (Lit × DataW H) → Nat
  | [] => 0
  | x :: r => uptoBulkEntry x + uptoBulkEntries r
def uptoBulkEntry {H : Type} : Lit × DataW H → Nat
  | (.string bytes, d) => bytes.length + uptoBulk d + 1
  | (_, d) => uptoBulk d + 1
 end
def uptoSmall : (H : Type) → List (DataW H) → Bool := fun _ ds => decide (uptoBulkAll ds ≤ 1048576)
def OpenSpec.upto (s : _root_.Go.ChangeSpec) : _root_.Go.OpenSpec := { _root_.Go.OpenSpec.ofChange s with cond := some uptoSmall }

/-- 'laws.FnExactTakePiece', WHERE WHAT IT READS IS OF BULK AT MOST 1048576: true; the input reads as it did. -/
def fnExactTakePieceUptoRow : OpenClaim := { program := "ytlmnoopoohdbkaa", sum := "1b7147beac295848501ebd18e83bc94a41498b903ac96a56f22ad27085d45170", func := "loop.example/g01274/laws.FnExactTakePiece", spec := "fnExactTakePiece", plainKeys := false, apart := false, narrowed := true }
def FnExactTakePieceUptoSaid : Prop := fnExactTakePieceUptoRow.holds Try.pinned (OpenSpec.upto fnExactTakePieceSpec)

/-- 'laws.FnExactJoinBoards', WHERE WHAT IT READS IS OF BULK AT MOST 1048576: true; the input reads as it did. -/
def fnExactJoinBoardsUptoRow : OpenClaim := { program := "ytlmnoopoohdbkaa", sum := "1b7147beac295848501ebd18e83bc94a41498b903ac96a56f22ad27085d45170", func := "loop.example/g01274/laws.FnExactJoinBoards", spec := "fnExactJoinBoards", plainKeys := false, apart := false, narrowed := true }
def FnExactJoinBoardsUptoSaid : Prop := fnExactJoinBoardsUptoRow.holds Try.pinned (OpenSpec.upto fnExactJoinBoardsSpec)

/-- 'laws.FnExactSortBoard', WHERE WHAT IT READS IS OF BULK AT MOST 1048576: true; the input reads as it did. -/
def fnExactSortBoardUptoRow : OpenClaim := { program := "ytlmnoopoohdbkaa", sum := "1b7147beac295848501ebd18e83bc94a41498b903ac96a56f22ad27085d45170", func := "loop.example/g01274/laws.FnExactSortBoard", spec := "fnExactSortBoard", unfollowed := true, recurses := true, plainKeys := false, apart := false, narrowed := true }
def FnExactSortBoardUptoSaid : Prop := fnExactSortBoardUptoRow.holds Try.pinned (OpenSpec.upto fnExactSortBoardSpec)

/-- 'laws.FnExactMoveMachine', WHERE WHAT IT READS IS OF BULK AT MOST 1048576: true; the input reads as it did. -/
def fnExactMoveMachineUptoRow : OpenClaim := { program := "ytlmnoopoohdbkaa", sum := "1b7147beac295848501ebd18e83bc94a41498b903ac96a56f22ad27085d45170", func := "loop.example/g01274/laws.FnExactMoveMachine", spec := "fnExactMoveMachine", plainKeys := false, apart := false, narrowed := true }
def FnExactMoveMachineUptoSaid : Prop := fnExactMoveMachineUptoRow.holds Try.pinned (OpenSpec.upto fnExactMoveMachineSpec)

/-- 'laws.FnExactDistancesFrom', WHERE WHAT IT READS IS OF BULK AT MOST 1048576: true; the input reads as it did. -/
def fnExactDistancesFromUptoRow : OpenClaim := { program := "ytlmnoopoohdbkaa", sum := "1b7147beac295848501ebd18e83bc94a41498b903ac96a56f22ad27085d45170", func := "loop.example/g01274/laws.FnExactDistancesFrom", spec := "fnExactDistancesFrom", unfollowed := true, recurses := true, plainKeys := false, apart := false, narrowed := true }
def FnExactDistancesFromUptoSaid : Prop := fnExactDistancesFromUptoRow.holds Try.pinned (OpenSpec.upto fnExactDistancesFromSpec)

/-- 'laws.FnPieces', WHERE WHAT IT READS IS OF BULK AT MOST 1048576: true; the input reads as it did. -/
def fnPiecesUptoRow : OpenClaim := { program := "ytlmnoopoohdbkaa", sum := "1b7147beac295848501ebd18e83bc94a41498b903ac96a56f22ad27085d45170", func := "loop.example/g01274/laws.FnPieces", spec := "fnPieces", unfollowed := true, recurses := true, plainKeys := false, apart := false, narrowed := true }
def FnPiecesUptoSaid : Prop := fnPiecesUptoRow.holds Try.pinned (OpenSpec.upto fnPiecesSpec)

end Rows
end Go.Proofs.Ytlmnoopoohdbkaa
