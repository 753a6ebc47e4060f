/-
  No cell of these rows narrows 'for every input' (looked for: loops, veiled, ifaces, maps, wideKeys, modest, calm, conditions, laid).
  DERIVED. THE GIVEN ROWS OF THIS SEAT. 9 by the template 'for every input the law returns true; each argument reads behind the call as it read before'; 0 by the template 'total and deterministic' (their statements: YtlbnhdnmcnfgdaaTotals.lean).
  GIVEN WITH THE SEED: the statements are not yours to turn. If you find one false, say at which input.
  Laid BY PROGRAM, IN A SANDBOX (cutbox-rows.mjs): the forced cells as the released guide's own fill.sh prints them over the translation de3607d3b546b4c5… (all of the seat's roots in one cut). By AI agents, Wed Nov 11 2026. No macro, syntax, notation, axiom, sorry.
-/
import Derived.Test.YtlbnhdnmcnfgdaaChecked
import GoSem.Claim
import GoSem.ClaimJoined
import GoSem.ClaimMapViews
import Derived.JoinedTies
import Derived.KernelRfl
namespace Go.Proofs.Ytlbnhdnmcnfgdaa
/- THE CELL 'sum', in the pinned program and in every row, IS THE sha256 OF THE DUMP (.gsa) THAT YtlbnhdnmcnfgdaaProg.lean LOADS. Nothing in Lean hashes anything: it is a label: what it is worth is what the hold of that sum in a sandbox is worth. -/
noncomputable def Try.pinned : Pinned := { name := "ytlbnhdnmcnfgdaa", sum := "de3607d3b546b4c5303c2ac7feeff28a74616bde5d1936b651c472866e825136", checked := Try.checked }
namespace Rows
def none {H : Type} : Left H := { results := [], args := [] }

/-- 'laws.FnExactValidNetwork': WHATEVER THE INPUT: true; the input reads as it did. -/
def fnExactValidNetworkSpec : ChangeSpec := { name := "fnExactValidNetwork", fn := fun _ => fun
  | [d] => { results := [.lit (.bool true)], args := [d] }
  | _ => none }
def fnExactValidNetworkRow : OpenClaim := { program := "ytlbnhdnmcnfgdaa", sum := "de3607d3b546b4c5303c2ac7feeff28a74616bde5d1936b651c472866e825136", func := "loop.example/g01274/laws.FnExactValidNetwork", spec := "fnExactValidNetwork", plainKeys := false, apart := false }
def FnExactValidNetworkSaid : Prop := fnExactValidNetworkRow.holds Try.pinned (OpenSpec.ofChange fnExactValidNetworkSpec)

/-- ITS FALSE NEIGHBOUR: 'it returns false'. Refute it at one input. -/
def fnExactValidNetworkWrong : ChangeSpec := { name := "fnExactValidNetwork", fn := fun _ => fun
  | [d] => { results := [.lit (.bool false)], args := [d] }
  | _ => none }
def FnExactValidNetworkWrongFalsely : Prop := fnExactValidNetworkRow.holds Try.pinned (OpenSpec.ofChange fnExactValidNetworkWrong)

/-- 'laws.FnExactSameNetwork': WHATEVER THE INPUT: true; the input reads as it did. -/
def fnExactSameNetworkSpec : ChangeSpec := { name := "fnExactSameNetwork", fn := fun _ => fun
  | [d1, d2] => { results := [.lit (.bool true)], args := [d1, d2] }
  | _ => none }
def fnExactSameNetworkRow : OpenClaim := { program := "ytlbnhdnmcnfgdaa", sum := "de3607d3b546b4c5303c2ac7feeff28a74616bde5d1936b651c472866e825136", func := "loop.example/g01274/laws.FnExactSameNetwork", spec := "fnExactSameNetwork", plainKeys := false, apart := false }
def FnExactSameNetworkSaid : Prop := fnExactSameNetworkRow.holds Try.pinned (OpenSpec.ofChange fnExactSameNetworkSpec)

/-- ITS FALSE NEIGHBOUR: 'it returns false'. Refute it at one input. -/
def fnExactSameNetworkWrong : ChangeSpec := { name := "fnExactSameNetwork", fn := fun _ => fun
  | [d1, d2] => { results := [.lit (.bool false)], args := [d1, d2] }
  | _ => none }
def FnExactSameNetworkWrongFalsely : Prop := fnExactSameNetworkRow.holds Try.pinned (OpenSpec.ofChange fnExactSameNetworkWrong)

/-- 'laws.FnExactEvalNetwork': WHATEVER THE INPUT: true; the input reads as it did. -/
def fnExactEvalNetworkSpec : ChangeSpec := { name := "fnExactEvalNetwork", fn := fun _ => fun
  | [d1, d2] => { results := [.lit (.bool true)], args := [d1, d2] }
  | _ => none }
def fnExactEvalNetworkRow : OpenClaim := { program := "ytlbnhdnmcnfgdaa", sum := "de3607d3b546b4c5303c2ac7feeff28a74616bde5d1936b651c472866e825136", func := "loop.example/g01274/laws.FnExactEvalNetwork", spec := "fnExactEvalNetwork", unfollowed := true, recurses := true, plainKeys := false, apart := false }
def FnExactEvalNetworkSaid : Prop := fnExactEvalNetworkRow.holds Try.pinned (OpenSpec.ofChange fnExactEvalNetworkSpec)

/-- ITS FALSE NEIGHBOUR: 'it returns false'. Refute it at one input. -/
def fnExactEvalNetworkWrong : ChangeSpec := { name := "fnExactEvalNetwork", fn := fun _ => fun
  | [d1, d2] => { results := [.lit (.bool false)], args := [d1, d2] }
  | _ => none }
def FnExactEvalNetworkWrongFalsely : Prop := fnExactEvalNetworkRow.holds Try.pinned (OpenSpec.ofChange fnExactEvalNetworkWrong)

/-- 'laws.FnExactTablesOf': WHATEVER THE INPUT: true; the input reads as it did. -/
def fnExactTablesOfSpec : ChangeSpec := { name := "fnExactTablesOf", fn := fun _ => fun
  | [d] => { results := [.lit (.bool true)], args := [d] }
  | _ => none }
def fnExactTablesOfRow : OpenClaim := { program := "ytlbnhdnmcnfgdaa", sum := "de3607d3b546b4c5303c2ac7feeff28a74616bde5d1936b651c472866e825136", func := "loop.example/g01274/laws.FnExactTablesOf", spec := "fnExactTablesOf", unfollowed := true, recurses := true, plainKeys := false, apart := false }
def FnExactTablesOfSaid : Prop := fnExactTablesOfRow.holds Try.pinned (OpenSpec.ofChange fnExactTablesOfSpec)

/-- ITS FALSE NEIGHBOUR: 'it returns false'. Refute it at one input. -/
def fnExactTablesOfWrong : ChangeSpec := { name := "fnExactTablesOf", fn := fun _ => fun
  | [d] => { results := [.lit (.bool false)], args := [d] }
  | _ => none }
def FnExactTablesOfWrongFalsely : Prop := fnExactTablesOfRow.holds Try.pinned (OpenSpec.ofChange fnExactTablesOfWrong)

/-- 'laws.FnExactOutputTables': WHATEVER THE INPUT: true; the input reads as it did. -/
def fnExactOutputTablesSpec : ChangeSpec := { name := "fnExactOutputTables", fn := fun _ => fun
  | [d] => { results := [.lit (.bool true)], args := [d] }
  | _ => none }
def fnExactOutputTablesRow : OpenClaim := { program := "ytlbnhdnmcnfgdaa", sum := "de3607d3b546b4c5303c2ac7feeff28a74616bde5d1936b651c472866e825136", func := "loop.example/g01274/laws.FnExactOutputTables", spec := "fnExactOutputTables", unfollowed := true, recurses := true, plainKeys := false, apart := false }
def FnExactOutputTablesSaid : Prop := fnExactOutputTablesRow.holds Try.pinned (OpenSpec.ofChange fnExactOutputTablesSpec)

/-- ITS FALSE NEIGHBOUR: 'it returns false'. Refute it at one input. -/
def fnExactOutputTablesWrong : ChangeSpec := { name := "fnExactOutputTables", fn := fun _ => fun
  | [d] => { results := [.lit (.bool false)], args := [d] }
  | _ => none }
def FnExactOutputTablesWrongFalsely : Prop := fnExactOutputTablesRow.holds Try.pinned (OpenSpec.ofChange fnExactOutputTablesWrong)

/-- 'laws.FnExactCountNodes': WHATEVER THE INPUT: true; the input reads as it did. -/
def fnExactCountNodesSpec : ChangeSpec := { name := "fnExactCountNodes", fn := fun _ => fun
  | [d] => { results := [.lit (.bool true)], args := [d] }
  | _ => none }
def fnExactCountNodesRow : OpenClaim := { program := "ytlbnhdnmcnfgdaa", sum := "de3607d3b546b4c5303c2ac7feeff28a74616bde5d1936b651c472866e825136", func := "loop.example/g01274/laws.FnExactCountNodes", spec := "fnExactCountNodes", plainKeys := false, apart := false }
def FnExactCountNodesSaid : Prop := fnExactCountNodesRow.holds Try.pinned (OpenSpec.ofChange fnExactCountNodesSpec)

/-- ITS FALSE NEIGHBOUR: 'it returns false'. Refute it at one input. -/
def fnExactCountNodesWrong : ChangeSpec := { name := "fnExactCountNodes", fn := fun _ => fun
  | [d] => { results := [.lit (.bool false)], args := [d] }
  | _ => none }
def FnExactCountNodesWrongFalsely : Prop := fnExactCountNodesRow.holds Try.pinned (OpenSpec.ofChange fnExactCountNodesWrong)

/-- 'laws.FnExactCheckMerge': WHATEVER THE INPUT: true; the input reads as it did. -/
def fnExactCheckMergeSpec : ChangeSpec := { name := "fnExactCheckMerge", fn := fun _ => fun
  | [d1, d2, d3] => { results := [.lit (.bool true)], args := [d1, d2, d3] }
  | _ => none }
def fnExactCheckMergeRow : OpenClaim := { program := "ytlbnhdnmcnfgdaa", sum := "de3607d3b546b4c5303c2ac7feeff28a74616bde5d1936b651c472866e825136", func := "loop.example/g01274/laws.FnExactCheckMerge", spec := "fnExactCheckMerge", unfollowed := true, recurses := true, plainKeys := false, apart := false }
def FnExactCheckMergeSaid : Prop := fnExactCheckMergeRow.holds Try.pinned (OpenSpec.ofChange fnExactCheckMergeSpec)

/-- ITS FALSE NEIGHBOUR: 'it returns false'. Refute it at one input. -/
def fnExactCheckMergeWrong : ChangeSpec := { name := "fnExactCheckMerge", fn := fun _ => fun
  | [d1, d2, d3] => { results := [.lit (.bool false)], args := [d1, d2, d3] }
  | _ => none }
def FnExactCheckMergeWrongFalsely : Prop := fnExactCheckMergeRow.holds Try.pinned (OpenSpec.ofChange fnExactCheckMergeWrong)

/-- 'laws.FnExactTakePiece': WHATEVER THE INPUT: true; the input reads as it did. -/
def fnExactTakePieceSpec : ChangeSpec := { name := "fnExactTakePiece", fn := fun _ => fun
  | [d1, d2] => { results := [.lit (.bool true)], args := [d1, d2] }
  | _ => none }
def fnExactTakePieceRow : OpenClaim := { program := "ytlbnhdnmcnfgdaa", sum := "de3607d3b546b4c5303c2ac7feeff28a74616bde5d1936b651c472866e825136", func := "loop.example/g01274/laws.FnExactTakePiece", spec := "fnExactTakePiece", plainKeys := false, apart := false }
def FnExactTakePieceSaid : Prop := fnExactTakePieceRow.holds Try.pinned (OpenSpec.ofChange fnExactTakePieceSpec)

/-- ITS FALSE NEIGHBOUR: 'it returns false'. Refute it at one input. -/
def fnExactTakePieceWrong : ChangeSpec := { name := "fnExactTakePiece", fn := fun _ => fun
  | [d1, d2] => { results := [.lit (.bool false)], args := [d1, d2] }
  | _ => none }
def FnExactTakePieceWrongFalsely : Prop := fnExactTakePieceRow.holds Try.pinned (OpenSpec.ofChange fnExactTakePieceWrong)

/-- 'laws.FnExactJoinBoards': WHATEVER THE INPUT: true; the input reads as it did. -/
def fnExactJoinBoardsSpec : ChangeSpec := { name := "fnExactJoinBoards", fn := fun _ => fun
  | [d1, d2] => { results := [.lit (.bool true)], args := [d1, d2] }
  | _ => none }
def fnExactJoinBoardsRow : OpenClaim := { program := "ytlbnhdnmcnfgdaa", sum := "de3607d3b546b4c5303c2ac7feeff28a74616bde5d1936b651c472866e825136", func := "loop.example/g01274/laws.FnExactJoinBoards", spec := "fnExactJoinBoards", plainKeys := false, apart := false }
def FnExactJoinBoardsSaid : Prop := fnExactJoinBoardsRow.holds Try.pinned (OpenSpec.ofChange fnExactJoinBoardsSpec)

/-- ITS FALSE NEIGHBOUR: 'it returns false'. Refute it at one input. -/
def fnExactJoinBoardsWrong : ChangeSpec := { name := "fnExactJoinBoards", fn := fun _ => fun
  | [d1, d2] => { results := [.lit (.bool false)], args := [d1, d2] }
  | _ => none }
def FnExactJoinBoardsWrongFalsely : Prop := fnExactJoinBoardsRow.holds Try.pinned (OpenSpec.ofChange fnExactJoinBoardsWrong)

/- THE SECOND FORM. 'bulk': how many values and letters a reading holds, each counted each time it is reached (what is shared counts as often as it is met; a slice's spare places count too). A statement '..UptoSaid' is the law's where the arguments, and the package variables that the reading takes, are together of bulk at most 1048576: NARROWER than '..Said'. Prove '..Said' where nothing that the law and all that it calls make is longer than what came in: it says more and counts as full. Else prove '..UptoSaid'. A law counts once. -/
mutual
def uptoBulk {H : Type} : DataW H → Nat
  | .lit (.string bytes) => bytes.length + 1
  | .lit _ => 1
  | .nil => 1
  | .ptr d => uptoBulk d + 1
  | .slice elems spare => uptoBulkAll elems + uptoBulkAll spare + 1
  | .agg parts => uptoBulkAll parts + 1
  | .iface _ d => uptoBulk d + 1
  | .map entries => uptoBulkEntries entries + 1
  | .held _ => 1
def uptoBulkAll {H : Type} : List (DataW H) → Nat
  | [] => 0
  | d :: r => uptoBulk d + uptoBulkAll r
def uptoBulkEntries {H : Type} : List (Lit × DataW H) → Nat
  | [] => 0
  | x :: r => uptoBulkEntry x + uptoBulkEntries r
def uptoBulkEntry {H : Type} : Lit × DataW H → Nat
  | (.string bytes, d) => bytes.length + uptoBulk d + 1
  | (_, d) => uptoBulk d + 1
 end
def uptoSmall : (H : Type) → List (DataW H) → Bool := fun _ ds => decide (uptoBulkAll ds ≤ 1048576)
def OpenSpec.upto (s : _root_.Go.ChangeSpec) : _root_.Go.OpenSpec := { _root_.Go.OpenSpec.ofChange s with cond := some uptoSmall }

/-- 'laws.FnExactValidNetwork', WHERE WHAT IT READS IS OF BULK AT MOST 1048576: true; the input reads as it did. -/
def fnExactValidNetworkUptoRow : OpenClaim := { program := "ytlbnhdnmcnfgdaa", sum := "de3607d3b546b4c5303c2ac7feeff28a74616bde5d1936b651c472866e825136", func := "loop.example/g01274/laws.FnExactValidNetwork", spec := "fnExactValidNetwork", plainKeys := false, apart := false, narrowed := true }
def FnExactValidNetworkUptoSaid : Prop := fnExactValidNetworkUptoRow.holds Try.pinned (OpenSpec.upto fnExactValidNetworkSpec)

/-- 'laws.FnExactSameNetwork', WHERE WHAT IT READS IS OF BULK AT MOST 1048576: true; the input reads as it did. -/
def fnExactSameNetworkUptoRow : OpenClaim := { program := "ytlbnhdnmcnfgdaa", sum := "de3607d3b546b4c5303c2ac7feeff28a74616bde5d1936b651c472866e825136", func := "loop.example/g01274/laws.FnExactSameNetwork", spec := "fnExactSameNetwork", plainKeys := false, apart := false, narrowed := true }
def FnExactSameNetworkUptoSaid : Prop := fnExactSameNetworkUptoRow.holds Try.pinned (OpenSpec.upto fnExactSameNetworkSpec)

/-- 'laws.FnExactEvalNetwork', WHERE WHAT IT READS IS OF BULK AT MOST 1048576: true; the input reads as it did. -/
def fnExactEvalNetworkUptoRow : OpenClaim := { program := "ytlbnhdnmcnfgdaa", sum := "de3607d3b546b4c5303c2ac7feeff28a74616bde5d1936b651c472866e825136", func := "loop.example/g01274/laws.FnExactEvalNetwork", spec := "fnExactEvalNetwork", unfollowed := true, recurses := true, plainKeys := false, apart := false, narrowed := true }
def FnExactEvalNetworkUptoSaid : Prop := fnExactEvalNetworkUptoRow.holds Try.pinned (OpenSpec.upto fnExactEvalNetworkSpec)

/-- 'laws.FnExactTablesOf', WHERE WHAT IT READS IS OF BULK AT MOST 1048576: true; the input reads as it did. -/
def fnExactTablesOfUptoRow : OpenClaim := { program := "ytlbnhdnmcnfgdaa", sum := "de3607d3b546b4c5303c2ac7feeff28a74616bde5d1936b651c472866e825136", func := "loop.example/g01274/laws.FnExactTablesOf", spec := "fnExactTablesOf", unfollowed := true, recurses := true, plainKeys := false, apart := false, narrowed := true }
def FnExactTablesOfUptoSaid : Prop := fnExactTablesOfUptoRow.holds Try.pinned (OpenSpec.upto fnExactTablesOfSpec)

/-- 'laws.FnExactOutputTables', WHERE WHAT IT READS IS OF BULK AT MOST 1048576: true; the input reads as it did. -/
def fnExactOutputTablesUptoRow : OpenClaim := { program := "ytlbnhdnmcnfgdaa", sum := "de3607d3b546b4c5303c2ac7feeff28a74616bde5d1936b651c472866e825136", func := "loop.example/g01274/laws.FnExactOutputTables", spec := "fnExactOutputTables", unfollowed := true, recurses := true, plainKeys := false, apart := false, narrowed := true }
def FnExactOutputTablesUptoSaid : Prop := fnExactOutputTablesUptoRow.holds Try.pinned (OpenSpec.upto fnExactOutputTablesSpec)

/-- 'laws.FnExactCountNodes', WHERE WHAT IT READS IS OF BULK AT MOST 1048576: true; the input reads as it did. -/
def fnExactCountNodesUptoRow : OpenClaim := { program := "ytlbnhdnmcnfgdaa", sum := "de3607d3b546b4c5303c2ac7feeff28a74616bde5d1936b651c472866e825136", func := "loop.example/g01274/laws.FnExactCountNodes", spec := "fnExactCountNodes", plainKeys := false, apart := false, narrowed := true }
def FnExactCountNodesUptoSaid : Prop := fnExactCountNodesUptoRow.holds Try.pinned (OpenSpec.upto fnExactCountNodesSpec)

/-- 'laws.FnExactCheckMerge', WHERE WHAT IT READS IS OF BULK AT MOST 1048576: true; the input reads as it did. -/
def fnExactCheckMergeUptoRow : OpenClaim := { program := "ytlbnhdnmcnfgdaa", sum := "de3607d3b546b4c5303c2ac7feeff28a74616bde5d1936b651c472866e825136", func := "loop.example/g01274/laws.FnExactCheckMerge", spec := "fnExactCheckMerge", unfollowed := true, recurses := true, plainKeys := false, apart := false, narrowed := true }
def FnExactCheckMergeUptoSaid : Prop := fnExactCheckMergeUptoRow.holds Try.pinned (OpenSpec.upto fnExactCheckMergeSpec)

/-- 'laws.FnExactTakePiece', WHERE WHAT IT READS IS OF BULK AT MOST 1048576: true; the input reads as it did. -/
def fnExactTakePieceUptoRow : OpenClaim := { program := "ytlbnhdnmcnfgdaa", sum := "de3607d3b546b4c5303c2ac7feeff28a74616bde5d1936b651c472866e825136", func := "loop.example/g01274/laws.FnExactTakePiece", spec := "fnExactTakePiece", plainKeys := false, apart := false, narrowed := true }
def FnExactTakePieceUptoSaid : Prop := fnExactTakePieceUptoRow.holds Try.pinned (OpenSpec.upto fnExactTakePieceSpec)

/-- 'laws.FnExactJoinBoards', WHERE WHAT IT READS IS OF BULK AT MOST 1048576: true; the input reads as it did. -/
def fnExactJoinBoardsUptoRow : OpenClaim := { program := "ytlbnhdnmcnfgdaa", sum := "de3607d3b546b4c5303c2ac7feeff28a74616bde5d1936b651c472866e825136", func := "loop.example/g01274/laws.FnExactJoinBoards", spec := "fnExactJoinBoards", plainKeys := false, apart := false, narrowed := true }
def FnExactJoinBoardsUptoSaid : Prop := fnExactJoinBoardsUptoRow.holds Try.pinned (OpenSpec.upto fnExactJoinBoardsSpec)

end Rows
end Go.Proofs.Ytlbnhdnmcnfgdaa
