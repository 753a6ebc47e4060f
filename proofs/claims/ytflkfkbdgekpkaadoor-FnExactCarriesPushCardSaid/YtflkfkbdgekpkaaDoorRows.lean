/-
  NARROWER THAN 'FOR EVERY INPUT', by the rows' own cells (each row's printed sentence says how): FnExactCarriesPush: laid · FnExactNeverHit: laid · FnExactCheckFalls: laid · FnExactFirstWrong: laid.
  DERIVED. THE GIVEN ROWS OF THIS SEAT. 4 by the template 'for every input the law returns true; each argument reads behind the call as it read before'; 0 by the template 'total and deterministic' (their statements: YtflkfkbdgekpkaaDoorTotals.lean).
  GIVEN WITH THE SEED: the statements are not yours to turn. If you find one false, say at which input.
  Laid BY PROGRAM, IN A SANDBOX (cutbox-rows.mjs): the forced cells as the released guide's own fill.sh prints them over the translation d3b0500c538e2360… (all of the seat's roots in one cut). By AI agents, Wed Nov 11 2026. No macro, syntax, notation, axiom, sorry.
-/
import Derived.Test.YtflkfkbdgekpkaaDoorChecked
import GoSem.Claim
import GoSem.ClaimJoined
import GoSem.ClaimMapViews
import Derived.JoinedTies
import Derived.KernelRfl
namespace Go.Proofs.YtflkfkbdgekpkaaDoor
/- THE CELL 'sum', in the pinned program and in every row, IS THE sha256 OF THE DUMP (.gsa) THAT YtflkfkbdgekpkaaDoorProg.lean LOADS. Nothing in Lean hashes anything: it is a label: what it is worth is what the hold of that sum in a sandbox is worth. -/
noncomputable def Tryd.pinned : Pinned := { name := "ytflkfkbdgekpkaadoor", sum := "d3b0500c538e2360bb7f5d5f49fab4ed37ac76020453e5277902de9ccbfbe6b8", checked := Tryd.checked }
namespace Rows
def none {H : Type} : Left H := { results := [], args := [] }

/- WHAT THE LISTED PACKAGE-LEVEL VARIABLES READ AS WHEN THE CALL BEGINS. Each datum BY PROGRAM (the guide's laid-datum.mjs) off the statement by which the dump's own 'gosem.cut.vars' lays the variable. In a bare row this is a premise. The card (YtflkfkbdgekpkaaDoorCards.lean) ties it to the program's text. -/
def laid_loop_example_g01274_impl_stays {H : Type} : DataW H := .agg [.lit (.int .i64 (-1)), .lit (.int .i8 0), .lit (.int .i64 (-1))]

/-- 'laws.FnExactCarriesPush': WHATEVER THE INPUT: true; the input reads as it did. -/
def fnExactCarriesPushSpec : ChangeSpec := { name := "fnExactCarriesPush", vars := ["loop.example/g01274/impl.stays"], fn := fun _ => fun
  | [d1, d2, g1] => { results := [.lit (.bool true)], args := [d1, d2], vars := [g1] }
  | _ => none }
def fnExactCarriesPushRow : OpenClaim := { program := "ytflkfkbdgekpkaadoor", sum := "d3b0500c538e2360bb7f5d5f49fab4ed37ac76020453e5277902de9ccbfbe6b8", func := "loop.example/g01274/laws.FnExactCarriesPush", spec := "fnExactCarriesPush", inPlace := ["slices.overlaps[loop.example/g01274/impl.hit]"], unfollowed := true, recurses := true, named := ["loop.example/g01274/impl.stays"], plainKeys := false, apart := false, laid := [("loop.example/g01274/impl.stays", laid_loop_example_g01274_impl_stays)] }
def FnExactCarriesPushSaid : Prop := fnExactCarriesPushRow.holds Tryd.pinned (OpenSpec.ofChange fnExactCarriesPushSpec)

/-- ITS FALSE NEIGHBOUR: 'it returns false'. Refute it at one input. -/
def fnExactCarriesPushWrong : ChangeSpec := { name := "fnExactCarriesPush", vars := ["loop.example/g01274/impl.stays"], fn := fun _ => fun
  | [d1, d2, g1] => { results := [.lit (.bool false)], args := [d1, d2], vars := [g1] }
  | _ => none }
def FnExactCarriesPushWrongFalsely : Prop := fnExactCarriesPushRow.holds Tryd.pinned (OpenSpec.ofChange fnExactCarriesPushWrong)

/-- 'laws.FnExactNeverHit': WHATEVER THE INPUT: true; the input reads as it did. -/
def fnExactNeverHitSpec : ChangeSpec := { name := "fnExactNeverHit", vars := ["loop.example/g01274/impl.stays"], fn := fun _ => fun
  | [d, g1] => { results := [.lit (.bool true)], args := [d], vars := [g1] }
  | _ => none }
def fnExactNeverHitRow : OpenClaim := { program := "ytflkfkbdgekpkaadoor", sum := "d3b0500c538e2360bb7f5d5f49fab4ed37ac76020453e5277902de9ccbfbe6b8", func := "loop.example/g01274/laws.FnExactNeverHit", spec := "fnExactNeverHit", unfollowed := true, recurses := true, named := ["loop.example/g01274/impl.stays"], plainKeys := false, apart := false, laid := [("loop.example/g01274/impl.stays", laid_loop_example_g01274_impl_stays)] }
def FnExactNeverHitSaid : Prop := fnExactNeverHitRow.holds Tryd.pinned (OpenSpec.ofChange fnExactNeverHitSpec)

/-- ITS FALSE NEIGHBOUR: 'it returns false'. Refute it at one input. -/
def fnExactNeverHitWrong : ChangeSpec := { name := "fnExactNeverHit", vars := ["loop.example/g01274/impl.stays"], fn := fun _ => fun
  | [d, g1] => { results := [.lit (.bool false)], args := [d], vars := [g1] }
  | _ => none }
def FnExactNeverHitWrongFalsely : Prop := fnExactNeverHitRow.holds Tryd.pinned (OpenSpec.ofChange fnExactNeverHitWrong)

/-- 'laws.FnExactCheckFalls': WHATEVER THE INPUT: true; the input reads as it did. -/
def fnExactCheckFallsSpec : ChangeSpec := { name := "fnExactCheckFalls", vars := ["loop.example/g01274/impl.stays"], fn := fun _ => fun
  | [d1, d2, d3, g1] => { results := [.lit (.bool true)], args := [d1, d2, d3], vars := [g1] }
  | _ => none }
def fnExactCheckFallsRow : OpenClaim := { program := "ytflkfkbdgekpkaadoor", sum := "d3b0500c538e2360bb7f5d5f49fab4ed37ac76020453e5277902de9ccbfbe6b8", func := "loop.example/g01274/laws.FnExactCheckFalls", spec := "fnExactCheckFalls", unfollowed := true, recurses := true, named := ["loop.example/g01274/impl.stays"], plainKeys := false, apart := false, laid := [("loop.example/g01274/impl.stays", laid_loop_example_g01274_impl_stays)] }
def FnExactCheckFallsSaid : Prop := fnExactCheckFallsRow.holds Tryd.pinned (OpenSpec.ofChange fnExactCheckFallsSpec)

/-- ITS FALSE NEIGHBOUR: 'it returns false'. Refute it at one input. -/
def fnExactCheckFallsWrong : ChangeSpec := { name := "fnExactCheckFalls", vars := ["loop.example/g01274/impl.stays"], fn := fun _ => fun
  | [d1, d2, d3, g1] => { results := [.lit (.bool false)], args := [d1, d2, d3], vars := [g1] }
  | _ => none }
def FnExactCheckFallsWrongFalsely : Prop := fnExactCheckFallsRow.holds Tryd.pinned (OpenSpec.ofChange fnExactCheckFallsWrong)

/-- 'laws.FnExactFirstWrong': WHATEVER THE INPUT: true; the input reads as it did. -/
def fnExactFirstWrongSpec : ChangeSpec := { name := "fnExactFirstWrong", vars := ["loop.example/g01274/impl.stays"], fn := fun _ => fun
  | [d1, d2, d3, g1] => { results := [.lit (.bool true)], args := [d1, d2, d3], vars := [g1] }
  | _ => none }
def fnExactFirstWrongRow : OpenClaim := { program := "ytflkfkbdgekpkaadoor", sum := "d3b0500c538e2360bb7f5d5f49fab4ed37ac76020453e5277902de9ccbfbe6b8", func := "loop.example/g01274/laws.FnExactFirstWrong", spec := "fnExactFirstWrong", unfollowed := true, recurses := true, named := ["loop.example/g01274/impl.stays"], plainKeys := false, apart := false, laid := [("loop.example/g01274/impl.stays", laid_loop_example_g01274_impl_stays)] }
def FnExactFirstWrongSaid : Prop := fnExactFirstWrongRow.holds Tryd.pinned (OpenSpec.ofChange fnExactFirstWrongSpec)

/-- ITS FALSE NEIGHBOUR: 'it returns false'. Refute it at one input. -/
def fnExactFirstWrongWrong : ChangeSpec := { name := "fnExactFirstWrong", vars := ["loop.example/g01274/impl.stays"], fn := fun _ => fun
  | [d1, d2, d3, g1] => { results := [.lit (.bool false)], args := [d1, d2, d3], vars := [g1] }
  | _ => none }
def FnExactFirstWrongWrongFalsely : Prop := fnExactFirstWrongRow.holds Tryd.pinned (OpenSpec.ofChange fnExactFirstWrongWrong)

/- THE SECOND FORM. 'bulk': how many values and letters a reading holds, each counted each time it is reached (what is shared counts as often as it is met; a slice's spare places count too). A statement '..UptoSaid' is the law's where the arguments, and the package variables that the reading takes, are together of bulk at most 1048576: NARROWER than '..Said'. Prove '..Said' where nothing that the law and all that it calls make is longer than what came in: it says more and counts as full. Else prove '..UptoSaid'. A law counts once. -/
mutual
def uptoBulk {H : Type} : DataW H → Nat
  | .lit (.string bytes) => bytes.length + 1
  | .lit _ => 1
  | .nil => 1
  | .ptr d => uptoBulk d + 1
  | .slice elems spare => uptoBulkAll elems + uptoBulkAll spare + 1
  | .agg parts => uptoBulkAll parts + 1
  | .iface _ d => uptoBulk d + 1
  | .map entries => uptoBulkEntries entries + 1
  | .held _ => 1
def uptoBulkAll {H : Type} : List (DataW H) → Nat
  | [] => 0
  | d :: r => uptoBulk d + uptoBulkAll r
def uptoBulkEntries {H : Type} : List (Lit × DataW H) → Nat
  | [] => 0
  | x :: r => uptoBulkEntry x + uptoBulkEntries r
def uptoBulkEntry {H : Type} : Lit × DataW H → Nat
  | (.string bytes, d) => bytes.length + uptoBulk d + 1
  | (_, d) => uptoBulk d + 1
 end
def uptoSmall : (H : Type) → List (DataW H) → Bool := fun _ ds => decide (uptoBulkAll ds ≤ 1048576)
def OpenSpec.upto (s : _root_.Go.ChangeSpec) : _root_.Go.OpenSpec := { _root_.Go.OpenSpec.ofChange s with cond := some uptoSmall }

/-- 'laws.FnExactCarriesPush', WHERE WHAT IT READS IS OF BULK AT MOST 1048576: true; the input reads as it did. -/
def fnExactCarriesPushUptoRow : OpenClaim := { program := "ytflkfkbdgekpkaadoor", sum := "d3b0500c538e2360bb7f5d5f49fab4ed37ac76020453e5277902de9ccbfbe6b8", func := "loop.example/g01274/laws.FnExactCarriesPush", spec := "fnExactCarriesPush", inPlace := ["slices.overlaps[loop.example/g01274/impl.hit]"], unfollowed := true, recurses := true, named := ["loop.example/g01274/impl.stays"], plainKeys := false, apart := false, laid := [("loop.example/g01274/impl.stays", laid_loop_example_g01274_impl_stays)], narrowed := true }
def FnExactCarriesPushUptoSaid : Prop := fnExactCarriesPushUptoRow.holds Tryd.pinned (OpenSpec.upto fnExactCarriesPushSpec)

/-- 'laws.FnExactNeverHit', WHERE WHAT IT READS IS OF BULK AT MOST 1048576: true; the input reads as it did. -/
def fnExactNeverHitUptoRow : OpenClaim := { program := "ytflkfkbdgekpkaadoor", sum := "d3b0500c538e2360bb7f5d5f49fab4ed37ac76020453e5277902de9ccbfbe6b8", func := "loop.example/g01274/laws.FnExactNeverHit", spec := "fnExactNeverHit", unfollowed := true, recurses := true, named := ["loop.example/g01274/impl.stays"], plainKeys := false, apart := false, laid := [("loop.example/g01274/impl.stays", laid_loop_example_g01274_impl_stays)], narrowed := true }
def FnExactNeverHitUptoSaid : Prop := fnExactNeverHitUptoRow.holds Tryd.pinned (OpenSpec.upto fnExactNeverHitSpec)

/-- 'laws.FnExactCheckFalls', WHERE WHAT IT READS IS OF BULK AT MOST 1048576: true; the input reads as it did. -/
def fnExactCheckFallsUptoRow : OpenClaim := { program := "ytflkfkbdgekpkaadoor", sum := "d3b0500c538e2360bb7f5d5f49fab4ed37ac76020453e5277902de9ccbfbe6b8", func := "loop.example/g01274/laws.FnExactCheckFalls", spec := "fnExactCheckFalls", unfollowed := true, recurses := true, named := ["loop.example/g01274/impl.stays"], plainKeys := false, apart := false, laid := [("loop.example/g01274/impl.stays", laid_loop_example_g01274_impl_stays)], narrowed := true }
def FnExactCheckFallsUptoSaid : Prop := fnExactCheckFallsUptoRow.holds Tryd.pinned (OpenSpec.upto fnExactCheckFallsSpec)

/-- 'laws.FnExactFirstWrong', WHERE WHAT IT READS IS OF BULK AT MOST 1048576: true; the input reads as it did. -/
def fnExactFirstWrongUptoRow : OpenClaim := { program := "ytflkfkbdgekpkaadoor", sum := "d3b0500c538e2360bb7f5d5f49fab4ed37ac76020453e5277902de9ccbfbe6b8", func := "loop.example/g01274/laws.FnExactFirstWrong", spec := "fnExactFirstWrong", unfollowed := true, recurses := true, named := ["loop.example/g01274/impl.stays"], plainKeys := false, apart := false, laid := [("loop.example/g01274/impl.stays", laid_loop_example_g01274_impl_stays)], narrowed := true }
def FnExactFirstWrongUptoSaid : Prop := fnExactFirstWrongUptoRow.holds Tryd.pinned (OpenSpec.upto fnExactFirstWrongSpec)

end Rows
end Go.Proofs.YtflkfkbdgekpkaaDoor
