/-
  NARROWER THAN 'FOR EVERY INPUT', by the rows' own cells (each row's printed sentence says how): FnExactRunBoard: laid · FnExactFallenUntil: laid · FnExactStandingAfter: laid · FnExactFallOrder: laid · FnExactLastTick: laid · FnExactCausesOf: laid · FnExactCheckFalls: laid · FnExactFirstWrong: laid · FnExactPushOne: laid · FnExactCountFrom: laid · FnExactNeverHit: laid.
  DERIVED. THE GIVEN ROWS OF THIS SEAT. 11 by the template 'for every input the law returns true; each argument reads behind the call as it read before'; 0 by the template 'total and deterministic' (their statements: YtmabcfepkcpcoaaDoorTotals.lean).
  GIVEN WITH THE SEED: the statements are not yours to turn. If you find one false, say at which input.
  Laid BY PROGRAM, IN A SANDBOX (cutbox-rows.mjs): the forced cells as the released guide's own fill.sh prints them over the translation 1501d85da6d82f94… (all of the seat's roots in one cut). By AI agents, Wed Nov 11 2026. No macro, syntax, notation, axiom, sorry.
-/
import Derived.Test.YtmabcfepkcpcoaaDoorChecked
import GoSem.Claim
import GoSem.ClaimJoined
import GoSem.ClaimMapViews
import Derived.JoinedTies
import Derived.KernelRfl
namespace Go.Proofs.YtmabcfepkcpcoaaDoor
/- THE CELL 'sum', in the pinned program and in every row, IS THE sha256 OF THE DUMP (.gsa) THAT YtmabcfepkcpcoaaDoorProg.lean LOADS. Nothing in Lean hashes anything: it is a label: what it is worth is what the hold of that sum in a sandbox is worth. -/
noncomputable def Tryd.pinned : Pinned := { name := "ytmabcfepkcpcoaadoor", sum := "1501d85da6d82f94b15bce14024297c3508c2c28bdf4a0d38e232d07c34395c2", checked := Tryd.checked }
namespace Rows
def none {H : Type} : Left H := { results := [], args := [] }

/- WHAT THE LISTED PACKAGE-LEVEL VARIABLES READ AS WHEN THE CALL BEGINS. Each datum BY PROGRAM (the guide's laid-datum.mjs) off the statement by which the dump's own 'gosem.cut.vars' lays the variable. In a bare row this is a premise. The card (YtmabcfepkcpcoaaDoorCards.lean) ties it to the program's text. -/
def laid_loop_example_g01274_impl_stays {H : Type} : DataW H := .agg [.lit (.int .i64 (-1)), .lit (.int .i8 0), .lit (.int .i64 (-1))]

/-- 'laws.FnExactRunBoard': WHATEVER THE INPUT: true; the input reads as it did. -/
def fnExactRunBoardSpec : ChangeSpec := { name := "fnExactRunBoard", vars := ["loop.example/g01274/impl.stays"], fn := fun _ => fun
  | [d1, d2, g1] => { results := [.lit (.bool true)], args := [d1, d2], vars := [g1] }
  | _ => none }
def fnExactRunBoardRow : OpenClaim := { program := "ytmabcfepkcpcoaadoor", sum := "1501d85da6d82f94b15bce14024297c3508c2c28bdf4a0d38e232d07c34395c2", func := "loop.example/g01274/laws.FnExactRunBoard", spec := "fnExactRunBoard", inPlace := ["slices.overlaps[loop.example/g01274/impl.hit]"], unfollowed := true, recurses := true, named := ["loop.example/g01274/impl.stays"], plainKeys := false, apart := false, laid := [("loop.example/g01274/impl.stays", laid_loop_example_g01274_impl_stays)] }
def FnExactRunBoardSaid : Prop := fnExactRunBoardRow.holds Tryd.pinned (OpenSpec.ofChange fnExactRunBoardSpec)

/-- ITS FALSE NEIGHBOUR: 'it returns false'. Refute it at one input. -/
def fnExactRunBoardWrong : ChangeSpec := { name := "fnExactRunBoard", vars := ["loop.example/g01274/impl.stays"], fn := fun _ => fun
  | [d1, d2, g1] => { results := [.lit (.bool false)], args := [d1, d2], vars := [g1] }
  | _ => none }
def FnExactRunBoardWrongFalsely : Prop := fnExactRunBoardRow.holds Tryd.pinned (OpenSpec.ofChange fnExactRunBoardWrong)

/-- 'laws.FnExactFallenUntil': WHATEVER THE INPUT: true; the input reads as it did. -/
def fnExactFallenUntilSpec : ChangeSpec := { name := "fnExactFallenUntil", vars := ["loop.example/g01274/impl.stays"], fn := fun _ => fun
  | [d1, d2, d3, g1] => { results := [.lit (.bool true)], args := [d1, d2, d3], vars := [g1] }
  | _ => none }
def fnExactFallenUntilRow : OpenClaim := { program := "ytmabcfepkcpcoaadoor", sum := "1501d85da6d82f94b15bce14024297c3508c2c28bdf4a0d38e232d07c34395c2", func := "loop.example/g01274/laws.FnExactFallenUntil", spec := "fnExactFallenUntil", inPlace := ["slices.overlaps[loop.example/g01274/impl.hit]"], unfollowed := true, recurses := true, named := ["loop.example/g01274/impl.stays"], plainKeys := false, apart := false, laid := [("loop.example/g01274/impl.stays", laid_loop_example_g01274_impl_stays)] }
def FnExactFallenUntilSaid : Prop := fnExactFallenUntilRow.holds Tryd.pinned (OpenSpec.ofChange fnExactFallenUntilSpec)

/-- ITS FALSE NEIGHBOUR: 'it returns false'. Refute it at one input. -/
def fnExactFallenUntilWrong : ChangeSpec := { name := "fnExactFallenUntil", vars := ["loop.example/g01274/impl.stays"], fn := fun _ => fun
  | [d1, d2, d3, g1] => { results := [.lit (.bool false)], args := [d1, d2, d3], vars := [g1] }
  | _ => none }
def FnExactFallenUntilWrongFalsely : Prop := fnExactFallenUntilRow.holds Tryd.pinned (OpenSpec.ofChange fnExactFallenUntilWrong)

/-- 'laws.FnExactStandingAfter': WHATEVER THE INPUT: true; the input reads as it did. -/
def fnExactStandingAfterSpec : ChangeSpec := { name := "fnExactStandingAfter", vars := ["loop.example/g01274/impl.stays"], fn := fun _ => fun
  | [d1, d2, g1] => { results := [.lit (.bool true)], args := [d1, d2], vars := [g1] }
  | _ => none }
def fnExactStandingAfterRow : OpenClaim := { program := "ytmabcfepkcpcoaadoor", sum := "1501d85da6d82f94b15bce14024297c3508c2c28bdf4a0d38e232d07c34395c2", func := "loop.example/g01274/laws.FnExactStandingAfter", spec := "fnExactStandingAfter", inPlace := ["slices.overlaps[loop.example/g01274/impl.hit]"], unfollowed := true, recurses := true, named := ["loop.example/g01274/impl.stays"], plainKeys := false, apart := false, laid := [("loop.example/g01274/impl.stays", laid_loop_example_g01274_impl_stays)] }
def FnExactStandingAfterSaid : Prop := fnExactStandingAfterRow.holds Tryd.pinned (OpenSpec.ofChange fnExactStandingAfterSpec)

/-- ITS FALSE NEIGHBOUR: 'it returns false'. Refute it at one input. -/
def fnExactStandingAfterWrong : ChangeSpec := { name := "fnExactStandingAfter", vars := ["loop.example/g01274/impl.stays"], fn := fun _ => fun
  | [d1, d2, g1] => { results := [.lit (.bool false)], args := [d1, d2], vars := [g1] }
  | _ => none }
def FnExactStandingAfterWrongFalsely : Prop := fnExactStandingAfterRow.holds Tryd.pinned (OpenSpec.ofChange fnExactStandingAfterWrong)

/-- 'laws.FnExactFallOrder': WHATEVER THE INPUT: true; the input reads as it did. -/
def fnExactFallOrderSpec : ChangeSpec := { name := "fnExactFallOrder", vars := ["loop.example/g01274/impl.stays"], fn := fun _ => fun
  | [d1, d2, g1] => { results := [.lit (.bool true)], args := [d1, d2], vars := [g1] }
  | _ => none }
def fnExactFallOrderRow : OpenClaim := { program := "ytmabcfepkcpcoaadoor", sum := "1501d85da6d82f94b15bce14024297c3508c2c28bdf4a0d38e232d07c34395c2", func := "loop.example/g01274/laws.FnExactFallOrder", spec := "fnExactFallOrder", inPlace := ["slices.overlaps[loop.example/g01274/impl.hit]"], unfollowed := true, recurses := true, named := ["loop.example/g01274/impl.stays"], plainKeys := false, apart := false, laid := [("loop.example/g01274/impl.stays", laid_loop_example_g01274_impl_stays)] }
def FnExactFallOrderSaid : Prop := fnExactFallOrderRow.holds Tryd.pinned (OpenSpec.ofChange fnExactFallOrderSpec)

/-- ITS FALSE NEIGHBOUR: 'it returns false'. Refute it at one input. -/
def fnExactFallOrderWrong : ChangeSpec := { name := "fnExactFallOrder", vars := ["loop.example/g01274/impl.stays"], fn := fun _ => fun
  | [d1, d2, g1] => { results := [.lit (.bool false)], args := [d1, d2], vars := [g1] }
  | _ => none }
def FnExactFallOrderWrongFalsely : Prop := fnExactFallOrderRow.holds Tryd.pinned (OpenSpec.ofChange fnExactFallOrderWrong)

/-- 'laws.FnExactLastTick': WHATEVER THE INPUT: true; the input reads as it did. -/
def fnExactLastTickSpec : ChangeSpec := { name := "fnExactLastTick", vars := ["loop.example/g01274/impl.stays"], fn := fun _ => fun
  | [d1, d2, g1] => { results := [.lit (.bool true)], args := [d1, d2], vars := [g1] }
  | _ => none }
def fnExactLastTickRow : OpenClaim := { program := "ytmabcfepkcpcoaadoor", sum := "1501d85da6d82f94b15bce14024297c3508c2c28bdf4a0d38e232d07c34395c2", func := "loop.example/g01274/laws.FnExactLastTick", spec := "fnExactLastTick", inPlace := ["slices.overlaps[loop.example/g01274/impl.hit]"], unfollowed := true, recurses := true, named := ["loop.example/g01274/impl.stays"], plainKeys := false, apart := false, laid := [("loop.example/g01274/impl.stays", laid_loop_example_g01274_impl_stays)] }
def FnExactLastTickSaid : Prop := fnExactLastTickRow.holds Tryd.pinned (OpenSpec.ofChange fnExactLastTickSpec)

/-- ITS FALSE NEIGHBOUR: 'it returns false'. Refute it at one input. -/
def fnExactLastTickWrong : ChangeSpec := { name := "fnExactLastTick", vars := ["loop.example/g01274/impl.stays"], fn := fun _ => fun
  | [d1, d2, g1] => { results := [.lit (.bool false)], args := [d1, d2], vars := [g1] }
  | _ => none }
def FnExactLastTickWrongFalsely : Prop := fnExactLastTickRow.holds Tryd.pinned (OpenSpec.ofChange fnExactLastTickWrong)

/-- 'laws.FnExactCausesOf': WHATEVER THE INPUT: true; the input reads as it did. -/
def fnExactCausesOfSpec : ChangeSpec := { name := "fnExactCausesOf", vars := ["loop.example/g01274/impl.stays"], fn := fun _ => fun
  | [d1, d2, d3, g1] => { results := [.lit (.bool true)], args := [d1, d2, d3], vars := [g1] }
  | _ => none }
def fnExactCausesOfRow : OpenClaim := { program := "ytmabcfepkcpcoaadoor", sum := "1501d85da6d82f94b15bce14024297c3508c2c28bdf4a0d38e232d07c34395c2", func := "loop.example/g01274/laws.FnExactCausesOf", spec := "fnExactCausesOf", inPlace := ["slices.overlaps[loop.example/g01274/impl.hit]"], unfollowed := true, recurses := true, named := ["loop.example/g01274/impl.stays"], plainKeys := false, apart := false, laid := [("loop.example/g01274/impl.stays", laid_loop_example_g01274_impl_stays)] }
def FnExactCausesOfSaid : Prop := fnExactCausesOfRow.holds Tryd.pinned (OpenSpec.ofChange fnExactCausesOfSpec)

/-- ITS FALSE NEIGHBOUR: 'it returns false'. Refute it at one input. -/
def fnExactCausesOfWrong : ChangeSpec := { name := "fnExactCausesOf", vars := ["loop.example/g01274/impl.stays"], fn := fun _ => fun
  | [d1, d2, d3, g1] => { results := [.lit (.bool false)], args := [d1, d2, d3], vars := [g1] }
  | _ => none }
def FnExactCausesOfWrongFalsely : Prop := fnExactCausesOfRow.holds Tryd.pinned (OpenSpec.ofChange fnExactCausesOfWrong)

/-- 'laws.FnExactCheckFalls': WHATEVER THE INPUT: true; the input reads as it did. -/
def fnExactCheckFallsSpec : ChangeSpec := { name := "fnExactCheckFalls", vars := ["loop.example/g01274/impl.stays"], fn := fun _ => fun
  | [d1, d2, d3, g1] => { results := [.lit (.bool true)], args := [d1, d2, d3], vars := [g1] }
  | _ => none }
def fnExactCheckFallsRow : OpenClaim := { program := "ytmabcfepkcpcoaadoor", sum := "1501d85da6d82f94b15bce14024297c3508c2c28bdf4a0d38e232d07c34395c2", func := "loop.example/g01274/laws.FnExactCheckFalls", spec := "fnExactCheckFalls", unfollowed := true, recurses := true, named := ["loop.example/g01274/impl.stays"], plainKeys := false, apart := false, laid := [("loop.example/g01274/impl.stays", laid_loop_example_g01274_impl_stays)] }
def FnExactCheckFallsSaid : Prop := fnExactCheckFallsRow.holds Tryd.pinned (OpenSpec.ofChange fnExactCheckFallsSpec)

/-- ITS FALSE NEIGHBOUR: 'it returns false'. Refute it at one input. -/
def fnExactCheckFallsWrong : ChangeSpec := { name := "fnExactCheckFalls", vars := ["loop.example/g01274/impl.stays"], fn := fun _ => fun
  | [d1, d2, d3, g1] => { results := [.lit (.bool false)], args := [d1, d2, d3], vars := [g1] }
  | _ => none }
def FnExactCheckFallsWrongFalsely : Prop := fnExactCheckFallsRow.holds Tryd.pinned (OpenSpec.ofChange fnExactCheckFallsWrong)

/-- 'laws.FnExactFirstWrong': WHATEVER THE INPUT: true; the input reads as it did. -/
def fnExactFirstWrongSpec : ChangeSpec := { name := "fnExactFirstWrong", vars := ["loop.example/g01274/impl.stays"], fn := fun _ => fun
  | [d1, d2, d3, g1] => { results := [.lit (.bool true)], args := [d1, d2, d3], vars := [g1] }
  | _ => none }
def fnExactFirstWrongRow : OpenClaim := { program := "ytmabcfepkcpcoaadoor", sum := "1501d85da6d82f94b15bce14024297c3508c2c28bdf4a0d38e232d07c34395c2", func := "loop.example/g01274/laws.FnExactFirstWrong", spec := "fnExactFirstWrong", unfollowed := true, recurses := true, named := ["loop.example/g01274/impl.stays"], plainKeys := false, apart := false, laid := [("loop.example/g01274/impl.stays", laid_loop_example_g01274_impl_stays)] }
def FnExactFirstWrongSaid : Prop := fnExactFirstWrongRow.holds Tryd.pinned (OpenSpec.ofChange fnExactFirstWrongSpec)

/-- ITS FALSE NEIGHBOUR: 'it returns false'. Refute it at one input. -/
def fnExactFirstWrongWrong : ChangeSpec := { name := "fnExactFirstWrong", vars := ["loop.example/g01274/impl.stays"], fn := fun _ => fun
  | [d1, d2, d3, g1] => { results := [.lit (.bool false)], args := [d1, d2, d3], vars := [g1] }
  | _ => none }
def FnExactFirstWrongWrongFalsely : Prop := fnExactFirstWrongRow.holds Tryd.pinned (OpenSpec.ofChange fnExactFirstWrongWrong)

/-- 'laws.FnExactPushOne': WHATEVER THE INPUT: true; the input reads as it did. -/
def fnExactPushOneSpec : ChangeSpec := { name := "fnExactPushOne", vars := ["loop.example/g01274/impl.stays"], fn := fun _ => fun
  | [d1, d2, d3, g1] => { results := [.lit (.bool true)], args := [d1, d2, d3], vars := [g1] }
  | _ => none }
def fnExactPushOneRow : OpenClaim := { program := "ytmabcfepkcpcoaadoor", sum := "1501d85da6d82f94b15bce14024297c3508c2c28bdf4a0d38e232d07c34395c2", func := "loop.example/g01274/laws.FnExactPushOne", spec := "fnExactPushOne", inPlace := ["slices.overlaps[loop.example/g01274/impl.hit]"], unfollowed := true, recurses := true, named := ["loop.example/g01274/impl.stays"], plainKeys := false, apart := false, laid := [("loop.example/g01274/impl.stays", laid_loop_example_g01274_impl_stays)] }
def FnExactPushOneSaid : Prop := fnExactPushOneRow.holds Tryd.pinned (OpenSpec.ofChange fnExactPushOneSpec)

/-- ITS FALSE NEIGHBOUR: 'it returns false'. Refute it at one input. -/
def fnExactPushOneWrong : ChangeSpec := { name := "fnExactPushOne", vars := ["loop.example/g01274/impl.stays"], fn := fun _ => fun
  | [d1, d2, d3, g1] => { results := [.lit (.bool false)], args := [d1, d2, d3], vars := [g1] }
  | _ => none }
def FnExactPushOneWrongFalsely : Prop := fnExactPushOneRow.holds Tryd.pinned (OpenSpec.ofChange fnExactPushOneWrong)

/-- 'laws.FnExactCountFrom': WHATEVER THE INPUT: true; the input reads as it did. -/
def fnExactCountFromSpec : ChangeSpec := { name := "fnExactCountFrom", vars := ["loop.example/g01274/impl.stays"], fn := fun _ => fun
  | [d1, d2, d3, g1] => { results := [.lit (.bool true)], args := [d1, d2, d3], vars := [g1] }
  | _ => none }
def fnExactCountFromRow : OpenClaim := { program := "ytmabcfepkcpcoaadoor", sum := "1501d85da6d82f94b15bce14024297c3508c2c28bdf4a0d38e232d07c34395c2", func := "loop.example/g01274/laws.FnExactCountFrom", spec := "fnExactCountFrom", inPlace := ["slices.overlaps[loop.example/g01274/impl.hit]"], unfollowed := true, recurses := true, named := ["loop.example/g01274/impl.stays"], plainKeys := false, apart := false, laid := [("loop.example/g01274/impl.stays", laid_loop_example_g01274_impl_stays)] }
def FnExactCountFromSaid : Prop := fnExactCountFromRow.holds Tryd.pinned (OpenSpec.ofChange fnExactCountFromSpec)

/-- ITS FALSE NEIGHBOUR: 'it returns false'. Refute it at one input. -/
def fnExactCountFromWrong : ChangeSpec := { name := "fnExactCountFrom", vars := ["loop.example/g01274/impl.stays"], fn := fun _ => fun
  | [d1, d2, d3, g1] => { results := [.lit (.bool false)], args := [d1, d2, d3], vars := [g1] }
  | _ => none }
def FnExactCountFromWrongFalsely : Prop := fnExactCountFromRow.holds Tryd.pinned (OpenSpec.ofChange fnExactCountFromWrong)

/-- 'laws.FnExactNeverHit': WHATEVER THE INPUT: true; the input reads as it did. -/
def fnExactNeverHitSpec : ChangeSpec := { name := "fnExactNeverHit", vars := ["loop.example/g01274/impl.stays"], fn := fun _ => fun
  | [d, g1] => { results := [.lit (.bool true)], args := [d], vars := [g1] }
  | _ => none }
def fnExactNeverHitRow : OpenClaim := { program := "ytmabcfepkcpcoaadoor", sum := "1501d85da6d82f94b15bce14024297c3508c2c28bdf4a0d38e232d07c34395c2", func := "loop.example/g01274/laws.FnExactNeverHit", spec := "fnExactNeverHit", unfollowed := true, recurses := true, named := ["loop.example/g01274/impl.stays"], plainKeys := false, apart := false, laid := [("loop.example/g01274/impl.stays", laid_loop_example_g01274_impl_stays)] }
def FnExactNeverHitSaid : Prop := fnExactNeverHitRow.holds Tryd.pinned (OpenSpec.ofChange fnExactNeverHitSpec)

/-- ITS FALSE NEIGHBOUR: 'it returns false'. Refute it at one input. -/
def fnExactNeverHitWrong : ChangeSpec := { name := "fnExactNeverHit", vars := ["loop.example/g01274/impl.stays"], fn := fun _ => fun
  | [d, g1] => { results := [.lit (.bool false)], args := [d], vars := [g1] }
  | _ => none }
def FnExactNeverHitWrongFalsely : Prop := fnExactNeverHitRow.holds Tryd.pinned (OpenSpec.ofChange fnExactNeverHitWrong)

/- THE SECOND FORM. 'bulk': how many values and letters a reading holds, each counted each time it is reached (what is shared counts as often as it is met; a slice's spare places count too). A statement '..UptoSaid' is the law's where the arguments, and the package variables that the reading takes, are together of bulk at most 1048576: NARROWER than '..Said'. Prove '..Said' where nothing that the law and all that it calls make is longer than what came in: it says more and counts as full. Else prove '..UptoSaid'. A law counts once. -/
mutual
def uptoBulk {H : Type} : DataW H → Nat
  | .lit (.string bytes) => bytes.length + 1
  | .lit _ => 1
  | .nil => 1
  | .ptr d => uptoBulk d + 1
  | .slice elems spare => uptoBulkAll elems + uptoBulkAll spare + 1
  | .agg parts => uptoBulkAll parts + 1
  | .iface _ d => uptoBulk d + 1
  | .map entries => uptoBulkEntries entries + 1
  | .held _ => 1
def uptoBulkAll {H : Type} : List (DataW H) → Nat
  | [] => 0
  | d :: r => uptoBulk d + uptoBulkAll r
def uptoBulkEntries {H : Type} : List (Lit × DataW H) → Nat
  | [] => 0
  | x :: r => uptoBulkEntry x + uptoBulkEntries r
def uptoBulkEntry {H : Type} : Lit × DataW H → Nat
  | (.string bytes, d) => bytes.length + uptoBulk d + 1
  | (_, d) => uptoBulk d + 1
 end
def uptoSmall : (H : Type) → List (DataW H) → Bool := fun _ ds => decide (uptoBulkAll ds ≤ 1048576)
def OpenSpec.upto (s : _root_.Go.ChangeSpec) : _root_.Go.OpenSpec := { _root_.Go.OpenSpec.ofChange s with cond := some uptoSmall }

/-- 'laws.FnExactRunBoard', WHERE WHAT IT READS IS OF BULK AT MOST 1048576: true; the input reads as it did. -/
def fnExactRunBoardUptoRow : OpenClaim := { program := "ytmabcfepkcpcoaadoor", sum := "1501d85da6d82f94b15bce14024297c3508c2c28bdf4a0d38e232d07c34395c2", func := "loop.example/g01274/laws.FnExactRunBoard", spec := "fnExactRunBoard", inPlace := ["slices.overlaps[loop.example/g01274/impl.hit]"], unfollowed := true, recurses := true, named := ["loop.example/g01274/impl.stays"], plainKeys := false, apart := false, laid := [("loop.example/g01274/impl.stays", laid_loop_example_g01274_impl_stays)], narrowed := true }
def FnExactRunBoardUptoSaid : Prop := fnExactRunBoardUptoRow.holds Tryd.pinned (OpenSpec.upto fnExactRunBoardSpec)

/-- 'laws.FnExactFallenUntil', WHERE WHAT IT READS IS OF BULK AT MOST 1048576: true; the input reads as it did. -/
def fnExactFallenUntilUptoRow : OpenClaim := { program := "ytmabcfepkcpcoaadoor", sum := "1501d85da6d82f94b15bce14024297c3508c2c28bdf4a0d38e232d07c34395c2", func := "loop.example/g01274/laws.FnExactFallenUntil", spec := "fnExactFallenUntil", inPlace := ["slices.overlaps[loop.example/g01274/impl.hit]"], unfollowed := true, recurses := true, named := ["loop.example/g01274/impl.stays"], plainKeys := false, apart := false, laid := [("loop.example/g01274/impl.stays", laid_loop_example_g01274_impl_stays)], narrowed := true }
def FnExactFallenUntilUptoSaid : Prop := fnExactFallenUntilUptoRow.holds Tryd.pinned (OpenSpec.upto fnExactFallenUntilSpec)

/-- 'laws.FnExactStandingAfter', WHERE WHAT IT READS IS OF BULK AT MOST 1048576: true; the input reads as it did. -/
def fnExactStandingAfterUptoRow : OpenClaim := { program := "ytmabcfepkcpcoaadoor", sum := "1501d85da6d82f94b15bce14024297c3508c2c28bdf4a0d38e232d07c34395c2", func := "loop.example/g01274/laws.FnExactStandingAfter", spec := "fnExactStandingAfter", inPlace := ["slices.overlaps[loop.example/g01274/impl.hit]"], unfollowed := true, recurses := true, named := ["loop.example/g01274/impl.stays"], plainKeys := false, apart := false, laid := [("loop.example/g01274/impl.stays", laid_loop_example_g01274_impl_stays)], narrowed := true }
def FnExactStandingAfterUptoSaid : Prop := fnExactStandingAfterUptoRow.holds Tryd.pinned (OpenSpec.upto fnExactStandingAfterSpec)

/-- 'laws.FnExactFallOrder', WHERE WHAT IT READS IS OF BULK AT MOST 1048576: true; the input reads as it did. -/
def fnExactFallOrderUptoRow : OpenClaim := { program := "ytmabcfepkcpcoaadoor", sum := "1501d85da6d82f94b15bce14024297c3508c2c28bdf4a0d38e232d07c34395c2", func := "loop.example/g01274/laws.FnExactFallOrder", spec := "fnExactFallOrder", inPlace := ["slices.overlaps[loop.example/g01274/impl.hit]"], unfollowed := true, recurses := true, named := ["loop.example/g01274/impl.stays"], plainKeys := false, apart := false, laid := [("loop.example/g01274/impl.stays", laid_loop_example_g01274_impl_stays)], narrowed := true }
def FnExactFallOrderUptoSaid : Prop := fnExactFallOrderUptoRow.holds Tryd.pinned (OpenSpec.upto fnExactFallOrderSpec)

/-- 'laws.FnExactLastTick', WHERE WHAT IT READS IS OF BULK AT MOST 1048576: true; the input reads as it did. -/
def fnExactLastTickUptoRow : OpenClaim := { program := "ytmabcfepkcpcoaadoor", sum := "1501d85da6d82f94b15bce14024297c3508c2c28bdf4a0d38e232d07c34395c2", func := "loop.example/g01274/laws.FnExactLastTick", spec := "fnExactLastTick", inPlace := ["slices.overlaps[loop.example/g01274/impl.hit]"], unfollowed := true, recurses := true, named := ["loop.example/g01274/impl.stays"], plainKeys := false, apart := false, laid := [("loop.example/g01274/impl.stays", laid_loop_example_g01274_impl_stays)], narrowed := true }
def FnExactLastTickUptoSaid : Prop := fnExactLastTickUptoRow.holds Tryd.pinned (OpenSpec.upto fnExactLastTickSpec)

/-- 'laws.FnExactCausesOf', WHERE WHAT IT READS IS OF BULK AT MOST 1048576: true; the input reads as it did. -/
def fnExactCausesOfUptoRow : OpenClaim := { program := "ytmabcfepkcpcoaadoor", sum := "1501d85da6d82f94b15bce14024297c3508c2c28bdf4a0d38e232d07c34395c2", func := "loop.example/g01274/laws.FnExactCausesOf", spec := "fnExactCausesOf", inPlace := ["slices.overlaps[loop.example/g01274/impl.hit]"], unfollowed := true, recurses := true, named := ["loop.example/g01274/impl.stays"], plainKeys := false, apart := false, laid := [("loop.example/g01274/impl.stays", laid_loop_example_g01274_impl_stays)], narrowed := true }
def FnExactCausesOfUptoSaid : Prop := fnExactCausesOfUptoRow.holds Tryd.pinned (OpenSpec.upto fnExactCausesOfSpec)

/-- 'laws.FnExactCheckFalls', WHERE WHAT IT READS IS OF BULK AT MOST 1048576: true; the input reads as it did. -/
def fnExactCheckFallsUptoRow : OpenClaim := { program := "ytmabcfepkcpcoaadoor", sum := "1501d85da6d82f94b15bce14024297c3508c2c28bdf4a0d38e232d07c34395c2", func := "loop.example/g01274/laws.FnExactCheckFalls", spec := "fnExactCheckFalls", unfollowed := true, recurses := true, named := ["loop.example/g01274/impl.stays"], plainKeys := false, apart := false, laid := [("loop.example/g01274/impl.stays", laid_loop_example_g01274_impl_stays)], narrowed := true }
def FnExactCheckFallsUptoSaid : Prop := fnExactCheckFallsUptoRow.holds Tryd.pinned (OpenSpec.upto fnExactCheckFallsSpec)

/-- 'laws.FnExactFirstWrong', WHERE WHAT IT READS IS OF BULK AT MOST 1048576: true; the input reads as it did. -/
def fnExactFirstWrongUptoRow : OpenClaim := { program := "ytmabcfepkcpcoaadoor", sum := "1501d85da6d82f94b15bce14024297c3508c2c28bdf4a0d38e232d07c34395c2", func := "loop.example/g01274/laws.FnExactFirstWrong", spec := "fnExactFirstWrong", unfollowed := true, recurses := true, named := ["loop.example/g01274/impl.stays"], plainKeys := false, apart := false, laid := [("loop.example/g01274/impl.stays", laid_loop_example_g01274_impl_stays)], narrowed := true }
def FnExactFirstWrongUptoSaid : Prop := fnExactFirstWrongUptoRow.holds Tryd.pinned (OpenSpec.upto fnExactFirstWrongSpec)

/-- 'laws.FnExactPushOne', WHERE WHAT IT READS IS OF BULK AT MOST 1048576: true; the input reads as it did. -/
def fnExactPushOneUptoRow : OpenClaim := { program := "ytmabcfepkcpcoaadoor", sum := "1501d85da6d82f94b15bce14024297c3508c2c28bdf4a0d38e232d07c34395c2", func := "loop.example/g01274/laws.FnExactPushOne", spec := "fnExactPushOne", inPlace := ["slices.overlaps[loop.example/g01274/impl.hit]"], unfollowed := true, recurses := true, named := ["loop.example/g01274/impl.stays"], plainKeys := false, apart := false, laid := [("loop.example/g01274/impl.stays", laid_loop_example_g01274_impl_stays)], narrowed := true }
def FnExactPushOneUptoSaid : Prop := fnExactPushOneUptoRow.holds Tryd.pinned (OpenSpec.upto fnExactPushOneSpec)

/-- 'laws.FnExactCountFrom', WHERE WHAT IT READS IS OF BULK AT MOST 1048576: true; the input reads as it did. -/
def fnExactCountFromUptoRow : OpenClaim := { program := "ytmabcfepkcpcoaadoor", sum := "1501d85da6d82f94b15bce14024297c3508c2c28bdf4a0d38e232d07c34395c2", func := "loop.example/g01274/laws.FnExactCountFrom", spec := "fnExactCountFrom", inPlace := ["slices.overlaps[loop.example/g01274/impl.hit]"], unfollowed := true, recurses := true, named := ["loop.example/g01274/impl.stays"], plainKeys := false, apart := false, laid := [("loop.example/g01274/impl.stays", laid_loop_example_g01274_impl_stays)], narrowed := true }
def FnExactCountFromUptoSaid : Prop := fnExactCountFromUptoRow.holds Tryd.pinned (OpenSpec.upto fnExactCountFromSpec)

/-- 'laws.FnExactNeverHit', WHERE WHAT IT READS IS OF BULK AT MOST 1048576: true; the input reads as it did. -/
def fnExactNeverHitUptoRow : OpenClaim := { program := "ytmabcfepkcpcoaadoor", sum := "1501d85da6d82f94b15bce14024297c3508c2c28bdf4a0d38e232d07c34395c2", func := "loop.example/g01274/laws.FnExactNeverHit", spec := "fnExactNeverHit", unfollowed := true, recurses := true, named := ["loop.example/g01274/impl.stays"], plainKeys := false, apart := false, laid := [("loop.example/g01274/impl.stays", laid_loop_example_g01274_impl_stays)], narrowed := true }
def FnExactNeverHitUptoSaid : Prop := fnExactNeverHitUptoRow.holds Tryd.pinned (OpenSpec.upto fnExactNeverHitSpec)

end Rows
end Go.Proofs.YtmabcfepkcpcoaaDoor
