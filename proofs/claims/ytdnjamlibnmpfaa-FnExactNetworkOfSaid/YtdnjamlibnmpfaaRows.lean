/-
  No cell of these rows narrows 'for every input' (looked for: loops, veiled, ifaces, maps, wideKeys, modest, calm, conditions, laid).
  DERIVED. THE GIVEN ROWS OF THIS SEAT. 3 by the template 'for every input the law returns true; each argument reads behind the call as it read before'; 0 by the template 'total and deterministic' (their statements: YtdnjamlibnmpfaaTotals.lean).
  GIVEN WITH THE SEED: the statements are not yours to turn. If you find one false, say at which input.
  Laid BY PROGRAM, IN A SANDBOX (cutbox-rows.mjs): the forced cells as the released guide's own fill.sh prints them over the translation d719fc82a114a572… (all of the seat's roots in one cut). By AI agents, Wed Nov 11 2026. No macro, syntax, notation, axiom, sorry.
-/
import Derived.Test.YtdnjamlibnmpfaaChecked
import GoSem.Claim
import GoSem.ClaimJoined
import GoSem.ClaimMapViews
import Derived.JoinedTies
import Derived.KernelRfl
namespace Go.Proofs.Ytdnjamlibnmpfaa
/- THE CELL 'sum', in the pinned program and in every row, IS THE sha256 OF THE DUMP (.gsa) THAT YtdnjamlibnmpfaaProg.lean LOADS. Nothing in Lean hashes anything: it is a label: what it is worth is what the hold of that sum in a sandbox is worth. -/
noncomputable def Try.pinned : Pinned := { name := "ytdnjamlibnmpfaa", sum := "d719fc82a114a57228586856e5e19790c467b4cd73c710cba3b318ef25dd5aa3", checked := Try.checked }
namespace Rows
def none {H : Type} : Left H := { results := [], args := [] }

/-- 'laws.FnExactBothNetworks': WHATEVER THE INPUT: true; the input reads as it did. -/
def fnExactBothNetworksSpec : ChangeSpec := { name := "fnExactBothNetworks", fn := fun _ => fun
  | [d1, d2] => { results := [.lit (.bool true)], args := [d1, d2] }
  | _ => none }
def fnExactBothNetworksRow : OpenClaim := { program := "ytdnjamlibnmpfaa", sum := "d719fc82a114a57228586856e5e19790c467b4cd73c710cba3b318ef25dd5aa3", func := "loop.example/g01274/laws.FnExactBothNetworks", spec := "fnExactBothNetworks", plainKeys := false, apart := false }
def FnExactBothNetworksSaid : Prop := fnExactBothNetworksRow.holds Try.pinned (OpenSpec.ofChange fnExactBothNetworksSpec)

/-- ITS FALSE NEIGHBOUR: 'it returns false'. Refute it at one input. -/
def fnExactBothNetworksWrong : ChangeSpec := { name := "fnExactBothNetworks", fn := fun _ => fun
  | [d1, d2] => { results := [.lit (.bool false)], args := [d1, d2] }
  | _ => none }
def FnExactBothNetworksWrongFalsely : Prop := fnExactBothNetworksRow.holds Try.pinned (OpenSpec.ofChange fnExactBothNetworksWrong)

/-- 'laws.FnExactAdderOf': WHATEVER THE INPUT: true; the input reads as it did. -/
def fnExactAdderOfSpec : ChangeSpec := { name := "fnExactAdderOf", fn := fun _ => fun
  | [d] => { results := [.lit (.bool true)], args := [d] }
  | _ => none }
def fnExactAdderOfRow : OpenClaim := { program := "ytdnjamlibnmpfaa", sum := "d719fc82a114a57228586856e5e19790c467b4cd73c710cba3b318ef25dd5aa3", func := "loop.example/g01274/laws.FnExactAdderOf", spec := "fnExactAdderOf", unfollowed := true, recurses := true, plainKeys := false, apart := false }
def FnExactAdderOfSaid : Prop := fnExactAdderOfRow.holds Try.pinned (OpenSpec.ofChange fnExactAdderOfSpec)

/-- ITS FALSE NEIGHBOUR: 'it returns false'. Refute it at one input. -/
def fnExactAdderOfWrong : ChangeSpec := { name := "fnExactAdderOf", fn := fun _ => fun
  | [d] => { results := [.lit (.bool false)], args := [d] }
  | _ => none }
def FnExactAdderOfWrongFalsely : Prop := fnExactAdderOfRow.holds Try.pinned (OpenSpec.ofChange fnExactAdderOfWrong)

/-- 'laws.FnExactNetworkOf': WHATEVER THE INPUT: true; the input reads as it did. -/
def fnExactNetworkOfSpec : ChangeSpec := { name := "fnExactNetworkOf", fn := fun _ => fun
  | [d1, d2] => { results := [.lit (.bool true)], args := [d1, d2] }
  | _ => none }
def fnExactNetworkOfRow : OpenClaim := { program := "ytdnjamlibnmpfaa", sum := "d719fc82a114a57228586856e5e19790c467b4cd73c710cba3b318ef25dd5aa3", func := "loop.example/g01274/laws.FnExactNetworkOf", spec := "fnExactNetworkOf", unfollowed := true, recurses := true, plainKeys := false, apart := false }
def FnExactNetworkOfSaid : Prop := fnExactNetworkOfRow.holds Try.pinned (OpenSpec.ofChange fnExactNetworkOfSpec)

/-- ITS FALSE NEIGHBOUR: 'it returns false'. Refute it at one input. -/
def fnExactNetworkOfWrong : ChangeSpec := { name := "fnExactNetworkOf", fn := fun _ => fun
  | [d1, d2] => { results := [.lit (.bool false)], args := [d1, d2] }
  | _ => none }
def FnExactNetworkOfWrongFalsely : Prop := fnExactNetworkOfRow.holds Try.pinned (OpenSpec.ofChange fnExactNetworkOfWrong)

/- THE SECOND FORM. 'bulk': how many values and letters a reading holds, each counted each time it is reached (what is shared counts as often as it is met; a slice's spare places count too). A statement '..UptoSaid' is the law's where the arguments, and the package variables that the reading takes, are together of bulk at most 1048576: NARROWER than '..Said'. Prove '..Said' where nothing that the law and all that it calls make is longer than what came in: it says more and counts as full. Else prove '..UptoSaid'. A law counts once. -/
mutual
def uptoBulk {H : Type} : DataW H → Nat
  | .lit (.string bytes) => bytes.length + 1
  | .lit _ => 1
  | .nil => 1
  | .ptr d => uptoBulk d + 1
  | .slice elems spare => uptoBulkAll elems + uptoBulkAll spare + 1
  | .agg parts => uptoBulkAll parts + 1
  | .iface _ d => uptoBulk d + 1
  | .map entries => uptoBulkEntries entries + 1
  | .held _ => 1
def uptoBulkAll {H : Type} : List (DataW H) → Nat
  | [] => 0
  | d :: r => uptoBulk d + uptoBulkAll r
def uptoBulkEntries {H : Type} : List (Lit × DataW H) → Nat
  | [] => 0
  | x :: r => uptoBulkEntry x + uptoBulkEntries r
def uptoBulkEntry {H : Type} : Lit × DataW H → Nat
  | (.string bytes, d) => bytes.length + uptoBulk d + 1
  | (_, d) => uptoBulk d + 1
 end
def uptoSmall : (H : Type) → List (DataW H) → Bool := fun _ ds => decide (uptoBulkAll ds ≤ 1048576)
def OpenSpec.upto (s : _root_.Go.ChangeSpec) : _root_.Go.OpenSpec := { _root_.Go.OpenSpec.ofChange s with cond := some uptoSmall }

/-- 'laws.FnExactBothNetworks', WHERE WHAT IT READS IS OF BULK AT MOST 1048576: true; the input reads as it did. -/
def fnExactBothNetworksUptoRow : OpenClaim := { program := "ytdnjamlibnmpfaa", sum := "d719fc82a114a57228586856e5e19790c467b4cd73c710cba3b318ef25dd5aa3", func := "loop.example/g01274/laws.FnExactBothNetworks", spec := "fnExactBothNetworks", plainKeys := false, apart := false, narrowed := true }
def FnExactBothNetworksUptoSaid : Prop := fnExactBothNetworksUptoRow.holds Try.pinned (OpenSpec.upto fnExactBothNetworksSpec)

/-- 'laws.FnExactAdderOf', WHERE WHAT IT READS IS OF BULK AT MOST 1048576: true; the input reads as it did. -/
def fnExactAdderOfUptoRow : OpenClaim := { program := "ytdnjamlibnmpfaa", sum := "d719fc82a114a57228586856e5e19790c467b4cd73c710cba3b318ef25dd5aa3", func := "loop.example/g01274/laws.FnExactAdderOf", spec := "fnExactAdderOf", unfollowed := true, recurses := true, plainKeys := false, apart := false, narrowed := true }
def FnExactAdderOfUptoSaid : Prop := fnExactAdderOfUptoRow.holds Try.pinned (OpenSpec.upto fnExactAdderOfSpec)

/-- 'laws.FnExactNetworkOf', WHERE WHAT IT READS IS OF BULK AT MOST 1048576: true; the input reads as it did. -/
def fnExactNetworkOfUptoRow : OpenClaim := { program := "ytdnjamlibnmpfaa", sum := "d719fc82a114a57228586856e5e19790c467b4cd73c710cba3b318ef25dd5aa3", func := "loop.example/g01274/laws.FnExactNetworkOf", spec := "fnExactNetworkOf", unfollowed := true, recurses := true, plainKeys := false, apart := false, narrowed := true }
def FnExactNetworkOfUptoSaid : Prop := fnExactNetworkOfUptoRow.holds Try.pinned (OpenSpec.upto fnExactNetworkOfSpec)

end Rows
end Go.Proofs.Ytdnjamlibnmpfaa
