/- Contracts of what a piece does that is hit: its kind, its sides. -/
import Derived.Test.YtjdccompjibccaaC1d
import Derived.Handy
import Derived.Outline
import Derived.Laws.EntriesVeiled
namespace Go.Proofs.Ytjdccompjibccaa
open Go.ChangeShapes Go.WideShapes Go.ChangeAt Go.RowKit
set_option linter.unusedVariables false

set_option maxHeartbeats 2000000 in
theorem turned_any (e q : Int) (w : World) (he : 0 ≤ e ∧ e ≤ 3) (hq : 0 ≤ q ∧ q ≤ 3) :
    Calls Try.prog 18 #[.int .i8 e, .int .i8 q] w fun r w' => r = .returned (.int .i8 ((e + q) % 4)) ∧ Below w.heap.size w w' := by
  have h1 : e = 0 ∨ e = 1 ∨ e = 2 ∨ e = 3 := by omega
  have h2 : q = 0 ∨ q = 1 ∨ q = 2 ∨ q = 3 := by omega
  clear he hq
  rcases h1 with rfl | rfl | rfl | rfl <;> rcases h2 with rfl | rfl | rfl | rfl
  all_goals
    go_enter Try.func18, Try.ntmps18
    go_wp2
    go_ret
    exact ⟨rfl, by repeat (first | with_reducible exact Below.refl _ _ | (with_reducible refine kSet ?_ ?hB _; case hB => (simp; try omega)) | with_reducible refine kAlloc ?_ _ | with_reducible refine Below.drew ?_ | with_reducible refine kDrewN ?_ _ | with_reducible refine kTrans ?_ (by assumption))⟩
def kindV (k : Int) : Value :=
  if k = 0 then .iface 61 (.agg #[.bool false, .bool true, .bool false, .bool true])
  else if k = 1 then .iface 61 (.agg #[.bool false, .bool false, .bool true, .bool true])
  else if k = 2 then .iface 61 (.agg #[.bool true, .bool false, .bool true, .bool true])
  else if k = 3 then .iface 63 (.agg #[.int .i8 3, .int .i8 1])
  else if k = 4 then .iface 65 (.agg #[.bool false, .bool true, .bool false, .bool true])
  else .iface 67 (.agg #[])
set_option maxHeartbeats 2000000 in
theorem kindOf_any (k : Int) (w : World) (hk : 0 ≤ k ∧ k ≤ 5) :
    Calls Try.prog 17 #[.int .i8 k] w fun r w' => r = .returned (kindV k) ∧ Below w.heap.size w w' := by
  have h1 : k = 0 ∨ k = 1 ∨ k = 2 ∨ k = 3 ∨ k = 4 ∨ k = 5 := by omega
  clear hk
  rcases h1 with rfl | rfl | rfl | rfl | rfl | rfl
  all_goals
    go_enter Try.func17, Try.ntmps17
    go_wp2
    go_ret
    exact ⟨rfl, by repeat (first | with_reducible exact Below.refl _ _ | (with_reducible refine kSet ?_ ?hB _; case hB => (simp; try omega)) | with_reducible refine kAlloc ?_ _ | with_reducible refine Below.drew ?_ | with_reducible refine kDrewN ?_ _ | with_reducible refine kTrans ?_ (by assumption))⟩

/-- whether a piece of a kind that has not been turned falls, hit from a side; and which sides it hits then -/
def fallsP (k e : Int) : Bool :=
  if k = 0 then (e == 1 || e == 3) else if k = 1 then (e == 2 || e == 3) else if k = 2 then (e == 0 || e == 2 || e == 3) else if k = 3 then e == 3 else true
def hitsP (k e j : Int) : Bool :=
  if k = 0 then ((j == 1 || j == 3) && !(j == e)) else if k = 1 then ((j == 2 || j == 3) && !(j == e)) else if k = 2 then ((j == 0 || j == 2 || j == 3) && !(j == e)) else if k = 3 then j == 1
  else if k = 4 then ((e == 1 || e == 3) && ((j == 1 || j == 3) && !(j == e))) else j == (e + 2) % 4
theorem turned_to (e q r : Int) (w : World) (he : 0 ≤ e ∧ e ≤ 3) (hq : 0 ≤ q ∧ q ≤ 3) (hr : r = (e + q) % 4) :
    Calls Try.prog 18 #[.int .i8 e, .int .i8 q] w fun x w' => x = .returned (.int .i8 r) ∧ Below w.heap.size w w' := by
  subst hr; exact turned_any e q w he hq
end Go.Proofs.Ytjdccompjibccaa
