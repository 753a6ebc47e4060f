/- Several texts in one: C1d, RxA, RxB, RxC. -/
import Derived.Test.YtflkfkbdgekpkaaDoorG1
import Derived.Handy
import Derived.Outline
import Derived.Laws.EntriesVeiled
/- Contracts of chapter 1's functions: turned pieces. -/
namespace Go.Proofs.YtflkfkbdgekpkaaDoor
open Go.ChangeShapes Go.WideShapes Go.ChangeAt Go.RowKit
set_option linter.unusedVariables false

def Pc.turned (p : Pc) (q : Int) : Pc := { p with turn := (p.turn + q) % 4 }
def Pc.zero : Pc := ⟨0, 0, 0, 0, 0⟩
/-- what TurnPiece answers -/
def turnPc (p : Pc) (q : Int) : Pc × Int := if p.ok = false then (Pc.zero, 1) else if q < -100 ∨ 100 < q then (Pc.zero, 2) else (p.turned q, 0)

theorem turnPc_in8 (p : Pc) (q : Int) (hp : p.in8) : (turnPc p q).1.in8 := by
  obtain ⟨h1, h2, h3, h4, h5⟩ := hp
  unfold turnPc
  split
  · simp [Pc.in8, Pc.zero, i8]
  · split
    · simp [Pc.in8, Pc.zero, i8]
    · exact ⟨h1, h2, h3, (by show i8 ((p.turn + q) % 4); unfold i8; omega), h5⟩
end Go.Proofs.YtflkfkbdgekpkaaDoor

/- Contracts of what a piece does that is hit: its kind, its sides. -/
namespace Go.Proofs.YtflkfkbdgekpkaaDoor
open Go.ChangeShapes Go.WideShapes Go.ChangeAt Go.RowKit
set_option linter.unusedVariables false

set_option maxHeartbeats 2000000 in
theorem turned_any (e q : Int) (w : World) (he : 0 ≤ e ∧ e ≤ 3) (hq : 0 ≤ q ∧ q ≤ 3) :
    Calls Tryd.prog 70 #[.int .i8 e, .int .i8 q] w fun r w' => r = .returned (.int .i8 ((e + q) % 4)) ∧ Below w.heap.size w w' := by
  have h1 : e = 0 ∨ e = 1 ∨ e = 2 ∨ e = 3 := by omega
  have h2 : q = 0 ∨ q = 1 ∨ q = 2 ∨ q = 3 := by omega
  clear he hq
  rcases h1 with rfl | rfl | rfl | rfl <;> rcases h2 with rfl | rfl | rfl | rfl
  all_goals
    go_enter Tryd.func70, Tryd.ntmps70
    go_wp2
    go_ret
    exact ⟨rfl, by repeat (first | with_reducible exact Below.refl _ _ | (with_reducible refine kSet ?_ ?hB _; case hB => (simp; try omega)) | with_reducible refine kAlloc ?_ _ | with_reducible refine Below.drew ?_ | with_reducible refine kDrewN ?_ _ | with_reducible refine kTrans ?_ (by assumption))⟩
def kindV (k : Int) : Value :=
  if k = 0 then .iface 164 (.agg #[.bool false, .bool true, .bool false, .bool true])
  else if k = 1 then .iface 164 (.agg #[.bool false, .bool false, .bool true, .bool true])
  else if k = 2 then .iface 164 (.agg #[.bool true, .bool false, .bool true, .bool true])
  else if k = 3 then .iface 166 (.agg #[.int .i8 3, .int .i8 1])
  else if k = 4 then .iface 168 (.agg #[.bool false, .bool true, .bool false, .bool true])
  else .iface 170 (.agg #[])
set_option maxHeartbeats 2000000 in
theorem kindOf_any (k : Int) (w : World) (hk : 0 ≤ k ∧ k ≤ 5) :
    Calls Tryd.prog 69 #[.int .i8 k] w fun r w' => r = .returned (kindV k) ∧ Below w.heap.size w w' := by
  have h1 : k = 0 ∨ k = 1 ∨ k = 2 ∨ k = 3 ∨ k = 4 ∨ k = 5 := by omega
  clear hk
  rcases h1 with rfl | rfl | rfl | rfl | rfl | rfl
  all_goals
    go_enter Tryd.func69, Tryd.ntmps69
    go_wp2
    go_ret
    exact ⟨rfl, by repeat (first | with_reducible exact Below.refl _ _ | (with_reducible refine kSet ?_ ?hB _; case hB => (simp; try omega)) | with_reducible refine kAlloc ?_ _ | with_reducible refine Below.drew ?_ | with_reducible refine kDrewN ?_ _ | with_reducible refine kTrans ?_ (by assumption))⟩

/-- whether a piece of a kind that has not been turned falls, hit from a side; and which sides it hits then -/
def fallsP (k e : Int) : Bool :=
  if k = 0 then (e == 1 || e == 3) else if k = 1 then (e == 2 || e == 3) else if k = 2 then (e == 0 || e == 2 || e == 3) else if k = 3 then e == 3 else true
def hitsP (k e j : Int) : Bool :=
  if k = 0 then ((j == 1 || j == 3) && !(j == e)) else if k = 1 then ((j == 2 || j == 3) && !(j == e)) else if k = 2 then ((j == 0 || j == 2 || j == 3) && !(j == e)) else if k = 3 then j == 1
  else if k = 4 then ((e == 1 || e == 3) && ((j == 1 || j == 3) && !(j == e))) else j == (e + 2) % 4
theorem turned_to (e q r : Int) (w : World) (he : 0 ≤ e ∧ e ≤ 3) (hq : 0 ≤ q ∧ q ≤ 3) (hr : r = (e + q) % 4) :
    Calls Tryd.prog 70 #[.int .i8 e, .int .i8 q] w fun x w' => x = .returned (.int .i8 r) ∧ Below w.heap.size w w' := by
  subst hr; exact turned_any e q w he hq
end Go.Proofs.YtflkfkbdgekpkaaDoor

/- Contracts of what a piece does that is hit: the sides that it hits, not turned. -/
namespace Go.Proofs.YtflkfkbdgekpkaaDoor
open Go.ChangeShapes Go.WideShapes Go.ChangeAt Go.RowKit
set_option linter.unusedVariables false
theorem ta_joined_joined (v : Value) (w : World) : (Instr.typeAssert (.iface 164 v) 137 164 true).run Tryd.prog w = .ok (.tuple #[v, .bool true]) w := by kernel_rfl
theorem ta_joined_oneWay (v : Value) (w : World) : (Instr.typeAssert (.iface 164 v) 137 166 true).run Tryd.prog w = .ok (.tuple #[.agg #[.int .i8 0, .int .i8 0], .bool false]) w := by kernel_rfl
theorem ta_joined_gate (v : Value) (w : World) : (Instr.typeAssert (.iface 164 v) 137 168 true).run Tryd.prog w = .ok (.tuple #[.agg #[.bool false, .bool false, .bool false, .bool false], .bool false]) w := by kernel_rfl
theorem ta_joined_cross (v : Value) (w : World) : (Instr.typeAssert (.iface 164 v) 137 170 true).run Tryd.prog w = .ok (.tuple #[.agg #[], .bool false]) w := by kernel_rfl
theorem ta_oneWay_joined (v : Value) (w : World) : (Instr.typeAssert (.iface 166 v) 137 164 true).run Tryd.prog w = .ok (.tuple #[.agg #[.bool false, .bool false, .bool false, .bool false], .bool false]) w := by kernel_rfl
theorem ta_oneWay_oneWay (v : Value) (w : World) : (Instr.typeAssert (.iface 166 v) 137 166 true).run Tryd.prog w = .ok (.tuple #[v, .bool true]) w := by kernel_rfl
theorem ta_oneWay_gate (v : Value) (w : World) : (Instr.typeAssert (.iface 166 v) 137 168 true).run Tryd.prog w = .ok (.tuple #[.agg #[.bool false, .bool false, .bool false, .bool false], .bool false]) w := by kernel_rfl
theorem ta_oneWay_cross (v : Value) (w : World) : (Instr.typeAssert (.iface 166 v) 137 170 true).run Tryd.prog w = .ok (.tuple #[.agg #[], .bool false]) w := by kernel_rfl
theorem ta_gate_joined (v : Value) (w : World) : (Instr.typeAssert (.iface 168 v) 137 164 true).run Tryd.prog w = .ok (.tuple #[.agg #[.bool false, .bool false, .bool false, .bool false], .bool false]) w := by kernel_rfl
theorem ta_gate_oneWay (v : Value) (w : World) : (Instr.typeAssert (.iface 168 v) 137 166 true).run Tryd.prog w = .ok (.tuple #[.agg #[.int .i8 0, .int .i8 0], .bool false]) w := by kernel_rfl
theorem ta_gate_gate (v : Value) (w : World) : (Instr.typeAssert (.iface 168 v) 137 168 true).run Tryd.prog w = .ok (.tuple #[v, .bool true]) w := by kernel_rfl
theorem ta_gate_cross (v : Value) (w : World) : (Instr.typeAssert (.iface 168 v) 137 170 true).run Tryd.prog w = .ok (.tuple #[.agg #[], .bool false]) w := by kernel_rfl
theorem ta_cross_joined (v : Value) (w : World) : (Instr.typeAssert (.iface 170 v) 137 164 true).run Tryd.prog w = .ok (.tuple #[.agg #[.bool false, .bool false, .bool false, .bool false], .bool false]) w := by kernel_rfl
theorem ta_cross_oneWay (v : Value) (w : World) : (Instr.typeAssert (.iface 170 v) 137 166 true).run Tryd.prog w = .ok (.tuple #[.agg #[.int .i8 0, .int .i8 0], .bool false]) w := by kernel_rfl
theorem ta_cross_gate (v : Value) (w : World) : (Instr.typeAssert (.iface 170 v) 137 168 true).run Tryd.prog w = .ok (.tuple #[.agg #[.bool false, .bool false, .bool false, .bool false], .bool false]) w := by kernel_rfl
theorem ta_cross_cross (v : Value) (w : World) : (Instr.typeAssert (.iface 170 v) 137 170 true).run Tryd.prog w = .ok (.tuple #[v, .bool true]) w := by kernel_rfl
set_option maxHeartbeats 2000000 in
theorem hits_0_0 (w : World) :
    Calls Tryd.prog 72 #[.iface 164 (.agg #[.bool false, .bool true, .bool false, .bool true]), .int .i8 0] w fun r w' => r = .returned (.agg #[.bool false, .bool true, .bool false, .bool true]) ∧ Below w.heap.size w w' := by
  have t1 := ta_joined_joined
  have t2 := ta_joined_oneWay
  have t3 := ta_joined_gate
  have t4 := ta_joined_cross
  have t5 := ta_joined_joined
  go_enter Tryd.func72, Tryd.ntmps72
  go_wp2
  exact bodyPost_ret (v := .agg #[.bool false, .bool true, .bool false, .bool true]) (by simp [results, Tryd.results72, go_sem]) rfl ⟨rfl, by repeat (first | with_reducible exact Below.refl _ _ | (with_reducible refine kSet ?_ ?hB _; case hB => (simp; try omega)) | with_reducible refine kAlloc ?_ _ | with_reducible refine Below.drew ?_ | with_reducible refine kDrewN ?_ _ | with_reducible refine kTrans ?_ (by assumption))⟩
set_option maxHeartbeats 2000000 in
theorem hits_0_1 (w : World) :
    Calls Tryd.prog 72 #[.iface 164 (.agg #[.bool false, .bool true, .bool false, .bool true]), .int .i8 1] w fun r w' => r = .returned (.agg #[.bool false, .bool false, .bool false, .bool true]) ∧ Below w.heap.size w w' := by
  have t1 := ta_joined_joined
  have t2 := ta_joined_oneWay
  have t3 := ta_joined_gate
  have t4 := ta_joined_cross
  have t5 := ta_joined_joined
  go_enter Tryd.func72, Tryd.ntmps72
  go_wp2
  exact bodyPost_ret (v := .agg #[.bool false, .bool false, .bool false, .bool true]) (by simp [results, Tryd.results72, go_sem]) rfl ⟨rfl, by repeat (first | with_reducible exact Below.refl _ _ | (with_reducible refine kSet ?_ ?hB _; case hB => (simp; try omega)) | with_reducible refine kAlloc ?_ _ | with_reducible refine Below.drew ?_ | with_reducible refine kDrewN ?_ _ | with_reducible refine kTrans ?_ (by assumption))⟩
set_option maxHeartbeats 2000000 in
theorem hits_0_2 (w : World) :
    Calls Tryd.prog 72 #[.iface 164 (.agg #[.bool false, .bool true, .bool false, .bool true]), .int .i8 2] w fun r w' => r = .returned (.agg #[.bool false, .bool true, .bool false, .bool true]) ∧ Below w.heap.size w w' := by
  have t1 := ta_joined_joined
  have t2 := ta_joined_oneWay
  have t3 := ta_joined_gate
  have t4 := ta_joined_cross
  have t5 := ta_joined_joined
  go_enter Tryd.func72, Tryd.ntmps72
  go_wp2
  exact bodyPost_ret (v := .agg #[.bool false, .bool true, .bool false, .bool true]) (by simp [results, Tryd.results72, go_sem]) rfl ⟨rfl, by repeat (first | with_reducible exact Below.refl _ _ | (with_reducible refine kSet ?_ ?hB _; case hB => (simp; try omega)) | with_reducible refine kAlloc ?_ _ | with_reducible refine Below.drew ?_ | with_reducible refine kDrewN ?_ _ | with_reducible refine kTrans ?_ (by assumption))⟩
set_option maxHeartbeats 2000000 in
theorem hits_0_3 (w : World) :
    Calls Tryd.prog 72 #[.iface 164 (.agg #[.bool false, .bool true, .bool false, .bool true]), .int .i8 3] w fun r w' => r = .returned (.agg #[.bool false, .bool true, .bool false, .bool false]) ∧ Below w.heap.size w w' := by
  have t1 := ta_joined_joined
  have t2 := ta_joined_oneWay
  have t3 := ta_joined_gate
  have t4 := ta_joined_cross
  have t5 := ta_joined_joined
  go_enter Tryd.func72, Tryd.ntmps72
  go_wp2
  exact bodyPost_ret (v := .agg #[.bool false, .bool true, .bool false, .bool false]) (by simp [results, Tryd.results72, go_sem]) rfl ⟨rfl, by repeat (first | with_reducible exact Below.refl _ _ | (with_reducible refine kSet ?_ ?hB _; case hB => (simp; try omega)) | with_reducible refine kAlloc ?_ _ | with_reducible refine Below.drew ?_ | with_reducible refine kDrewN ?_ _ | with_reducible refine kTrans ?_ (by assumption))⟩
set_option maxHeartbeats 2000000 in
theorem hits_1_0 (w : World) :
    Calls Tryd.prog 72 #[.iface 164 (.agg #[.bool false, .bool false, .bool true, .bool true]), .int .i8 0] w fun r w' => r = .returned (.agg #[.bool false, .bool false, .bool true, .bool true]) ∧ Below w.heap.size w w' := by
  have t1 := ta_joined_joined
  have t2 := ta_joined_oneWay
  have t3 := ta_joined_gate
  have t4 := ta_joined_cross
  have t5 := ta_joined_joined
  go_enter Tryd.func72, Tryd.ntmps72
  go_wp2
  exact bodyPost_ret (v := .agg #[.bool false, .bool false, .bool true, .bool true]) (by simp [results, Tryd.results72, go_sem]) rfl ⟨rfl, by repeat (first | with_reducible exact Below.refl _ _ | (with_reducible refine kSet ?_ ?hB _; case hB => (simp; try omega)) | with_reducible refine kAlloc ?_ _ | with_reducible refine Below.drew ?_ | with_reducible refine kDrewN ?_ _ | with_reducible refine kTrans ?_ (by assumption))⟩
set_option maxHeartbeats 2000000 in
theorem hits_1_1 (w : World) :
    Calls Tryd.prog 72 #[.iface 164 (.agg #[.bool false, .bool false, .bool true, .bool true]), .int .i8 1] w fun r w' => r = .returned (.agg #[.bool false, .bool false, .bool true, .bool true]) ∧ Below w.heap.size w w' := by
  have t1 := ta_joined_joined
  have t2 := ta_joined_oneWay
  have t3 := ta_joined_gate
  have t4 := ta_joined_cross
  have t5 := ta_joined_joined
  go_enter Tryd.func72, Tryd.ntmps72
  go_wp2
  exact bodyPost_ret (v := .agg #[.bool false, .bool false, .bool true, .bool true]) (by simp [results, Tryd.results72, go_sem]) rfl ⟨rfl, by repeat (first | with_reducible exact Below.refl _ _ | (with_reducible refine kSet ?_ ?hB _; case hB => (simp; try omega)) | with_reducible refine kAlloc ?_ _ | with_reducible refine Below.drew ?_ | with_reducible refine kDrewN ?_ _ | with_reducible refine kTrans ?_ (by assumption))⟩
set_option maxHeartbeats 2000000 in
theorem hits_1_2 (w : World) :
    Calls Tryd.prog 72 #[.iface 164 (.agg #[.bool false, .bool false, .bool true, .bool true]), .int .i8 2] w fun r w' => r = .returned (.agg #[.bool false, .bool false, .bool false, .bool true]) ∧ Below w.heap.size w w' := by
  have t1 := ta_joined_joined
  have t2 := ta_joined_oneWay
  have t3 := ta_joined_gate
  have t4 := ta_joined_cross
  have t5 := ta_joined_joined
  go_enter Tryd.func72, Tryd.ntmps72
  go_wp2
  exact bodyPost_ret (v := .agg #[.bool false, .bool false, .bool false, .bool true]) (by simp [results, Tryd.results72, go_sem]) rfl ⟨rfl, by repeat (first | with_reducible exact Below.refl _ _ | (with_reducible refine kSet ?_ ?hB _; case hB => (simp; try omega)) | with_reducible refine kAlloc ?_ _ | with_reducible refine Below.drew ?_ | with_reducible refine kDrewN ?_ _ | with_reducible refine kTrans ?_ (by assumption))⟩
set_option maxHeartbeats 2000000 in
theorem hits_1_3 (w : World) :
    Calls Tryd.prog 72 #[.iface 164 (.agg #[.bool false, .bool false, .bool true, .bool true]), .int .i8 3] w fun r w' => r = .returned (.agg #[.bool false, .bool false, .bool true, .bool false]) ∧ Below w.heap.size w w' := by
  have t1 := ta_joined_joined
  have t2 := ta_joined_oneWay
  have t3 := ta_joined_gate
  have t4 := ta_joined_cross
  have t5 := ta_joined_joined
  go_enter Tryd.func72, Tryd.ntmps72
  go_wp2
  exact bodyPost_ret (v := .agg #[.bool false, .bool false, .bool true, .bool false]) (by simp [results, Tryd.results72, go_sem]) rfl ⟨rfl, by repeat (first | with_reducible exact Below.refl _ _ | (with_reducible refine kSet ?_ ?hB _; case hB => (simp; try omega)) | with_reducible refine kAlloc ?_ _ | with_reducible refine Below.drew ?_ | with_reducible refine kDrewN ?_ _ | with_reducible refine kTrans ?_ (by assumption))⟩
set_option maxHeartbeats 2000000 in
theorem hits_2_0 (w : World) :
    Calls Tryd.prog 72 #[.iface 164 (.agg #[.bool true, .bool false, .bool true, .bool true]), .int .i8 0] w fun r w' => r = .returned (.agg #[.bool false, .bool false, .bool true, .bool true]) ∧ Below w.heap.size w w' := by
  have t1 := ta_joined_joined
  have t2 := ta_joined_oneWay
  have t3 := ta_joined_gate
  have t4 := ta_joined_cross
  have t5 := ta_joined_joined
  go_enter Tryd.func72, Tryd.ntmps72
  go_wp2
  exact bodyPost_ret (v := .agg #[.bool false, .bool false, .bool true, .bool true]) (by simp [results, Tryd.results72, go_sem]) rfl ⟨rfl, by repeat (first | with_reducible exact Below.refl _ _ | (with_reducible refine kSet ?_ ?hB _; case hB => (simp; try omega)) | with_reducible refine kAlloc ?_ _ | with_reducible refine Below.drew ?_ | with_reducible refine kDrewN ?_ _ | with_reducible refine kTrans ?_ (by assumption))⟩
set_option maxHeartbeats 2000000 in
theorem hits_2_1 (w : World) :
    Calls Tryd.prog 72 #[.iface 164 (.agg #[.bool true, .bool false, .bool true, .bool true]), .int .i8 1] w fun r w' => r = .returned (.agg #[.bool true, .bool false, .bool true, .bool true]) ∧ Below w.heap.size w w' := by
  have t1 := ta_joined_joined
  have t2 := ta_joined_oneWay
  have t3 := ta_joined_gate
  have t4 := ta_joined_cross
  have t5 := ta_joined_joined
  go_enter Tryd.func72, Tryd.ntmps72
  go_wp2
  exact bodyPost_ret (v := .agg #[.bool true, .bool false, .bool true, .bool true]) (by simp [results, Tryd.results72, go_sem]) rfl ⟨rfl, by repeat (first | with_reducible exact Below.refl _ _ | (with_reducible refine kSet ?_ ?hB _; case hB => (simp; try omega)) | with_reducible refine kAlloc ?_ _ | with_reducible refine Below.drew ?_ | with_reducible refine kDrewN ?_ _ | with_reducible refine kTrans ?_ (by assumption))⟩
set_option maxHeartbeats 2000000 in
theorem hits_2_2 (w : World) :
    Calls Tryd.prog 72 #[.iface 164 (.agg #[.bool true, .bool false, .bool true, .bool true]), .int .i8 2] w fun r w' => r = .returned (.agg #[.bool true, .bool false, .bool false, .bool true]) ∧ Below w.heap.size w w' := by
  have t1 := ta_joined_joined
  have t2 := ta_joined_oneWay
  have t3 := ta_joined_gate
  have t4 := ta_joined_cross
  have t5 := ta_joined_joined
  go_enter Tryd.func72, Tryd.ntmps72
  go_wp2
  exact bodyPost_ret (v := .agg #[.bool true, .bool false, .bool false, .bool true]) (by simp [results, Tryd.results72, go_sem]) rfl ⟨rfl, by repeat (first | with_reducible exact Below.refl _ _ | (with_reducible refine kSet ?_ ?hB _; case hB => (simp; try omega)) | with_reducible refine kAlloc ?_ _ | with_reducible refine Below.drew ?_ | with_reducible refine kDrewN ?_ _ | with_reducible refine kTrans ?_ (by assumption))⟩
set_option maxHeartbeats 2000000 in
theorem hits_2_3 (w : World) :
    Calls Tryd.prog 72 #[.iface 164 (.agg #[.bool true, .bool false, .bool true, .bool true]), .int .i8 3] w fun r w' => r = .returned (.agg #[.bool true, .bool false, .bool true, .bool false]) ∧ Below w.heap.size w w' := by
  have t1 := ta_joined_joined
  have t2 := ta_joined_oneWay
  have t3 := ta_joined_gate
  have t4 := ta_joined_cross
  have t5 := ta_joined_joined
  go_enter Tryd.func72, Tryd.ntmps72
  go_wp2
  exact bodyPost_ret (v := .agg #[.bool true, .bool false, .bool true, .bool false]) (by simp [results, Tryd.results72, go_sem]) rfl ⟨rfl, by repeat (first | with_reducible exact Below.refl _ _ | (with_reducible refine kSet ?_ ?hB _; case hB => (simp; try omega)) | with_reducible refine kAlloc ?_ _ | with_reducible refine Below.drew ?_ | with_reducible refine kDrewN ?_ _ | with_reducible refine kTrans ?_ (by assumption))⟩
set_option maxHeartbeats 2000000 in
theorem hits_3_0 (w : World) :
    Calls Tryd.prog 72 #[.iface 166 (.agg #[.int .i8 3, .int .i8 1]), .int .i8 0] w fun r w' => r = .returned (.agg #[.bool false, .bool true, .bool false, .bool false]) ∧ Below w.heap.size w w' := by
  have t1 := ta_oneWay_joined
  have t2 := ta_oneWay_oneWay
  have t3 := ta_oneWay_gate
  have t4 := ta_oneWay_cross
  have t5 := ta_joined_joined
  go_enter Tryd.func72, Tryd.ntmps72
  go_wp2
  exact bodyPost_ret (v := .agg #[.bool false, .bool true, .bool false, .bool false]) (by simp [results, Tryd.results72, go_sem]) rfl ⟨rfl, by repeat (first | with_reducible exact Below.refl _ _ | (with_reducible refine kSet ?_ ?hB _; case hB => (simp; try omega)) | with_reducible refine kAlloc ?_ _ | with_reducible refine Below.drew ?_ | with_reducible refine kDrewN ?_ _ | with_reducible refine kTrans ?_ (by assumption))⟩
set_option maxHeartbeats 2000000 in
theorem hits_3_1 (w : World) :
    Calls Tryd.prog 72 #[.iface 166 (.agg #[.int .i8 3, .int .i8 1]), .int .i8 1] w fun r w' => r = .returned (.agg #[.bool false, .bool true, .bool false, .bool false]) ∧ Below w.heap.size w w' := by
  have t1 := ta_oneWay_joined
  have t2 := ta_oneWay_oneWay
  have t3 := ta_oneWay_gate
  have t4 := ta_oneWay_cross
  have t5 := ta_joined_joined
  go_enter Tryd.func72, Tryd.ntmps72
  go_wp2
  exact bodyPost_ret (v := .agg #[.bool false, .bool true, .bool false, .bool false]) (by simp [results, Tryd.results72, go_sem]) rfl ⟨rfl, by repeat (first | with_reducible exact Below.refl _ _ | (with_reducible refine kSet ?_ ?hB _; case hB => (simp; try omega)) | with_reducible refine kAlloc ?_ _ | with_reducible refine Below.drew ?_ | with_reducible refine kDrewN ?_ _ | with_reducible refine kTrans ?_ (by assumption))⟩
set_option maxHeartbeats 2000000 in
theorem hits_3_2 (w : World) :
    Calls Tryd.prog 72 #[.iface 166 (.agg #[.int .i8 3, .int .i8 1]), .int .i8 2] w fun r w' => r = .returned (.agg #[.bool false, .bool true, .bool false, .bool false]) ∧ Below w.heap.size w w' := by
  have t1 := ta_oneWay_joined
  have t2 := ta_oneWay_oneWay
  have t3 := ta_oneWay_gate
  have t4 := ta_oneWay_cross
  have t5 := ta_joined_joined
  go_enter Tryd.func72, Tryd.ntmps72
  go_wp2
  exact bodyPost_ret (v := .agg #[.bool false, .bool true, .bool false, .bool false]) (by simp [results, Tryd.results72, go_sem]) rfl ⟨rfl, by repeat (first | with_reducible exact Below.refl _ _ | (with_reducible refine kSet ?_ ?hB _; case hB => (simp; try omega)) | with_reducible refine kAlloc ?_ _ | with_reducible refine Below.drew ?_ | with_reducible refine kDrewN ?_ _ | with_reducible refine kTrans ?_ (by assumption))⟩
set_option maxHeartbeats 2000000 in
theorem hits_3_3 (w : World) :
    Calls Tryd.prog 72 #[.iface 166 (.agg #[.int .i8 3, .int .i8 1]), .int .i8 3] w fun r w' => r = .returned (.agg #[.bool false, .bool true, .bool false, .bool false]) ∧ Below w.heap.size w w' := by
  have t1 := ta_oneWay_joined
  have t2 := ta_oneWay_oneWay
  have t3 := ta_oneWay_gate
  have t4 := ta_oneWay_cross
  have t5 := ta_joined_joined
  go_enter Tryd.func72, Tryd.ntmps72
  go_wp2
  exact bodyPost_ret (v := .agg #[.bool false, .bool true, .bool false, .bool false]) (by simp [results, Tryd.results72, go_sem]) rfl ⟨rfl, by repeat (first | with_reducible exact Below.refl _ _ | (with_reducible refine kSet ?_ ?hB _; case hB => (simp; try omega)) | with_reducible refine kAlloc ?_ _ | with_reducible refine Below.drew ?_ | with_reducible refine kDrewN ?_ _ | with_reducible refine kTrans ?_ (by assumption))⟩
set_option maxHeartbeats 2000000 in
theorem hits_4_0 (w : World) :
    Calls Tryd.prog 72 #[.iface 168 (.agg #[.bool false, .bool true, .bool false, .bool true]), .int .i8 0] w fun r w' => r = .returned (.agg #[.bool false, .bool false, .bool false, .bool false]) ∧ Below w.heap.size w w' := by
  have t1 := ta_gate_joined
  have t2 := ta_gate_oneWay
  have t3 := ta_gate_gate
  have t4 := ta_gate_cross
  have t5 := ta_joined_joined
  go_enter Tryd.func72, Tryd.ntmps72
  go_wp2
  exact bodyPost_ret (v := .agg #[.bool false, .bool false, .bool false, .bool false]) (by simp [results, Tryd.results72, go_sem]) rfl ⟨rfl, by repeat (first | with_reducible exact Below.refl _ _ | (with_reducible refine kSet ?_ ?hB _; case hB => (simp; try omega)) | with_reducible refine kAlloc ?_ _ | with_reducible refine Below.drew ?_ | with_reducible refine kDrewN ?_ _ | with_reducible refine kTrans ?_ (by assumption))⟩
set_option maxHeartbeats 2000000 in
theorem hits_4_1 (w : World) :
    Calls Tryd.prog 72 #[.iface 168 (.agg #[.bool false, .bool true, .bool false, .bool true]), .int .i8 1] w fun r w' => r = .returned (.agg #[.bool false, .bool false, .bool false, .bool true]) ∧ Below w.heap.size w w' := by
  have t1 := ta_gate_joined
  have t2 := ta_gate_oneWay
  have t3 := ta_gate_gate
  have t4 := ta_gate_cross
  have t5 := ta_joined_joined
  go_enter Tryd.func72, Tryd.ntmps72
  go_wp2
  exact bodyPost_ret (v := .agg #[.bool false, .bool false, .bool false, .bool true]) (by simp [results, Tryd.results72, go_sem]) rfl ⟨rfl, by repeat (first | with_reducible exact Below.refl _ _ | (with_reducible refine kSet ?_ ?hB _; case hB => (simp; try omega)) | with_reducible refine kAlloc ?_ _ | with_reducible refine Below.drew ?_ | with_reducible refine kDrewN ?_ _ | with_reducible refine kTrans ?_ (by assumption))⟩
set_option maxHeartbeats 2000000 in
theorem hits_4_2 (w : World) :
    Calls Tryd.prog 72 #[.iface 168 (.agg #[.bool false, .bool true, .bool false, .bool true]), .int .i8 2] w fun r w' => r = .returned (.agg #[.bool false, .bool false, .bool false, .bool false]) ∧ Below w.heap.size w w' := by
  have t1 := ta_gate_joined
  have t2 := ta_gate_oneWay
  have t3 := ta_gate_gate
  have t4 := ta_gate_cross
  have t5 := ta_joined_joined
  go_enter Tryd.func72, Tryd.ntmps72
  go_wp2
  exact bodyPost_ret (v := .agg #[.bool false, .bool false, .bool false, .bool false]) (by simp [results, Tryd.results72, go_sem]) rfl ⟨rfl, by repeat (first | with_reducible exact Below.refl _ _ | (with_reducible refine kSet ?_ ?hB _; case hB => (simp; try omega)) | with_reducible refine kAlloc ?_ _ | with_reducible refine Below.drew ?_ | with_reducible refine kDrewN ?_ _ | with_reducible refine kTrans ?_ (by assumption))⟩
set_option maxHeartbeats 2000000 in
theorem hits_4_3 (w : World) :
    Calls Tryd.prog 72 #[.iface 168 (.agg #[.bool false, .bool true, .bool false, .bool true]), .int .i8 3] w fun r w' => r = .returned (.agg #[.bool false, .bool true, .bool false, .bool false]) ∧ Below w.heap.size w w' := by
  have t1 := ta_gate_joined
  have t2 := ta_gate_oneWay
  have t3 := ta_gate_gate
  have t4 := ta_gate_cross
  have t5 := ta_joined_joined
  go_enter Tryd.func72, Tryd.ntmps72
  go_wp2
  exact bodyPost_ret (v := .agg #[.bool false, .bool true, .bool false, .bool false]) (by simp [results, Tryd.results72, go_sem]) rfl ⟨rfl, by repeat (first | with_reducible exact Below.refl _ _ | (with_reducible refine kSet ?_ ?hB _; case hB => (simp; try omega)) | with_reducible refine kAlloc ?_ _ | with_reducible refine Below.drew ?_ | with_reducible refine kDrewN ?_ _ | with_reducible refine kTrans ?_ (by assumption))⟩
set_option maxHeartbeats 2000000 in
theorem hits_5_0 (w : World) :
    Calls Tryd.prog 72 #[.iface 170 (.agg #[]), .int .i8 0] w fun r w' => r = .returned (.agg #[.bool false, .bool false, .bool true, .bool false]) ∧ Below w.heap.size w w' := by
  have t1 := ta_cross_joined
  have t2 := ta_cross_oneWay
  have t3 := ta_cross_gate
  have t4 := ta_cross_cross
  have t5 := ta_joined_joined
  go_enter Tryd.func72, Tryd.ntmps72
  go_wp2
  exact bodyPost_ret (v := .agg #[.bool false, .bool false, .bool true, .bool false]) (by simp [results, Tryd.results72, go_sem]) rfl ⟨rfl, by repeat (first | with_reducible exact Below.refl _ _ | (with_reducible refine kSet ?_ ?hB _; case hB => (simp; try omega)) | with_reducible refine kAlloc ?_ _ | with_reducible refine Below.drew ?_ | with_reducible refine kDrewN ?_ _ | with_reducible refine kTrans ?_ (by assumption))⟩
set_option maxHeartbeats 2000000 in
theorem hits_5_1 (w : World) :
    Calls Tryd.prog 72 #[.iface 170 (.agg #[]), .int .i8 1] w fun r w' => r = .returned (.agg #[.bool false, .bool false, .bool false, .bool true]) ∧ Below w.heap.size w w' := by
  have t1 := ta_cross_joined
  have t2 := ta_cross_oneWay
  have t3 := ta_cross_gate
  have t4 := ta_cross_cross
  have t5 := ta_joined_joined
  go_enter Tryd.func72, Tryd.ntmps72
  go_wp2
  exact bodyPost_ret (v := .agg #[.bool false, .bool false, .bool false, .bool true]) (by simp [results, Tryd.results72, go_sem]) rfl ⟨rfl, by repeat (first | with_reducible exact Below.refl _ _ | (with_reducible refine kSet ?_ ?hB _; case hB => (simp; try omega)) | with_reducible refine kAlloc ?_ _ | with_reducible refine Below.drew ?_ | with_reducible refine kDrewN ?_ _ | with_reducible refine kTrans ?_ (by assumption))⟩
set_option maxHeartbeats 2000000 in
theorem hits_5_2 (w : World) :
    Calls Tryd.prog 72 #[.iface 170 (.agg #[]), .int .i8 2] w fun r w' => r = .returned (.agg #[.bool true, .bool false, .bool false, .bool false]) ∧ Below w.heap.size w w' := by
  have t1 := ta_cross_joined
  have t2 := ta_cross_oneWay
  have t3 := ta_cross_gate
  have t4 := ta_cross_cross
  have t5 := ta_joined_joined
  go_enter Tryd.func72, Tryd.ntmps72
  go_wp2
  exact bodyPost_ret (v := .agg #[.bool true, .bool false, .bool false, .bool false]) (by simp [results, Tryd.results72, go_sem]) rfl ⟨rfl, by repeat (first | with_reducible exact Below.refl _ _ | (with_reducible refine kSet ?_ ?hB _; case hB => (simp; try omega)) | with_reducible refine kAlloc ?_ _ | with_reducible refine Below.drew ?_ | with_reducible refine kDrewN ?_ _ | with_reducible refine kTrans ?_ (by assumption))⟩
set_option maxHeartbeats 2000000 in
theorem hits_5_3 (w : World) :
    Calls Tryd.prog 72 #[.iface 170 (.agg #[]), .int .i8 3] w fun r w' => r = .returned (.agg #[.bool false, .bool true, .bool false, .bool false]) ∧ Below w.heap.size w w' := by
  have t1 := ta_cross_joined
  have t2 := ta_cross_oneWay
  have t3 := ta_cross_gate
  have t4 := ta_cross_cross
  have t5 := ta_joined_joined
  go_enter Tryd.func72, Tryd.ntmps72
  go_wp2
  exact bodyPost_ret (v := .agg #[.bool false, .bool true, .bool false, .bool false]) (by simp [results, Tryd.results72, go_sem]) rfl ⟨rfl, by repeat (first | with_reducible exact Below.refl _ _ | (with_reducible refine kSet ?_ ?hB _; case hB => (simp; try omega)) | with_reducible refine kAlloc ?_ _ | with_reducible refine Below.drew ?_ | with_reducible refine kDrewN ?_ _ | with_reducible refine kTrans ?_ (by assumption))⟩

theorem hitsOf_any (k e : Int) (w : World) (hk : 0 ≤ k ∧ k ≤ 5) (he : 0 ≤ e ∧ e ≤ 3) :
    Calls Tryd.prog 72 #[kindV k, .int .i8 e] w fun r w' => r = .returned (.agg #[.bool (hitsP k e 0), .bool (hitsP k e 1), .bool (hitsP k e 2), .bool (hitsP k e 3)]) ∧ Below w.heap.size w w' := by
  have h1 : k = 0 ∨ k = 1 ∨ k = 2 ∨ k = 3 ∨ k = 4 ∨ k = 5 := by omega
  have h2 : e = 0 ∨ e = 1 ∨ e = 2 ∨ e = 3 := by omega
  clear hk he
  rcases h1 with rfl | rfl | rfl | rfl | rfl | rfl <;> rcases h2 with rfl | rfl | rfl | rfl
  · exact hits_0_0 w
  · exact hits_0_1 w
  · exact hits_0_2 w
  · exact hits_0_3 w
  · exact hits_1_0 w
  · exact hits_1_1 w
  · exact hits_1_2 w
  · exact hits_1_3 w
  · exact hits_2_0 w
  · exact hits_2_1 w
  · exact hits_2_2 w
  · exact hits_2_3 w
  · exact hits_3_0 w
  · exact hits_3_1 w
  · exact hits_3_2 w
  · exact hits_3_3 w
  · exact hits_4_0 w
  · exact hits_4_1 w
  · exact hits_4_2 w
  · exact hits_4_3 w
  · exact hits_5_0 w
  · exact hits_5_1 w
  · exact hits_5_2 w
  · exact hits_5_3 w
end Go.Proofs.YtflkfkbdgekpkaaDoor

/- Contracts of what a piece does that is hit: whether it falls, and what it hits. -/
namespace Go.Proofs.YtflkfkbdgekpkaaDoor
open Go.ChangeShapes Go.WideShapes Go.ChangeAt Go.RowKit
set_option linter.unusedVariables false

/-- five cells of a block, that may be written -/
def RAt (w : World) (B : Nat) (f : Nat → Value) : Prop := B < w.heap.size ∧ ∀ j, j < 5 → w.cell? ⟨B, j, none⟩ = some (f j) ∧ w.frozen? ⟨B, j, none⟩ = false
theorem RAt.below {W w' : World} {B : Nat} {f : Nat → Value} (h : RAt W B f) (hb : Below W.heap.size W w') : RAt w' B f :=
  ⟨Nat.lt_of_lt_of_le h.1 hb.size, fun j hj => ⟨(hb.cell (p := ⟨B, j, none⟩) h.1).trans (h.2 j hj).1, (hb.frozen (p := ⟨B, j, none⟩) h.1).trans (h.2 j hj).2⟩⟩
theorem RAt.set {w : World} {B i : Nat} {f : Nat → Value} {v : Value} (h : RAt w B f) : RAt (w.setCell ⟨B, i, none⟩ v) B (fun j => if j = i then v else f j) := by
  refine ⟨by simpa [World.size_setCell] using h.1, fun j hj => ⟨?_, ?_⟩⟩
  · show _ = some (if j = i then v else f j)
    by_cases e : j = i
    · subst e; rw [if_pos rfl]; exact World.cell?_setCell_same _ _ _ (h.2 j hj).1
    · rw [if_neg e, World.cell?_setCell_other _ _ _ _ (by intro x; injection x with _ x _; exact e x.symm)]; exact (h.2 j hj).1
  · rw [World.frozen?_setCell]; exact (h.2 j hj).2
theorem RAt.other {w : World} {A B i : Nat} {f : Nat → Value} {v : Value} (h : RAt w A f) (hne : B ≠ A) : RAt (w.setCell ⟨B, i, none⟩ v) A f :=
  ⟨by simpa [World.size_setCell] using h.1, fun j hj => ⟨by rw [World.cell?_setCell_other _ _ _ _ (by intro x; injection x with x _ _; exact hne x)]; exact (h.2 j hj).1, by rw [World.frozen?_setCell]; exact (h.2 j hj).2⟩⟩
theorem RAt.new (w : World) (v0 v1 v2 v3 v4 : Value) (t : TypeId) : RAt (w.alloc (.cells #[v0, v1, v2, v3, v4] t)) w.heap.size (fun j => match j with | 0 => v0 | 1 => v1 | 2 => v2 | 3 => v3 | _ => v4) := by
  refine ⟨by simp, fun j hj => ?_⟩
  have : j = 0 ∨ j = 1 ∨ j = 2 ∨ j = 3 ∨ j = 4 := by omega
  rcases this with rfl | rfl | rfl | rfl | rfl <;> simp
theorem PcAt.set {w : World} {b o B i : Nat} {p : Pc} {v : Value} (h : PcAt w b o p) (hne : B ≠ b) : PcAt (w.setCell ⟨B, i, none⟩ v) b o p := by
  obtain ⟨h0, h1, h2, h3, h4⟩ := h
  have ne : ∀ x : Nat, (⟨B, i, none⟩ : Addr) ≠ ⟨b, x, none⟩ := by intro x e; injection e with h1 _ _; exact hne h1
  exact ⟨by rw [World.cell?_setCell_other _ _ _ _ (ne _)]; exact h0, by rw [World.cell?_setCell_other _ _ _ _ (ne _)]; exact h1, by rw [World.cell?_setCell_other _ _ _ _ (ne _)]; exact h2, by rw [World.cell?_setCell_other _ _ _ _ (ne _)]; exact h3, by rw [World.cell?_setCell_other _ _ _ _ (ne _)]; exact h4⟩

theorem RAt.all {w : World} {B : Nat} {f : Nat → Value} (h : RAt w B f) : w.cell? ⟨B, 0, none⟩ = some (f 0) ∧ w.cell? ⟨B, 1, none⟩ = some (f 1) ∧ w.cell? ⟨B, 2, none⟩ = some (f 2) ∧ w.cell? ⟨B, 3, none⟩ = some (f 3) ∧ w.cell? ⟨B, 4, none⟩ = some (f 4) ∧
    w.frozen? ⟨B, 0, none⟩ = false ∧ w.frozen? ⟨B, 1, none⟩ = false ∧ w.frozen? ⟨B, 2, none⟩ = false ∧ w.frozen? ⟨B, 3, none⟩ = false ∧ w.frozen? ⟨B, 4, none⟩ = false :=
  ⟨(h.2 0 (by omega)).1, (h.2 1 (by omega)).1, (h.2 2 (by omega)).1, (h.2 3 (by omega)).1, (h.2 4 (by omega)).1, (h.2 0 (by omega)).2, (h.2 1 (by omega)).2, (h.2 2 (by omega)).2, (h.2 3 (by omega)).2, (h.2 4 (by omega)).2⟩
def noR : Nat → Value := fun _ => .bool false
def yesR : Nat → Value := fun j => if j = 0 then .bool true else .bool false
/-- the piece and the answer's box lie as they should -/
structure RX (w W : World) (p : Pc) : Prop where
  hp : PcAt W w.heap.size 0 p
  ha : RAt W (w.heap.size + 1) noR
  hk : Below w.heap.size w W
  lt : w.heap.size + 1 < W.heap.size
theorem RX.below {w W W' : World} {p : Pc} (h : RX w W p) (hb : Below W.heap.size W W') : RX w W' p :=
  ⟨h.hp.below hb (by have := h.lt; omega), h.ha.below hb, kTrans h.hk hb, Nat.lt_of_lt_of_le h.lt hb.size⟩
theorem rx_start {w w1 : World} {x y k t d : Int} {tp tr : TypeId} (hb1 : Below ((w.alloc (.cells #[.int .i8 x, .int .i8 y, .int .i8 k, .int .i8 t, .int .i8 d] tp)).alloc (.cells #[.bool false, .bool false, .bool false, .bool false, .bool false] tr)).heap.size ((w.alloc (.cells #[.int .i8 x, .int .i8 y, .int .i8 k, .int .i8 t, .int .i8 d] tp)).alloc (.cells #[.bool false, .bool false, .bool false, .bool false, .bool false] tr)) w1) : RX w w1 ⟨x, y, k, t, d⟩ := by
  have h1 := ((PcAt.box w ⟨x, y, k, t, d⟩ tp).below (w' := (w.alloc (.cells #[.int .i8 x, .int .i8 y, .int .i8 k, .int .i8 t, .int .i8 d] tp)).alloc (.cells #[.bool false, .bool false, .bool false, .bool false, .bool false] tr)) (kAlloc (Below.refl _ _) _) (by simp)).below hb1 (by simp; omega)
  have h2 := (RAt.new (w.alloc (.cells #[.int .i8 x, .int .i8 y, .int .i8 k, .int .i8 t, .int .i8 d] tp)) (.bool false) (.bool false) (.bool false) (.bool false) (.bool false) tr).below hb1
  rw [World.size_alloc] at h2
  have hz := hb1.size
  simp at hz
  refine ⟨h1, ⟨h2.1, fun j hj => ?_⟩, kTrans (kAlloc (kAlloc (Below.refl _ _) _) _) hb1, by omega⟩
  have h3 := h2.2 j hj
  refine ⟨h3.1.trans ?_, h3.2⟩
  have hc : j = 0 ∨ j = 1 ∨ j = 2 ∨ j = 3 ∨ j = 4 := by omega
  rcases hc with rfl | rfl | rfl | rfl | rfl <;> rfl
structure RS (w w3 W : World) (p : Pc) (f : Nat → Value) : Prop where
  x : RX w W p
  hr : RAt W w3.heap.size f
  gap : w.heap.size + 1 < w3.heap.size
theorem rs_start {w w3 w4 : World} {p : Pc} {tr : TypeId} (h : RX w w3 p) (hb : Below (w3.alloc (.cells #[.bool true, .bool false, .bool false, .bool false, .bool false] tr)).heap.size (w3.alloc (.cells #[.bool true, .bool false, .bool false, .bool false, .bool false] tr)) w4) : RS w w3 w4 p yesR := by
  have h2 := (RAt.new w3 (.bool true) (.bool false) (.bool false) (.bool false) (.bool false) tr).below hb
  refine ⟨(h.below (kAlloc (Below.refl _ _) _)).below hb, ⟨h2.1, fun j hj => ?_⟩, h.lt⟩
  have h3 := h2.2 j hj
  refine ⟨h3.1.trans ?_, h3.2⟩
  have hc : j = 0 ∨ j = 1 ∨ j = 2 ∨ j = 3 ∨ j = 4 := by omega
  rcases hc with rfl | rfl | rfl | rfl | rfl <;> rfl
theorem RS.below {w w3 W W' : World} {p : Pc} {f : Nat → Value} (h : RS w w3 W p f) (hb : Below W.heap.size W W') : RS w w3 W' p f := ⟨h.x.below hb, h.hr.below hb, h.gap⟩
theorem RS.next {w w3 W W' : World} {p : Pc} {f : Nat → Value} {i : Nat} {v : Value} (h : RS w w3 W p f) (hb : Below (W.setCell ⟨w3.heap.size, i, none⟩ v).heap.size (W.setCell ⟨w3.heap.size, i, none⟩ v) W') : RS w w3 W' p (fun j => if j = i then v else f j) := by
  have g := h.gap
  have hx : RX w (W.setCell ⟨w3.heap.size, i, none⟩ v) p := ⟨PcAt.set h.x.hp (by omega), h.x.ha.other (by omega), kSet h.x.hk (by simp only; omega) _, by simpa [World.size_setCell] using h.x.lt⟩
  exact ⟨hx.below hb, (h.hr.set).below hb, g⟩
set_option maxHeartbeats 1000000 in
theorem falls_0 (e : Int) (w : World) (he : 0 ≤ e ∧ e ≤ 3) (b : Bool) (hb : fallsP 0 e = b) :
    Calls Tryd.prog 95 #[.agg #[.bool false, .bool true, .bool false, .bool true], .int .i8 e] w fun r w' => r = .returned (.bool b) ∧ Below w.heap.size w w' := by
  subst hb
  have h2 : e = 0 ∨ e = 1 ∨ e = 2 ∨ e = 3 := by omega
  clear he
  rcases h2 with rfl | rfl | rfl | rfl
  all_goals
    go_enter Tryd.func95, Tryd.ntmps95
    go_wp2
    go_ret
    exact ⟨rfl, by repeat (first | with_reducible exact Below.refl _ _ | (with_reducible refine kSet ?_ ?hB _; case hB => (simp; try omega)) | with_reducible refine kAlloc ?_ _ | with_reducible refine Below.drew ?_ | with_reducible refine kDrewN ?_ _ | with_reducible refine kTrans ?_ (by assumption))⟩
set_option maxHeartbeats 1000000 in
theorem falls_1 (e : Int) (w : World) (he : 0 ≤ e ∧ e ≤ 3) (b : Bool) (hb : fallsP 1 e = b) :
    Calls Tryd.prog 95 #[.agg #[.bool false, .bool false, .bool true, .bool true], .int .i8 e] w fun r w' => r = .returned (.bool b) ∧ Below w.heap.size w w' := by
  subst hb
  have h2 : e = 0 ∨ e = 1 ∨ e = 2 ∨ e = 3 := by omega
  clear he
  rcases h2 with rfl | rfl | rfl | rfl
  all_goals
    go_enter Tryd.func95, Tryd.ntmps95
    go_wp2
    go_ret
    exact ⟨rfl, by repeat (first | with_reducible exact Below.refl _ _ | (with_reducible refine kSet ?_ ?hB _; case hB => (simp; try omega)) | with_reducible refine kAlloc ?_ _ | with_reducible refine Below.drew ?_ | with_reducible refine kDrewN ?_ _ | with_reducible refine kTrans ?_ (by assumption))⟩
set_option maxHeartbeats 1000000 in
theorem falls_2 (e : Int) (w : World) (he : 0 ≤ e ∧ e ≤ 3) (b : Bool) (hb : fallsP 2 e = b) :
    Calls Tryd.prog 95 #[.agg #[.bool true, .bool false, .bool true, .bool true], .int .i8 e] w fun r w' => r = .returned (.bool b) ∧ Below w.heap.size w w' := by
  subst hb
  have h2 : e = 0 ∨ e = 1 ∨ e = 2 ∨ e = 3 := by omega
  clear he
  rcases h2 with rfl | rfl | rfl | rfl
  all_goals
    go_enter Tryd.func95, Tryd.ntmps95
    go_wp2
    go_ret
    exact ⟨rfl, by repeat (first | with_reducible exact Below.refl _ _ | (with_reducible refine kSet ?_ ?hB _; case hB => (simp; try omega)) | with_reducible refine kAlloc ?_ _ | with_reducible refine Below.drew ?_ | with_reducible refine kDrewN ?_ _ | with_reducible refine kTrans ?_ (by assumption))⟩
set_option maxHeartbeats 1000000 in
theorem falls_3 (e : Int) (w : World) (he : 0 ≤ e ∧ e ≤ 3) (b : Bool) (hb : fallsP 3 e = b) :
    Calls Tryd.prog 129 #[.agg #[.int .i8 3, .int .i8 1], .int .i8 e] w fun r w' => r = .returned (.bool b) ∧ Below w.heap.size w w' := by
  subst hb
  have h2 : e = 0 ∨ e = 1 ∨ e = 2 ∨ e = 3 := by omega
  clear he
  rcases h2 with rfl | rfl | rfl | rfl
  all_goals
    go_enter Tryd.func129, Tryd.ntmps129
    go_wp2
    go_ret
    exact ⟨rfl, by repeat (first | with_reducible exact Below.refl _ _ | (with_reducible refine kSet ?_ ?hB _; case hB => (simp; try omega)) | with_reducible refine kAlloc ?_ _ | with_reducible refine Below.drew ?_ | with_reducible refine kDrewN ?_ _ | with_reducible refine kTrans ?_ (by assumption))⟩
set_option maxHeartbeats 1000000 in
theorem falls_4 (e : Int) (w : World) (he : 0 ≤ e ∧ e ≤ 3) (b : Bool) (hb : fallsP 4 e = b) :
    Calls Tryd.prog 130 #[.agg #[.bool false, .bool true, .bool false, .bool true], .int .i8 e] w fun r w' => r = .returned (.bool b) ∧ Below w.heap.size w w' := by
  subst hb
  have h2 : e = 0 ∨ e = 1 ∨ e = 2 ∨ e = 3 := by omega
  clear he
  rcases h2 with rfl | rfl | rfl | rfl
  all_goals
    go_enter Tryd.func130, Tryd.ntmps130
    go_wp2
    go_ret
    exact ⟨rfl, by repeat (first | with_reducible exact Below.refl _ _ | (with_reducible refine kSet ?_ ?hB _; case hB => (simp; try omega)) | with_reducible refine kAlloc ?_ _ | with_reducible refine Below.drew ?_ | with_reducible refine kDrewN ?_ _ | with_reducible refine kTrans ?_ (by assumption))⟩
set_option maxHeartbeats 1000000 in
theorem falls_5 (e : Int) (w : World) (he : 0 ≤ e ∧ e ≤ 3) (b : Bool) (hb : fallsP 5 e = b) :
    Calls Tryd.prog 131 #[.agg #[], .int .i8 e] w fun r w' => r = .returned (.bool b) ∧ Below w.heap.size w w' := by
  subst hb
  have h2 : e = 0 ∨ e = 1 ∨ e = 2 ∨ e = 3 := by omega
  clear he
  rcases h2 with rfl | rfl | rfl | rfl
  all_goals
    go_enter Tryd.func131, Tryd.ntmps131
    go_wp2
    go_ret
    exact ⟨rfl, by repeat (first | with_reducible exact Below.refl _ _ | (with_reducible refine kSet ?_ ?hB _; case hB => (simp; try omega)) | with_reducible refine kAlloc ?_ _ | with_reducible refine Below.drew ?_ | with_reducible refine kDrewN ?_ _ | with_reducible refine kTrans ?_ (by assumption))⟩
theorem hitsK_0 (e : Int) (w : World) (he : 0 ≤ e ∧ e ≤ 3) :
    Calls Tryd.prog 72 #[.iface 164 (.agg #[.bool false, .bool true, .bool false, .bool true]), .int .i8 e] w fun r w' => r = .returned (.agg #[.bool (hitsP 0 e 0), .bool (hitsP 0 e 1), .bool (hitsP 0 e 2), .bool (hitsP 0 e 3)]) ∧ Below w.heap.size w w' := hitsOf_any 0 e w (by omega) he
theorem hitsK_1 (e : Int) (w : World) (he : 0 ≤ e ∧ e ≤ 3) :
    Calls Tryd.prog 72 #[.iface 164 (.agg #[.bool false, .bool false, .bool true, .bool true]), .int .i8 e] w fun r w' => r = .returned (.agg #[.bool (hitsP 1 e 0), .bool (hitsP 1 e 1), .bool (hitsP 1 e 2), .bool (hitsP 1 e 3)]) ∧ Below w.heap.size w w' := hitsOf_any 1 e w (by omega) he
theorem hitsK_2 (e : Int) (w : World) (he : 0 ≤ e ∧ e ≤ 3) :
    Calls Tryd.prog 72 #[.iface 164 (.agg #[.bool true, .bool false, .bool true, .bool true]), .int .i8 e] w fun r w' => r = .returned (.agg #[.bool (hitsP 2 e 0), .bool (hitsP 2 e 1), .bool (hitsP 2 e 2), .bool (hitsP 2 e 3)]) ∧ Below w.heap.size w w' := hitsOf_any 2 e w (by omega) he
theorem hitsK_3 (e : Int) (w : World) (he : 0 ≤ e ∧ e ≤ 3) :
    Calls Tryd.prog 72 #[.iface 166 (.agg #[.int .i8 3, .int .i8 1]), .int .i8 e] w fun r w' => r = .returned (.agg #[.bool (hitsP 3 e 0), .bool (hitsP 3 e 1), .bool (hitsP 3 e 2), .bool (hitsP 3 e 3)]) ∧ Below w.heap.size w w' := hitsOf_any 3 e w (by omega) he
theorem hitsK_4 (e : Int) (w : World) (he : 0 ≤ e ∧ e ≤ 3) :
    Calls Tryd.prog 72 #[.iface 168 (.agg #[.bool false, .bool true, .bool false, .bool true]), .int .i8 e] w fun r w' => r = .returned (.agg #[.bool (hitsP 4 e 0), .bool (hitsP 4 e 1), .bool (hitsP 4 e 2), .bool (hitsP 4 e 3)]) ∧ Below w.heap.size w w' := hitsOf_any 4 e w (by omega) he
theorem hitsK_5 (e : Int) (w : World) (he : 0 ≤ e ∧ e ≤ 3) :
    Calls Tryd.prog 72 #[.iface 170 (.agg #[]), .int .i8 e] w fun r w' => r = .returned (.agg #[.bool (hitsP 5 e 0), .bool (hitsP 5 e 1), .bool (hitsP 5 e 2), .bool (hitsP 5 e 3)]) ∧ Below w.heap.size w w' := hitsOf_any 5 e w (by omega) he
theorem idx4_0 (x0 x1 x2 x3 : Value) (w : World) : (Instr.index 92 (.agg #[x0, x1, x2, x3]) (.int .i64 0)).run Tryd.prog w = .ok x0 w := by kernel_rfl
theorem idx4_1 (x0 x1 x2 x3 : Value) (w : World) : (Instr.index 92 (.agg #[x0, x1, x2, x3]) (.int .i64 1)).run Tryd.prog w = .ok x1 w := by kernel_rfl
theorem idx4_2 (x0 x1 x2 x3 : Value) (w : World) : (Instr.index 92 (.agg #[x0, x1, x2, x3]) (.int .i64 2)).run Tryd.prog w = .ok x2 w := by kernel_rfl
theorem idx4_3 (x0 x1 x2 x3 : Value) (w : World) : (Instr.index 92 (.agg #[x0, x1, x2, x3]) (.int .i64 3)).run Tryd.prog w = .ok x3 w := by kernel_rfl
end Go.Proofs.YtflkfkbdgekpkaaDoor
