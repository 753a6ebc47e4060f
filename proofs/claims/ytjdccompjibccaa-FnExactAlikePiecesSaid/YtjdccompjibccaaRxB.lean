/- Contracts of what a piece does that is hit: the sides that it hits, not turned. -/
import Derived.Test.YtjdccompjibccaaRxA
import Derived.Handy
import Derived.Laws.EntriesVeiled
namespace Go.Proofs.Ytjdccompjibccaa
open Go.ChangeShapes Go.WideShapes Go.ChangeAt Go.RowKit
set_option linter.unusedVariables false
theorem ta_joined_joined (v : Value) (w : World) : (Instr.typeAssert (.iface 61 v) 55 61 true).run Try.prog w = .ok (.tuple #[v, .bool true]) w := by kernel_rfl
theorem ta_joined_oneWay (v : Value) (w : World) : (Instr.typeAssert (.iface 61 v) 55 63 true).run Try.prog w = .ok (.tuple #[.agg #[.int .i8 0, .int .i8 0], .bool false]) w := by kernel_rfl
theorem ta_joined_gate (v : Value) (w : World) : (Instr.typeAssert (.iface 61 v) 55 65 true).run Try.prog w = .ok (.tuple #[.agg #[.bool false, .bool false, .bool false, .bool false], .bool false]) w := by kernel_rfl
theorem ta_joined_cross (v : Value) (w : World) : (Instr.typeAssert (.iface 61 v) 55 67 true).run Try.prog w = .ok (.tuple #[.agg #[], .bool false]) w := by kernel_rfl
theorem ta_oneWay_joined (v : Value) (w : World) : (Instr.typeAssert (.iface 63 v) 55 61 true).run Try.prog w = .ok (.tuple #[.agg #[.bool false, .bool false, .bool false, .bool false], .bool false]) w := by kernel_rfl
theorem ta_oneWay_oneWay (v : Value) (w : World) : (Instr.typeAssert (.iface 63 v) 55 63 true).run Try.prog w = .ok (.tuple #[v, .bool true]) w := by kernel_rfl
theorem ta_oneWay_gate (v : Value) (w : World) : (Instr.typeAssert (.iface 63 v) 55 65 true).run Try.prog w = .ok (.tuple #[.agg #[.bool false, .bool false, .bool false, .bool false], .bool false]) w := by kernel_rfl
theorem ta_oneWay_cross (v : Value) (w : World) : (Instr.typeAssert (.iface 63 v) 55 67 true).run Try.prog w = .ok (.tuple #[.agg #[], .bool false]) w := by kernel_rfl
theorem ta_gate_joined (v : Value) (w : World) : (Instr.typeAssert (.iface 65 v) 55 61 true).run Try.prog w = .ok (.tuple #[.agg #[.bool false, .bool false, .bool false, .bool false], .bool false]) w := by kernel_rfl
theorem ta_gate_oneWay (v : Value) (w : World) : (Instr.typeAssert (.iface 65 v) 55 63 true).run Try.prog w = .ok (.tuple #[.agg #[.int .i8 0, .int .i8 0], .bool false]) w := by kernel_rfl
theorem ta_gate_gate (v : Value) (w : World) : (Instr.typeAssert (.iface 65 v) 55 65 true).run Try.prog w = .ok (.tuple #[v, .bool true]) w := by kernel_rfl
theorem ta_gate_cross (v : Value) (w : World) : (Instr.typeAssert (.iface 65 v) 55 67 true).run Try.prog w = .ok (.tuple #[.agg #[], .bool false]) w := by kernel_rfl
theorem ta_cross_joined (v : Value) (w : World) : (Instr.typeAssert (.iface 67 v) 55 61 true).run Try.prog w = .ok (.tuple #[.agg #[.bool false, .bool false, .bool false, .bool false], .bool false]) w := by kernel_rfl
theorem ta_cross_oneWay (v : Value) (w : World) : (Instr.typeAssert (.iface 67 v) 55 63 true).run Try.prog w = .ok (.tuple #[.agg #[.int .i8 0, .int .i8 0], .bool false]) w := by kernel_rfl
theorem ta_cross_gate (v : Value) (w : World) : (Instr.typeAssert (.iface 67 v) 55 65 true).run Try.prog w = .ok (.tuple #[.agg #[.bool false, .bool false, .bool false, .bool false], .bool false]) w := by kernel_rfl
theorem ta_cross_cross (v : Value) (w : World) : (Instr.typeAssert (.iface 67 v) 55 67 true).run Try.prog w = .ok (.tuple #[v, .bool true]) w := by kernel_rfl
set_option maxHeartbeats 2000000 in
theorem hits_0_0 (w : World) :
    Calls Try.prog 20 #[.iface 61 (.agg #[.bool false, .bool true, .bool false, .bool true]), .int .i8 0] w fun r w' => r = .returned (.agg #[.bool false, .bool true, .bool false, .bool true]) ∧ Below w.heap.size w w' := by
  have t1 := ta_joined_joined
  have t2 := ta_joined_oneWay
  have t3 := ta_joined_gate
  have t4 := ta_joined_cross
  have t5 := ta_joined_joined
  go_enter Try.func20, Try.ntmps20
  go_wp2
  exact bodyPost_ret (v := .agg #[.bool false, .bool true, .bool false, .bool true]) (by simp [results, Try.results20, go_sem]) rfl ⟨rfl, by repeat (first | with_reducible exact Below.refl _ _ | (with_reducible refine kSet ?_ ?hB _; case hB => (simp; try omega)) | with_reducible refine kAlloc ?_ _ | with_reducible refine Below.drew ?_ | with_reducible refine kDrewN ?_ _ | with_reducible refine kTrans ?_ (by assumption))⟩
set_option maxHeartbeats 2000000 in
theorem hits_0_1 (w : World) :
    Calls Try.prog 20 #[.iface 61 (.agg #[.bool false, .bool true, .bool false, .bool true]), .int .i8 1] w fun r w' => r = .returned (.agg #[.bool false, .bool false, .bool false, .bool true]) ∧ Below w.heap.size w w' := by
  have t1 := ta_joined_joined
  have t2 := ta_joined_oneWay
  have t3 := ta_joined_gate
  have t4 := ta_joined_cross
  have t5 := ta_joined_joined
  go_enter Try.func20, Try.ntmps20
  go_wp2
  exact bodyPost_ret (v := .agg #[.bool false, .bool false, .bool false, .bool true]) (by simp [results, Try.results20, go_sem]) rfl ⟨rfl, by repeat (first | with_reducible exact Below.refl _ _ | (with_reducible refine kSet ?_ ?hB _; case hB => (simp; try omega)) | with_reducible refine kAlloc ?_ _ | with_reducible refine Below.drew ?_ | with_reducible refine kDrewN ?_ _ | with_reducible refine kTrans ?_ (by assumption))⟩
set_option maxHeartbeats 2000000 in
theorem hits_0_2 (w : World) :
    Calls Try.prog 20 #[.iface 61 (.agg #[.bool false, .bool true, .bool false, .bool true]), .int .i8 2] w fun r w' => r = .returned (.agg #[.bool false, .bool true, .bool false, .bool true]) ∧ Below w.heap.size w w' := by
  have t1 := ta_joined_joined
  have t2 := ta_joined_oneWay
  have t3 := ta_joined_gate
  have t4 := ta_joined_cross
  have t5 := ta_joined_joined
  go_enter Try.func20, Try.ntmps20
  go_wp2
  exact bodyPost_ret (v := .agg #[.bool false, .bool true, .bool false, .bool true]) (by simp [results, Try.results20, go_sem]) rfl ⟨rfl, by repeat (first | with_reducible exact Below.refl _ _ | (with_reducible refine kSet ?_ ?hB _; case hB => (simp; try omega)) | with_reducible refine kAlloc ?_ _ | with_reducible refine Below.drew ?_ | with_reducible refine kDrewN ?_ _ | with_reducible refine kTrans ?_ (by assumption))⟩
set_option maxHeartbeats 2000000 in
theorem hits_0_3 (w : World) :
    Calls Try.prog 20 #[.iface 61 (.agg #[.bool false, .bool true, .bool false, .bool true]), .int .i8 3] w fun r w' => r = .returned (.agg #[.bool false, .bool true, .bool false, .bool false]) ∧ Below w.heap.size w w' := by
  have t1 := ta_joined_joined
  have t2 := ta_joined_oneWay
  have t3 := ta_joined_gate
  have t4 := ta_joined_cross
  have t5 := ta_joined_joined
  go_enter Try.func20, Try.ntmps20
  go_wp2
  exact bodyPost_ret (v := .agg #[.bool false, .bool true, .bool false, .bool false]) (by simp [results, Try.results20, go_sem]) rfl ⟨rfl, by repeat (first | with_reducible exact Below.refl _ _ | (with_reducible refine kSet ?_ ?hB _; case hB => (simp; try omega)) | with_reducible refine kAlloc ?_ _ | with_reducible refine Below.drew ?_ | with_reducible refine kDrewN ?_ _ | with_reducible refine kTrans ?_ (by assumption))⟩
set_option maxHeartbeats 2000000 in
theorem hits_1_0 (w : World) :
    Calls Try.prog 20 #[.iface 61 (.agg #[.bool false, .bool false, .bool true, .bool true]), .int .i8 0] w fun r w' => r = .returned (.agg #[.bool false, .bool false, .bool true, .bool true]) ∧ Below w.heap.size w w' := by
  have t1 := ta_joined_joined
  have t2 := ta_joined_oneWay
  have t3 := ta_joined_gate
  have t4 := ta_joined_cross
  have t5 := ta_joined_joined
  go_enter Try.func20, Try.ntmps20
  go_wp2
  exact bodyPost_ret (v := .agg #[.bool false, .bool false, .bool true, .bool true]) (by simp [results, Try.results20, go_sem]) rfl ⟨rfl, by repeat (first | with_reducible exact Below.refl _ _ | (with_reducible refine kSet ?_ ?hB _; case hB => (simp; try omega)) | with_reducible refine kAlloc ?_ _ | with_reducible refine Below.drew ?_ | with_reducible refine kDrewN ?_ _ | with_reducible refine kTrans ?_ (by assumption))⟩
set_option maxHeartbeats 2000000 in
theorem hits_1_1 (w : World) :
    Calls Try.prog 20 #[.iface 61 (.agg #[.bool false, .bool false, .bool true, .bool true]), .int .i8 1] w fun r w' => r = .returned (.agg #[.bool false, .bool false, .bool true, .bool true]) ∧ Below w.heap.size w w' := by
  have t1 := ta_joined_joined
  have t2 := ta_joined_oneWay
  have t3 := ta_joined_gate
  have t4 := ta_joined_cross
  have t5 := ta_joined_joined
  go_enter Try.func20, Try.ntmps20
  go_wp2
  exact bodyPost_ret (v := .agg #[.bool false, .bool false, .bool true, .bool true]) (by simp [results, Try.results20, go_sem]) rfl ⟨rfl, by repeat (first | with_reducible exact Below.refl _ _ | (with_reducible refine kSet ?_ ?hB _; case hB => (simp; try omega)) | with_reducible refine kAlloc ?_ _ | with_reducible refine Below.drew ?_ | with_reducible refine kDrewN ?_ _ | with_reducible refine kTrans ?_ (by assumption))⟩
set_option maxHeartbeats 2000000 in
theorem hits_1_2 (w : World) :
    Calls Try.prog 20 #[.iface 61 (.agg #[.bool false, .bool false, .bool true, .bool true]), .int .i8 2] w fun r w' => r = .returned (.agg #[.bool false, .bool false, .bool false, .bool true]) ∧ Below w.heap.size w w' := by
  have t1 := ta_joined_joined
  have t2 := ta_joined_oneWay
  have t3 := ta_joined_gate
  have t4 := ta_joined_cross
  have t5 := ta_joined_joined
  go_enter Try.func20, Try.ntmps20
  go_wp2
  exact bodyPost_ret (v := .agg #[.bool false, .bool false, .bool false, .bool true]) (by simp [results, Try.results20, go_sem]) rfl ⟨rfl, by repeat (first | with_reducible exact Below.refl _ _ | (with_reducible refine kSet ?_ ?hB _; case hB => (simp; try omega)) | with_reducible refine kAlloc ?_ _ | with_reducible refine Below.drew ?_ | with_reducible refine kDrewN ?_ _ | with_reducible refine kTrans ?_ (by assumption))⟩
set_option maxHeartbeats 2000000 in
theorem hits_1_3 (w : World) :
    Calls Try.prog 20 #[.iface 61 (.agg #[.bool false, .bool false, .bool true, .bool true]), .int .i8 3] w fun r w' => r = .returned (.agg #[.bool false, .bool false, .bool true, .bool false]) ∧ Below w.heap.size w w' := by
  have t1 := ta_joined_joined
  have t2 := ta_joined_oneWay
  have t3 := ta_joined_gate
  have t4 := ta_joined_cross
  have t5 := ta_joined_joined
  go_enter Try.func20, Try.ntmps20
  go_wp2
  exact bodyPost_ret (v := .agg #[.bool false, .bool false, .bool true, .bool false]) (by simp [results, Try.results20, go_sem]) rfl ⟨rfl, by repeat (first | with_reducible exact Below.refl _ _ | (with_reducible refine kSet ?_ ?hB _; case hB => (simp; try omega)) | with_reducible refine kAlloc ?_ _ | with_reducible refine Below.drew ?_ | with_reducible refine kDrewN ?_ _ | with_reducible refine kTrans ?_ (by assumption))⟩
set_option maxHeartbeats 2000000 in
theorem hits_2_0 (w : World) :
    Calls Try.prog 20 #[.iface 61 (.agg #[.bool true, .bool false, .bool true, .bool true]), .int .i8 0] w fun r w' => r = .returned (.agg #[.bool false, .bool false, .bool true, .bool true]) ∧ Below w.heap.size w w' := by
  have t1 := ta_joined_joined
  have t2 := ta_joined_oneWay
  have t3 := ta_joined_gate
  have t4 := ta_joined_cross
  have t5 := ta_joined_joined
  go_enter Try.func20, Try.ntmps20
  go_wp2
  exact bodyPost_ret (v := .agg #[.bool false, .bool false, .bool true, .bool true]) (by simp [results, Try.results20, go_sem]) rfl ⟨rfl, by repeat (first | with_reducible exact Below.refl _ _ | (with_reducible refine kSet ?_ ?hB _; case hB => (simp; try omega)) | with_reducible refine kAlloc ?_ _ | with_reducible refine Below.drew ?_ | with_reducible refine kDrewN ?_ _ | with_reducible refine kTrans ?_ (by assumption))⟩
set_option maxHeartbeats 2000000 in
theorem hits_2_1 (w : World) :
    Calls Try.prog 20 #[.iface 61 (.agg #[.bool true, .bool false, .bool true, .bool true]), .int .i8 1] w fun r w' => r = .returned (.agg #[.bool true, .bool false, .bool true, .bool true]) ∧ Below w.heap.size w w' := by
  have t1 := ta_joined_joined
  have t2 := ta_joined_oneWay
  have t3 := ta_joined_gate
  have t4 := ta_joined_cross
  have t5 := ta_joined_joined
  go_enter Try.func20, Try.ntmps20
  go_wp2
  exact bodyPost_ret (v := .agg #[.bool true, .bool false, .bool true, .bool true]) (by simp [results, Try.results20, go_sem]) rfl ⟨rfl, by repeat (first | with_reducible exact Below.refl _ _ | (with_reducible refine kSet ?_ ?hB _; case hB => (simp; try omega)) | with_reducible refine kAlloc ?_ _ | with_reducible refine Below.drew ?_ | with_reducible refine kDrewN ?_ _ | with_reducible refine kTrans ?_ (by assumption))⟩
set_option maxHeartbeats 2000000 in
theorem hits_2_2 (w : World) :
    Calls Try.prog 20 #[.iface 61 (.agg #[.bool true, .bool false, .bool true, .bool true]), .int .i8 2] w fun r w' => r = .returned (.agg #[.bool true, .bool false, .bool false, .bool true]) ∧ Below w.heap.size w w' := by
  have t1 := ta_joined_joined
  have t2 := ta_joined_oneWay
  have t3 := ta_joined_gate
  have t4 := ta_joined_cross
  have t5 := ta_joined_joined
  go_enter Try.func20, Try.ntmps20
  go_wp2
  exact bodyPost_ret (v := .agg #[.bool true, .bool false, .bool false, .bool true]) (by simp [results, Try.results20, go_sem]) rfl ⟨rfl, by repeat (first | with_reducible exact Below.refl _ _ | (with_reducible refine kSet ?_ ?hB _; case hB => (simp; try omega)) | with_reducible refine kAlloc ?_ _ | with_reducible refine Below.drew ?_ | with_reducible refine kDrewN ?_ _ | with_reducible refine kTrans ?_ (by assumption))⟩
set_option maxHeartbeats 2000000 in
theorem hits_2_3 (w : World) :
    Calls Try.prog 20 #[.iface 61 (.agg #[.bool true, .bool false, .bool true, .bool true]), .int .i8 3] w fun r w' => r = .returned (.agg #[.bool true, .bool false, .bool true, .bool false]) ∧ Below w.heap.size w w' := by
  have t1 := ta_joined_joined
  have t2 := ta_joined_oneWay
  have t3 := ta_joined_gate
  have t4 := ta_joined_cross
  have t5 := ta_joined_joined
  go_enter Try.func20, Try.ntmps20
  go_wp2
  exact bodyPost_ret (v := .agg #[.bool true, .bool false, .bool true, .bool false]) (by simp [results, Try.results20, go_sem]) rfl ⟨rfl, by repeat (first | with_reducible exact Below.refl _ _ | (with_reducible refine kSet ?_ ?hB _; case hB => (simp; try omega)) | with_reducible refine kAlloc ?_ _ | with_reducible refine Below.drew ?_ | with_reducible refine kDrewN ?_ _ | with_reducible refine kTrans ?_ (by assumption))⟩
set_option maxHeartbeats 2000000 in
theorem hits_3_0 (w : World) :
    Calls Try.prog 20 #[.iface 63 (.agg #[.int .i8 3, .int .i8 1]), .int .i8 0] w fun r w' => r = .returned (.agg #[.bool false, .bool true, .bool false, .bool false]) ∧ Below w.heap.size w w' := by
  have t1 := ta_oneWay_joined
  have t2 := ta_oneWay_oneWay
  have t3 := ta_oneWay_gate
  have t4 := ta_oneWay_cross
  have t5 := ta_joined_joined
  go_enter Try.func20, Try.ntmps20
  go_wp2
  exact bodyPost_ret (v := .agg #[.bool false, .bool true, .bool false, .bool false]) (by simp [results, Try.results20, go_sem]) rfl ⟨rfl, by repeat (first | with_reducible exact Below.refl _ _ | (with_reducible refine kSet ?_ ?hB _; case hB => (simp; try omega)) | with_reducible refine kAlloc ?_ _ | with_reducible refine Below.drew ?_ | with_reducible refine kDrewN ?_ _ | with_reducible refine kTrans ?_ (by assumption))⟩
set_option maxHeartbeats 2000000 in
theorem hits_3_1 (w : World) :
    Calls Try.prog 20 #[.iface 63 (.agg #[.int .i8 3, .int .i8 1]), .int .i8 1] w fun r w' => r = .returned (.agg #[.bool false, .bool true, .bool false, .bool false]) ∧ Below w.heap.size w w' := by
  have t1 := ta_oneWay_joined
  have t2 := ta_oneWay_oneWay
  have t3 := ta_oneWay_gate
  have t4 := ta_oneWay_cross
  have t5 := ta_joined_joined
  go_enter Try.func20, Try.ntmps20
  go_wp2
  exact bodyPost_ret (v := .agg #[.bool false, .bool true, .bool false, .bool false]) (by simp [results, Try.results20, go_sem]) rfl ⟨rfl, by repeat (first | with_reducible exact Below.refl _ _ | (with_reducible refine kSet ?_ ?hB _; case hB => (simp; try omega)) | with_reducible refine kAlloc ?_ _ | with_reducible refine Below.drew ?_ | with_reducible refine kDrewN ?_ _ | with_reducible refine kTrans ?_ (by assumption))⟩
set_option maxHeartbeats 2000000 in
theorem hits_3_2 (w : World) :
    Calls Try.prog 20 #[.iface 63 (.agg #[.int .i8 3, .int .i8 1]), .int .i8 2] w fun r w' => r = .returned (.agg #[.bool false, .bool true, .bool false, .bool false]) ∧ Below w.heap.size w w' := by
  have t1 := ta_oneWay_joined
  have t2 := ta_oneWay_oneWay
  have t3 := ta_oneWay_gate
  have t4 := ta_oneWay_cross
  have t5 := ta_joined_joined
  go_enter Try.func20, Try.ntmps20
  go_wp2
  exact bodyPost_ret (v := .agg #[.bool false, .bool true, .bool false, .bool false]) (by simp [results, Try.results20, go_sem]) rfl ⟨rfl, by repeat (first | with_reducible exact Below.refl _ _ | (with_reducible refine kSet ?_ ?hB _; case hB => (simp; try omega)) | with_reducible refine kAlloc ?_ _ | with_reducible refine Below.drew ?_ | with_reducible refine kDrewN ?_ _ | with_reducible refine kTrans ?_ (by assumption))⟩
set_option maxHeartbeats 2000000 in
theorem hits_3_3 (w : World) :
    Calls Try.prog 20 #[.iface 63 (.agg #[.int .i8 3, .int .i8 1]), .int .i8 3] w fun r w' => r = .returned (.agg #[.bool false, .bool true, .bool false, .bool false]) ∧ Below w.heap.size w w' := by
  have t1 := ta_oneWay_joined
  have t2 := ta_oneWay_oneWay
  have t3 := ta_oneWay_gate
  have t4 := ta_oneWay_cross
  have t5 := ta_joined_joined
  go_enter Try.func20, Try.ntmps20
  go_wp2
  exact bodyPost_ret (v := .agg #[.bool false, .bool true, .bool false, .bool false]) (by simp [results, Try.results20, go_sem]) rfl ⟨rfl, by repeat (first | with_reducible exact Below.refl _ _ | (with_reducible refine kSet ?_ ?hB _; case hB => (simp; try omega)) | with_reducible refine kAlloc ?_ _ | with_reducible refine Below.drew ?_ | with_reducible refine kDrewN ?_ _ | with_reducible refine kTrans ?_ (by assumption))⟩
set_option maxHeartbeats 2000000 in
theorem hits_4_0 (w : World) :
    Calls Try.prog 20 #[.iface 65 (.agg #[.bool false, .bool true, .bool false, .bool true]), .int .i8 0] w fun r w' => r = .returned (.agg #[.bool false, .bool false, .bool false, .bool false]) ∧ Below w.heap.size w w' := by
  have t1 := ta_gate_joined
  have t2 := ta_gate_oneWay
  have t3 := ta_gate_gate
  have t4 := ta_gate_cross
  have t5 := ta_joined_joined
  go_enter Try.func20, Try.ntmps20
  go_wp2
  exact bodyPost_ret (v := .agg #[.bool false, .bool false, .bool false, .bool false]) (by simp [results, Try.results20, go_sem]) rfl ⟨rfl, by repeat (first | with_reducible exact Below.refl _ _ | (with_reducible refine kSet ?_ ?hB _; case hB => (simp; try omega)) | with_reducible refine kAlloc ?_ _ | with_reducible refine Below.drew ?_ | with_reducible refine kDrewN ?_ _ | with_reducible refine kTrans ?_ (by assumption))⟩
set_option maxHeartbeats 2000000 in
theorem hits_4_1 (w : World) :
    Calls Try.prog 20 #[.iface 65 (.agg #[.bool false, .bool true, .bool false, .bool true]), .int .i8 1] w fun r w' => r = .returned (.agg #[.bool false, .bool false, .bool false, .bool true]) ∧ Below w.heap.size w w' := by
  have t1 := ta_gate_joined
  have t2 := ta_gate_oneWay
  have t3 := ta_gate_gate
  have t4 := ta_gate_cross
  have t5 := ta_joined_joined
  go_enter Try.func20, Try.ntmps20
  go_wp2
  exact bodyPost_ret (v := .agg #[.bool false, .bool false, .bool false, .bool true]) (by simp [results, Try.results20, go_sem]) rfl ⟨rfl, by repeat (first | with_reducible exact Below.refl _ _ | (with_reducible refine kSet ?_ ?hB _; case hB => (simp; try omega)) | with_reducible refine kAlloc ?_ _ | with_reducible refine Below.drew ?_ | with_reducible refine kDrewN ?_ _ | with_reducible refine kTrans ?_ (by assumption))⟩
set_option maxHeartbeats 2000000 in
theorem hits_4_2 (w : World) :
    Calls Try.prog 20 #[.iface 65 (.agg #[.bool false, .bool true, .bool false, .bool true]), .int .i8 2] w fun r w' => r = .returned (.agg #[.bool false, .bool false, .bool false, .bool false]) ∧ Below w.heap.size w w' := by
  have t1 := ta_gate_joined
  have t2 := ta_gate_oneWay
  have t3 := ta_gate_gate
  have t4 := ta_gate_cross
  have t5 := ta_joined_joined
  go_enter Try.func20, Try.ntmps20
  go_wp2
  exact bodyPost_ret (v := .agg #[.bool false, .bool false, .bool false, .bool false]) (by simp [results, Try.results20, go_sem]) rfl ⟨rfl, by repeat (first | with_reducible exact Below.refl _ _ | (with_reducible refine kSet ?_ ?hB _; case hB => (simp; try omega)) | with_reducible refine kAlloc ?_ _ | with_reducible refine Below.drew ?_ | with_reducible refine kDrewN ?_ _ | with_reducible refine kTrans ?_ (by assumption))⟩
set_option maxHeartbeats 2000000 in
theorem hits_4_3 (w : World) :
    Calls Try.prog 20 #[.iface 65 (.agg #[.bool false, .bool true, .bool false, .bool true]), .int .i8 3] w fun r w' => r = .returned (.agg #[.bool false, .bool true, .bool false, .bool false]) ∧ Below w.heap.size w w' := by
  have t1 := ta_gate_joined
  have t2 := ta_gate_oneWay
  have t3 := ta_gate_gate
  have t4 := ta_gate_cross
  have t5 := ta_joined_joined
  go_enter Try.func20, Try.ntmps20
  go_wp2
  exact bodyPost_ret (v := .agg #[.bool false, .bool true, .bool false, .bool false]) (by simp [results, Try.results20, go_sem]) rfl ⟨rfl, by repeat (first | with_reducible exact Below.refl _ _ | (with_reducible refine kSet ?_ ?hB _; case hB => (simp; try omega)) | with_reducible refine kAlloc ?_ _ | with_reducible refine Below.drew ?_ | with_reducible refine kDrewN ?_ _ | with_reducible refine kTrans ?_ (by assumption))⟩
set_option maxHeartbeats 2000000 in
theorem hits_5_0 (w : World) :
    Calls Try.prog 20 #[.iface 67 (.agg #[]), .int .i8 0] w fun r w' => r = .returned (.agg #[.bool false, .bool false, .bool true, .bool false]) ∧ Below w.heap.size w w' := by
  have t1 := ta_cross_joined
  have t2 := ta_cross_oneWay
  have t3 := ta_cross_gate
  have t4 := ta_cross_cross
  have t5 := ta_joined_joined
  go_enter Try.func20, Try.ntmps20
  go_wp2
  exact bodyPost_ret (v := .agg #[.bool false, .bool false, .bool true, .bool false]) (by simp [results, Try.results20, go_sem]) rfl ⟨rfl, by repeat (first | with_reducible exact Below.refl _ _ | (with_reducible refine kSet ?_ ?hB _; case hB => (simp; try omega)) | with_reducible refine kAlloc ?_ _ | with_reducible refine Below.drew ?_ | with_reducible refine kDrewN ?_ _ | with_reducible refine kTrans ?_ (by assumption))⟩
set_option maxHeartbeats 2000000 in
theorem hits_5_1 (w : World) :
    Calls Try.prog 20 #[.iface 67 (.agg #[]), .int .i8 1] w fun r w' => r = .returned (.agg #[.bool false, .bool false, .bool false, .bool true]) ∧ Below w.heap.size w w' := by
  have t1 := ta_cross_joined
  have t2 := ta_cross_oneWay
  have t3 := ta_cross_gate
  have t4 := ta_cross_cross
  have t5 := ta_joined_joined
  go_enter Try.func20, Try.ntmps20
  go_wp2
  exact bodyPost_ret (v := .agg #[.bool false, .bool false, .bool false, .bool true]) (by simp [results, Try.results20, go_sem]) rfl ⟨rfl, by repeat (first | with_reducible exact Below.refl _ _ | (with_reducible refine kSet ?_ ?hB _; case hB => (simp; try omega)) | with_reducible refine kAlloc ?_ _ | with_reducible refine Below.drew ?_ | with_reducible refine kDrewN ?_ _ | with_reducible refine kTrans ?_ (by assumption))⟩
set_option maxHeartbeats 2000000 in
theorem hits_5_2 (w : World) :
    Calls Try.prog 20 #[.iface 67 (.agg #[]), .int .i8 2] w fun r w' => r = .returned (.agg #[.bool true, .bool false, .bool false, .bool false]) ∧ Below w.heap.size w w' := by
  have t1 := ta_cross_joined
  have t2 := ta_cross_oneWay
  have t3 := ta_cross_gate
  have t4 := ta_cross_cross
  have t5 := ta_joined_joined
  go_enter Try.func20, Try.ntmps20
  go_wp2
  exact bodyPost_ret (v := .agg #[.bool true, .bool false, .bool false, .bool false]) (by simp [results, Try.results20, go_sem]) rfl ⟨rfl, by repeat (first | with_reducible exact Below.refl _ _ | (with_reducible refine kSet ?_ ?hB _; case hB => (simp; try omega)) | with_reducible refine kAlloc ?_ _ | with_reducible refine Below.drew ?_ | with_reducible refine kDrewN ?_ _ | with_reducible refine kTrans ?_ (by assumption))⟩
set_option maxHeartbeats 2000000 in
theorem hits_5_3 (w : World) :
    Calls Try.prog 20 #[.iface 67 (.agg #[]), .int .i8 3] w fun r w' => r = .returned (.agg #[.bool false, .bool true, .bool false, .bool false]) ∧ Below w.heap.size w w' := by
  have t1 := ta_cross_joined
  have t2 := ta_cross_oneWay
  have t3 := ta_cross_gate
  have t4 := ta_cross_cross
  have t5 := ta_joined_joined
  go_enter Try.func20, Try.ntmps20
  go_wp2
  exact bodyPost_ret (v := .agg #[.bool false, .bool true, .bool false, .bool false]) (by simp [results, Try.results20, go_sem]) rfl ⟨rfl, by repeat (first | with_reducible exact Below.refl _ _ | (with_reducible refine kSet ?_ ?hB _; case hB => (simp; try omega)) | with_reducible refine kAlloc ?_ _ | with_reducible refine Below.drew ?_ | with_reducible refine kDrewN ?_ _ | with_reducible refine kTrans ?_ (by assumption))⟩

theorem hitsOf_any (k e : Int) (w : World) (hk : 0 ≤ k ∧ k ≤ 5) (he : 0 ≤ e ∧ e ≤ 3) :
    Calls Try.prog 20 #[kindV k, .int .i8 e] w fun r w' => r = .returned (.agg #[.bool (hitsP k e 0), .bool (hitsP k e 1), .bool (hitsP k e 2), .bool (hitsP k e 3)]) ∧ Below w.heap.size w w' := by
  have h1 : k = 0 ∨ k = 1 ∨ k = 2 ∨ k = 3 ∨ k = 4 ∨ k = 5 := by omega
  have h2 : e = 0 ∨ e = 1 ∨ e = 2 ∨ e = 3 := by omega
  clear hk he
  rcases h1 with rfl | rfl | rfl | rfl | rfl | rfl <;> rcases h2 with rfl | rfl | rfl | rfl
  · exact hits_0_0 w
  · exact hits_0_1 w
  · exact hits_0_2 w
  · exact hits_0_3 w
  · exact hits_1_0 w
  · exact hits_1_1 w
  · exact hits_1_2 w
  · exact hits_1_3 w
  · exact hits_2_0 w
  · exact hits_2_1 w
  · exact hits_2_2 w
  · exact hits_2_3 w
  · exact hits_3_0 w
  · exact hits_3_1 w
  · exact hits_3_2 w
  · exact hits_3_3 w
  · exact hits_4_0 w
  · exact hits_4_1 w
  · exact hits_4_2 w
  · exact hits_4_3 w
  · exact hits_5_0 w
  · exact hits_5_1 w
  · exact hits_5_2 w
  · exact hits_5_3 w
end Go.Proofs.Ytjdccompjibccaa
