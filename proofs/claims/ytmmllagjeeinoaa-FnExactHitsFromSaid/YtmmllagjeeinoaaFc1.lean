/- What the model's HitsFrom answers. -/
import Derived.Test.YtmmllagjeeinoaaFb
namespace Go.Proofs.Ytmmllagjeeinoaa
open Go.ChangeShapes Go.WideShapes Go.ChangeAt Go.RowKit
set_option linter.unusedVariables false

set_option maxHeartbeats 2000000 in
theorem sph_0 (p : Pc) (s : Int) (w : World) (hp : p.in8) (hc : 0 = askC p s) (hk : 0 ≤ p.kind ∧ p.kind ≤ 5) (ht : 0 ≤ p.turn ∧ p.turn ≤ 3) (hs : 0 ≤ s ∧ s ≤ 3) (hv : rxB p.kind p.turn s = 0) :
    Calls Try.prog 24 #[.agg #[.int .i8 p.x, .int .i8 p.y, .int .i8 p.kind, .int .i8 p.turn, .int .i8 p.delay], .int .i64 s] w fun e w' => e = .returned (.tuple #[.agg #[.bool false, .bool false, .bool false, .bool false], .int .i64 0]) ∧ Below w.heap.size w w' := by
  have pb := (PcAt.box w p 38).below (w' := ((w.alloc (.cells #[.int .i8 p.x, .int .i8 p.y, .int .i8 p.kind, .int .i8 p.turn, .int .i8 p.delay] 38)).alloc (.cells #[.bool false, .bool false, .bool false, .bool false] 44)).alloc (.cells #[.bool false, .bool false, .bool false, .bool false] 44)) (by repeat (first | with_reducible exact Below.refl _ _ | (with_reducible refine kSet ?_ ?hB _; case hB => (simp; try omega)) | with_reducible refine kAlloc ?_ _ | with_reducible refine Below.drew ?_ | with_reducible refine kDrewN ?_ _ | with_reducible refine kTrans ?_ (by assumption))) (by simp)
  have Hc := Lib.hid hc
  have Hv := Lib.hid hv
  clear hc hv
  go_enter Try.func24, Try.ntmps24
  go_wp2_with fail
  refine (l01Asked_any p _ _ _ _ hp pb 0 Hc.out).mono ?_
  rintro e w1 ⟨rfl, hb⟩
  have hz : w.heap.size + 1 + 1 < w1.heap.size := by have := hb.size; simp at this; omega
  have pc := pb.below hb (by simp; omega)
  have n1 := heap_alloc_new (w.alloc (.cells #[.int .i8 p.x, .int .i8 p.y, .int .i8 p.kind, .int .i8 p.turn, .int .i8 p.delay] 38)) (.cells #[.bool false, .bool false, .bool false, .bool false] 44)
  have n2 := heap_alloc_new ((w.alloc (.cells #[.int .i8 p.x, .int .i8 p.y, .int .i8 p.kind, .int .i8 p.turn, .int .i8 p.delay] 38)).alloc (.cells #[.bool false, .bool false, .bool false, .bool false] 44)) (.cells #[.bool false, .bool false, .bool false, .bool false] 44)
  simp only [World.size_alloc] at n1 n2
  have A1 := (hb.block (w.heap.size + 1) (by simp)).trans ((Below.heap_alloc _ _ _ (by simp)).trans n1)
  have B1 := (hb.block (w.heap.size + 1 + 1) (by simp)).trans n2
  clear n1 n2
  have HA := Lib.hid A1
  have HB := Lib.hid B1
  have K1 : ∀ j, w1.cell? ⟨w.heap.size + 1 + 1, j, none⟩ = #[Value.bool false, .bool false, .bool false, .bool false][j]? := fun j => cell_of_row w1 _ j _ _ _ B1
  have k0 := K1 0
  have k1 := K1 1
  have k2 := K1 2
  have k3 := K1 3
  clear A1 B1 K1
  go_wp2_with fail
  refine (l01Hits_any p _ _ _ _ hk ht hs pc (by omega)).mono ?_
  rw [Hv.out]
  rintro e w2 ⟨rfl, hb2⟩
  have A2 := (hb2.block (w.heap.size + 1) (by omega)).trans HA.out
  have B2 := (hb2.block (w.heap.size + 1 + 1) hz).trans HB.out
  have a0 : w2.cell? ⟨w.heap.size + 1, 0, none⟩ = some (.bool false) := cell_of_row w2 _ 0 _ _ _ A2
  have b0 : w2.cell? ⟨w.heap.size + 1 + 1, 0, none⟩ = some (.bool false) := cell_of_row w2 _ 0 _ _ _ B2
  have a1 : w2.cell? ⟨w.heap.size + 1, 1, none⟩ = some (.bool false) := cell_of_row w2 _ 1 _ _ _ A2
  have b1 : w2.cell? ⟨w.heap.size + 1 + 1, 1, none⟩ = some (.bool false) := cell_of_row w2 _ 1 _ _ _ B2
  have a2 : w2.cell? ⟨w.heap.size + 1, 2, none⟩ = some (.bool false) := cell_of_row w2 _ 2 _ _ _ A2
  have b2 : w2.cell? ⟨w.heap.size + 1 + 1, 2, none⟩ = some (.bool false) := cell_of_row w2 _ 2 _ _ _ B2
  have a3 : w2.cell? ⟨w.heap.size + 1, 3, none⟩ = some (.bool false) := cell_of_row w2 _ 3 _ _ _ A2
  have b3 : w2.cell? ⟨w.heap.size + 1 + 1, 3, none⟩ = some (.bool false) := cell_of_row w2 _ 3 _ _ _ B2
  have g0 : ∀ j, w2.frozen? ⟨w.heap.size + 1, j, none⟩ = false := fun j => frozen_of_row w2 _ j _ _ A2
  have g1 : ∀ j, w2.frozen? ⟨w.heap.size + 1 + 1, j, none⟩ = false := fun j => frozen_of_row w2 _ j _ _ B2
  clear HA HB A2 B2 k0 k1 k2 k3
  go_wp2
  refine wp_loop_rounds 5 ?_
  rw [rounds_succ]
  go_wp2
  exact bodyPost_ret (v := .tuple #[.agg #[.bool false, .bool false, .bool false, .bool false], .int .i64 0]) (by simp [results, Try.results24, go_sem, a0, a1, a2, a3]) rfl ⟨rfl, by repeat (first | with_reducible exact Below.refl _ _ | (with_reducible refine kSet ?_ ?hB _; case hB => (simp; try omega)) | with_reducible refine kAlloc ?_ _ | with_reducible refine Below.drew ?_ | with_reducible refine kDrewN ?_ _ | with_reducible refine kTrans ?_ (by assumption))⟩
set_option maxHeartbeats 2000000 in
theorem sph_3 (p : Pc) (s : Int) (w : World) (hp : p.in8) (hc : 0 = askC p s) (hk : 0 ≤ p.kind ∧ p.kind ≤ 5) (ht : 0 ≤ p.turn ∧ p.turn ≤ 3) (hs : 0 ≤ s ∧ s ≤ 3) (hv : rxB p.kind p.turn s = 3) :
    Calls Try.prog 24 #[.agg #[.int .i8 p.x, .int .i8 p.y, .int .i8 p.kind, .int .i8 p.turn, .int .i8 p.delay], .int .i64 s] w fun e w' => e = .returned (.tuple #[.agg #[.bool true, .bool true, .bool false, .bool false], .int .i64 0]) ∧ Below w.heap.size w w' := by
  have pb := (PcAt.box w p 38).below (w' := ((w.alloc (.cells #[.int .i8 p.x, .int .i8 p.y, .int .i8 p.kind, .int .i8 p.turn, .int .i8 p.delay] 38)).alloc (.cells #[.bool false, .bool false, .bool false, .bool false] 44)).alloc (.cells #[.bool false, .bool false, .bool false, .bool false] 44)) (by repeat (first | with_reducible exact Below.refl _ _ | (with_reducible refine kSet ?_ ?hB _; case hB => (simp; try omega)) | with_reducible refine kAlloc ?_ _ | with_reducible refine Below.drew ?_ | with_reducible refine kDrewN ?_ _ | with_reducible refine kTrans ?_ (by assumption))) (by simp)
  have Hc := Lib.hid hc
  have Hv := Lib.hid hv
  clear hc hv
  go_enter Try.func24, Try.ntmps24
  go_wp2_with fail
  refine (l01Asked_any p _ _ _ _ hp pb 0 Hc.out).mono ?_
  rintro e w1 ⟨rfl, hb⟩
  have hz : w.heap.size + 1 + 1 < w1.heap.size := by have := hb.size; simp at this; omega
  have pc := pb.below hb (by simp; omega)
  have n1 := heap_alloc_new (w.alloc (.cells #[.int .i8 p.x, .int .i8 p.y, .int .i8 p.kind, .int .i8 p.turn, .int .i8 p.delay] 38)) (.cells #[.bool false, .bool false, .bool false, .bool false] 44)
  have n2 := heap_alloc_new ((w.alloc (.cells #[.int .i8 p.x, .int .i8 p.y, .int .i8 p.kind, .int .i8 p.turn, .int .i8 p.delay] 38)).alloc (.cells #[.bool false, .bool false, .bool false, .bool false] 44)) (.cells #[.bool false, .bool false, .bool false, .bool false] 44)
  simp only [World.size_alloc] at n1 n2
  have A1 := (hb.block (w.heap.size + 1) (by simp)).trans ((Below.heap_alloc _ _ _ (by simp)).trans n1)
  have B1 := (hb.block (w.heap.size + 1 + 1) (by simp)).trans n2
  clear n1 n2
  have HA := Lib.hid A1
  have HB := Lib.hid B1
  have K1 : ∀ j, w1.cell? ⟨w.heap.size + 1 + 1, j, none⟩ = #[Value.bool false, .bool false, .bool false, .bool false][j]? := fun j => cell_of_row w1 _ j _ _ _ B1
  have k0 := K1 0
  have k1 := K1 1
  have k2 := K1 2
  have k3 := K1 3
  clear A1 B1 K1
  go_wp2_with fail
  refine (l01Hits_any p _ _ _ _ hk ht hs pc (by omega)).mono ?_
  rw [Hv.out]
  rintro e w2 ⟨rfl, hb2⟩
  have A2 := (hb2.block (w.heap.size + 1) (by omega)).trans HA.out
  have B2 := (hb2.block (w.heap.size + 1 + 1) hz).trans HB.out
  have a0 : w2.cell? ⟨w.heap.size + 1, 0, none⟩ = some (.bool false) := cell_of_row w2 _ 0 _ _ _ A2
  have b0 : w2.cell? ⟨w.heap.size + 1 + 1, 0, none⟩ = some (.bool false) := cell_of_row w2 _ 0 _ _ _ B2
  have a1 : w2.cell? ⟨w.heap.size + 1, 1, none⟩ = some (.bool false) := cell_of_row w2 _ 1 _ _ _ A2
  have b1 : w2.cell? ⟨w.heap.size + 1 + 1, 1, none⟩ = some (.bool false) := cell_of_row w2 _ 1 _ _ _ B2
  have a2 : w2.cell? ⟨w.heap.size + 1, 2, none⟩ = some (.bool false) := cell_of_row w2 _ 2 _ _ _ A2
  have b2 : w2.cell? ⟨w.heap.size + 1 + 1, 2, none⟩ = some (.bool false) := cell_of_row w2 _ 2 _ _ _ B2
  have a3 : w2.cell? ⟨w.heap.size + 1, 3, none⟩ = some (.bool false) := cell_of_row w2 _ 3 _ _ _ A2
  have b3 : w2.cell? ⟨w.heap.size + 1 + 1, 3, none⟩ = some (.bool false) := cell_of_row w2 _ 3 _ _ _ B2
  have g0 : ∀ j, w2.frozen? ⟨w.heap.size + 1, j, none⟩ = false := fun j => frozen_of_row w2 _ j _ _ A2
  have g1 : ∀ j, w2.frozen? ⟨w.heap.size + 1 + 1, j, none⟩ = false := fun j => frozen_of_row w2 _ j _ _ B2
  clear HA HB A2 B2 k0 k1 k2 k3
  go_wp2
  refine wp_loop_rounds 5 ?_
  rw [rounds_succ]
  go_wp2
  rw [rounds_succ]
  go_wp2
  rw [rounds_succ]
  go_wp2
  rw [rounds_succ]
  go_wp2
  rw [rounds_succ]
  go_wp2
  exact bodyPost_ret (v := .tuple #[.agg #[.bool true, .bool true, .bool false, .bool false], .int .i64 0]) (by simp [results, Try.results24, go_sem, a0, a1, a2, a3]) rfl ⟨rfl, by repeat (first | with_reducible exact Below.refl _ _ | (with_reducible refine kSet ?_ ?hB _; case hB => (simp; try omega)) | with_reducible refine kAlloc ?_ _ | with_reducible refine Below.drew ?_ | with_reducible refine kDrewN ?_ _ | with_reducible refine kTrans ?_ (by assumption))⟩
set_option maxHeartbeats 2000000 in
theorem sph_6 (p : Pc) (s : Int) (w : World) (hp : p.in8) (hc : 0 = askC p s) (hk : 0 ≤ p.kind ∧ p.kind ≤ 5) (ht : 0 ≤ p.turn ∧ p.turn ≤ 3) (hs : 0 ≤ s ∧ s ≤ 3) (hv : rxB p.kind p.turn s = 6) :
    Calls Try.prog 24 #[.agg #[.int .i8 p.x, .int .i8 p.y, .int .i8 p.kind, .int .i8 p.turn, .int .i8 p.delay], .int .i64 s] w fun e w' => e = .returned (.tuple #[.agg #[.bool false, .bool true, .bool true, .bool false], .int .i64 0]) ∧ Below w.heap.size w w' := by
  have pb := (PcAt.box w p 38).below (w' := ((w.alloc (.cells #[.int .i8 p.x, .int .i8 p.y, .int .i8 p.kind, .int .i8 p.turn, .int .i8 p.delay] 38)).alloc (.cells #[.bool false, .bool false, .bool false, .bool false] 44)).alloc (.cells #[.bool false, .bool false, .bool false, .bool false] 44)) (by repeat (first | with_reducible exact Below.refl _ _ | (with_reducible refine kSet ?_ ?hB _; case hB => (simp; try omega)) | with_reducible refine kAlloc ?_ _ | with_reducible refine Below.drew ?_ | with_reducible refine kDrewN ?_ _ | with_reducible refine kTrans ?_ (by assumption))) (by simp)
  have Hc := Lib.hid hc
  have Hv := Lib.hid hv
  clear hc hv
  go_enter Try.func24, Try.ntmps24
  go_wp2_with fail
  refine (l01Asked_any p _ _ _ _ hp pb 0 Hc.out).mono ?_
  rintro e w1 ⟨rfl, hb⟩
  have hz : w.heap.size + 1 + 1 < w1.heap.size := by have := hb.size; simp at this; omega
  have pc := pb.below hb (by simp; omega)
  have n1 := heap_alloc_new (w.alloc (.cells #[.int .i8 p.x, .int .i8 p.y, .int .i8 p.kind, .int .i8 p.turn, .int .i8 p.delay] 38)) (.cells #[.bool false, .bool false, .bool false, .bool false] 44)
  have n2 := heap_alloc_new ((w.alloc (.cells #[.int .i8 p.x, .int .i8 p.y, .int .i8 p.kind, .int .i8 p.turn, .int .i8 p.delay] 38)).alloc (.cells #[.bool false, .bool false, .bool false, .bool false] 44)) (.cells #[.bool false, .bool false, .bool false, .bool false] 44)
  simp only [World.size_alloc] at n1 n2
  have A1 := (hb.block (w.heap.size + 1) (by simp)).trans ((Below.heap_alloc _ _ _ (by simp)).trans n1)
  have B1 := (hb.block (w.heap.size + 1 + 1) (by simp)).trans n2
  clear n1 n2
  have HA := Lib.hid A1
  have HB := Lib.hid B1
  have K1 : ∀ j, w1.cell? ⟨w.heap.size + 1 + 1, j, none⟩ = #[Value.bool false, .bool false, .bool false, .bool false][j]? := fun j => cell_of_row w1 _ j _ _ _ B1
  have k0 := K1 0
  have k1 := K1 1
  have k2 := K1 2
  have k3 := K1 3
  clear A1 B1 K1
  go_wp2_with fail
  refine (l01Hits_any p _ _ _ _ hk ht hs pc (by omega)).mono ?_
  rw [Hv.out]
  rintro e w2 ⟨rfl, hb2⟩
  have A2 := (hb2.block (w.heap.size + 1) (by omega)).trans HA.out
  have B2 := (hb2.block (w.heap.size + 1 + 1) hz).trans HB.out
  have a0 : w2.cell? ⟨w.heap.size + 1, 0, none⟩ = some (.bool false) := cell_of_row w2 _ 0 _ _ _ A2
  have b0 : w2.cell? ⟨w.heap.size + 1 + 1, 0, none⟩ = some (.bool false) := cell_of_row w2 _ 0 _ _ _ B2
  have a1 : w2.cell? ⟨w.heap.size + 1, 1, none⟩ = some (.bool false) := cell_of_row w2 _ 1 _ _ _ A2
  have b1 : w2.cell? ⟨w.heap.size + 1 + 1, 1, none⟩ = some (.bool false) := cell_of_row w2 _ 1 _ _ _ B2
  have a2 : w2.cell? ⟨w.heap.size + 1, 2, none⟩ = some (.bool false) := cell_of_row w2 _ 2 _ _ _ A2
  have b2 : w2.cell? ⟨w.heap.size + 1 + 1, 2, none⟩ = some (.bool false) := cell_of_row w2 _ 2 _ _ _ B2
  have a3 : w2.cell? ⟨w.heap.size + 1, 3, none⟩ = some (.bool false) := cell_of_row w2 _ 3 _ _ _ A2
  have b3 : w2.cell? ⟨w.heap.size + 1 + 1, 3, none⟩ = some (.bool false) := cell_of_row w2 _ 3 _ _ _ B2
  have g0 : ∀ j, w2.frozen? ⟨w.heap.size + 1, j, none⟩ = false := fun j => frozen_of_row w2 _ j _ _ A2
  have g1 : ∀ j, w2.frozen? ⟨w.heap.size + 1 + 1, j, none⟩ = false := fun j => frozen_of_row w2 _ j _ _ B2
  clear HA HB A2 B2 k0 k1 k2 k3
  go_wp2
  refine wp_loop_rounds 5 ?_
  rw [rounds_succ]
  go_wp2
  rw [rounds_succ]
  go_wp2
  rw [rounds_succ]
  go_wp2
  rw [rounds_succ]
  go_wp2
  rw [rounds_succ]
  go_wp2
  exact bodyPost_ret (v := .tuple #[.agg #[.bool false, .bool true, .bool true, .bool false], .int .i64 0]) (by simp [results, Try.results24, go_sem, a0, a1, a2, a3]) rfl ⟨rfl, by repeat (first | with_reducible exact Below.refl _ _ | (with_reducible refine kSet ?_ ?hB _; case hB => (simp; try omega)) | with_reducible refine kAlloc ?_ _ | with_reducible refine Below.drew ?_ | with_reducible refine kDrewN ?_ _ | with_reducible refine kTrans ?_ (by assumption))⟩
set_option maxHeartbeats 2000000 in
theorem sph_9 (p : Pc) (s : Int) (w : World) (hp : p.in8) (hc : 0 = askC p s) (hk : 0 ≤ p.kind ∧ p.kind ≤ 5) (ht : 0 ≤ p.turn ∧ p.turn ≤ 3) (hs : 0 ≤ s ∧ s ≤ 3) (hv : rxB p.kind p.turn s = 9) :
    Calls Try.prog 24 #[.agg #[.int .i8 p.x, .int .i8 p.y, .int .i8 p.kind, .int .i8 p.turn, .int .i8 p.delay], .int .i64 s] w fun e w' => e = .returned (.tuple #[.agg #[.bool true, .bool false, .bool false, .bool true], .int .i64 0]) ∧ Below w.heap.size w w' := by
  have pb := (PcAt.box w p 38).below (w' := ((w.alloc (.cells #[.int .i8 p.x, .int .i8 p.y, .int .i8 p.kind, .int .i8 p.turn, .int .i8 p.delay] 38)).alloc (.cells #[.bool false, .bool false, .bool false, .bool false] 44)).alloc (.cells #[.bool false, .bool false, .bool false, .bool false] 44)) (by repeat (first | with_reducible exact Below.refl _ _ | (with_reducible refine kSet ?_ ?hB _; case hB => (simp; try omega)) | with_reducible refine kAlloc ?_ _ | with_reducible refine Below.drew ?_ | with_reducible refine kDrewN ?_ _ | with_reducible refine kTrans ?_ (by assumption))) (by simp)
  have Hc := Lib.hid hc
  have Hv := Lib.hid hv
  clear hc hv
  go_enter Try.func24, Try.ntmps24
  go_wp2_with fail
  refine (l01Asked_any p _ _ _ _ hp pb 0 Hc.out).mono ?_
  rintro e w1 ⟨rfl, hb⟩
  have hz : w.heap.size + 1 + 1 < w1.heap.size := by have := hb.size; simp at this; omega
  have pc := pb.below hb (by simp; omega)
  have n1 := heap_alloc_new (w.alloc (.cells #[.int .i8 p.x, .int .i8 p.y, .int .i8 p.kind, .int .i8 p.turn, .int .i8 p.delay] 38)) (.cells #[.bool false, .bool false, .bool false, .bool false] 44)
  have n2 := heap_alloc_new ((w.alloc (.cells #[.int .i8 p.x, .int .i8 p.y, .int .i8 p.kind, .int .i8 p.turn, .int .i8 p.delay] 38)).alloc (.cells #[.bool false, .bool false, .bool false, .bool false] 44)) (.cells #[.bool false, .bool false, .bool false, .bool false] 44)
  simp only [World.size_alloc] at n1 n2
  have A1 := (hb.block (w.heap.size + 1) (by simp)).trans ((Below.heap_alloc _ _ _ (by simp)).trans n1)
  have B1 := (hb.block (w.heap.size + 1 + 1) (by simp)).trans n2
  clear n1 n2
  have HA := Lib.hid A1
  have HB := Lib.hid B1
  have K1 : ∀ j, w1.cell? ⟨w.heap.size + 1 + 1, j, none⟩ = #[Value.bool false, .bool false, .bool false, .bool false][j]? := fun j => cell_of_row w1 _ j _ _ _ B1
  have k0 := K1 0
  have k1 := K1 1
  have k2 := K1 2
  have k3 := K1 3
  clear A1 B1 K1
  go_wp2_with fail
  refine (l01Hits_any p _ _ _ _ hk ht hs pc (by omega)).mono ?_
  rw [Hv.out]
  rintro e w2 ⟨rfl, hb2⟩
  have A2 := (hb2.block (w.heap.size + 1) (by omega)).trans HA.out
  have B2 := (hb2.block (w.heap.size + 1 + 1) hz).trans HB.out
  have a0 : w2.cell? ⟨w.heap.size + 1, 0, none⟩ = some (.bool false) := cell_of_row w2 _ 0 _ _ _ A2
  have b0 : w2.cell? ⟨w.heap.size + 1 + 1, 0, none⟩ = some (.bool false) := cell_of_row w2 _ 0 _ _ _ B2
  have a1 : w2.cell? ⟨w.heap.size + 1, 1, none⟩ = some (.bool false) := cell_of_row w2 _ 1 _ _ _ A2
  have b1 : w2.cell? ⟨w.heap.size + 1 + 1, 1, none⟩ = some (.bool false) := cell_of_row w2 _ 1 _ _ _ B2
  have a2 : w2.cell? ⟨w.heap.size + 1, 2, none⟩ = some (.bool false) := cell_of_row w2 _ 2 _ _ _ A2
  have b2 : w2.cell? ⟨w.heap.size + 1 + 1, 2, none⟩ = some (.bool false) := cell_of_row w2 _ 2 _ _ _ B2
  have a3 : w2.cell? ⟨w.heap.size + 1, 3, none⟩ = some (.bool false) := cell_of_row w2 _ 3 _ _ _ A2
  have b3 : w2.cell? ⟨w.heap.size + 1 + 1, 3, none⟩ = some (.bool false) := cell_of_row w2 _ 3 _ _ _ B2
  have g0 : ∀ j, w2.frozen? ⟨w.heap.size + 1, j, none⟩ = false := fun j => frozen_of_row w2 _ j _ _ A2
  have g1 : ∀ j, w2.frozen? ⟨w.heap.size + 1 + 1, j, none⟩ = false := fun j => frozen_of_row w2 _ j _ _ B2
  clear HA HB A2 B2 k0 k1 k2 k3
  go_wp2
  refine wp_loop_rounds 5 ?_
  rw [rounds_succ]
  go_wp2
  rw [rounds_succ]
  go_wp2
  rw [rounds_succ]
  go_wp2
  rw [rounds_succ]
  go_wp2
  rw [rounds_succ]
  go_wp2
  exact bodyPost_ret (v := .tuple #[.agg #[.bool true, .bool false, .bool false, .bool true], .int .i64 0]) (by simp [results, Try.results24, go_sem, a0, a1, a2, a3]) rfl ⟨rfl, by repeat (first | with_reducible exact Below.refl _ _ | (with_reducible refine kSet ?_ ?hB _; case hB => (simp; try omega)) | with_reducible refine kAlloc ?_ _ | with_reducible refine Below.drew ?_ | with_reducible refine kDrewN ?_ _ | with_reducible refine kTrans ?_ (by assumption))⟩
set_option maxHeartbeats 2000000 in
theorem sph_12 (p : Pc) (s : Int) (w : World) (hp : p.in8) (hc : 0 = askC p s) (hk : 0 ≤ p.kind ∧ p.kind ≤ 5) (ht : 0 ≤ p.turn ∧ p.turn ≤ 3) (hs : 0 ≤ s ∧ s ≤ 3) (hv : rxB p.kind p.turn s = 12) :
    Calls Try.prog 24 #[.agg #[.int .i8 p.x, .int .i8 p.y, .int .i8 p.kind, .int .i8 p.turn, .int .i8 p.delay], .int .i64 s] w fun e w' => e = .returned (.tuple #[.agg #[.bool false, .bool false, .bool true, .bool true], .int .i64 0]) ∧ Below w.heap.size w w' := by
  have pb := (PcAt.box w p 38).below (w' := ((w.alloc (.cells #[.int .i8 p.x, .int .i8 p.y, .int .i8 p.kind, .int .i8 p.turn, .int .i8 p.delay] 38)).alloc (.cells #[.bool false, .bool false, .bool false, .bool false] 44)).alloc (.cells #[.bool false, .bool false, .bool false, .bool false] 44)) (by repeat (first | with_reducible exact Below.refl _ _ | (with_reducible refine kSet ?_ ?hB _; case hB => (simp; try omega)) | with_reducible refine kAlloc ?_ _ | with_reducible refine Below.drew ?_ | with_reducible refine kDrewN ?_ _ | with_reducible refine kTrans ?_ (by assumption))) (by simp)
  have Hc := Lib.hid hc
  have Hv := Lib.hid hv
  clear hc hv
  go_enter Try.func24, Try.ntmps24
  go_wp2_with fail
  refine (l01Asked_any p _ _ _ _ hp pb 0 Hc.out).mono ?_
  rintro e w1 ⟨rfl, hb⟩
  have hz : w.heap.size + 1 + 1 < w1.heap.size := by have := hb.size; simp at this; omega
  have pc := pb.below hb (by simp; omega)
  have n1 := heap_alloc_new (w.alloc (.cells #[.int .i8 p.x, .int .i8 p.y, .int .i8 p.kind, .int .i8 p.turn, .int .i8 p.delay] 38)) (.cells #[.bool false, .bool false, .bool false, .bool false] 44)
  have n2 := heap_alloc_new ((w.alloc (.cells #[.int .i8 p.x, .int .i8 p.y, .int .i8 p.kind, .int .i8 p.turn, .int .i8 p.delay] 38)).alloc (.cells #[.bool false, .bool false, .bool false, .bool false] 44)) (.cells #[.bool false, .bool false, .bool false, .bool false] 44)
  simp only [World.size_alloc] at n1 n2
  have A1 := (hb.block (w.heap.size + 1) (by simp)).trans ((Below.heap_alloc _ _ _ (by simp)).trans n1)
  have B1 := (hb.block (w.heap.size + 1 + 1) (by simp)).trans n2
  clear n1 n2
  have HA := Lib.hid A1
  have HB := Lib.hid B1
  have K1 : ∀ j, w1.cell? ⟨w.heap.size + 1 + 1, j, none⟩ = #[Value.bool false, .bool false, .bool false, .bool false][j]? := fun j => cell_of_row w1 _ j _ _ _ B1
  have k0 := K1 0
  have k1 := K1 1
  have k2 := K1 2
  have k3 := K1 3
  clear A1 B1 K1
  go_wp2_with fail
  refine (l01Hits_any p _ _ _ _ hk ht hs pc (by omega)).mono ?_
  rw [Hv.out]
  rintro e w2 ⟨rfl, hb2⟩
  have A2 := (hb2.block (w.heap.size + 1) (by omega)).trans HA.out
  have B2 := (hb2.block (w.heap.size + 1 + 1) hz).trans HB.out
  have a0 : w2.cell? ⟨w.heap.size + 1, 0, none⟩ = some (.bool false) := cell_of_row w2 _ 0 _ _ _ A2
  have b0 : w2.cell? ⟨w.heap.size + 1 + 1, 0, none⟩ = some (.bool false) := cell_of_row w2 _ 0 _ _ _ B2
  have a1 : w2.cell? ⟨w.heap.size + 1, 1, none⟩ = some (.bool false) := cell_of_row w2 _ 1 _ _ _ A2
  have b1 : w2.cell? ⟨w.heap.size + 1 + 1, 1, none⟩ = some (.bool false) := cell_of_row w2 _ 1 _ _ _ B2
  have a2 : w2.cell? ⟨w.heap.size + 1, 2, none⟩ = some (.bool false) := cell_of_row w2 _ 2 _ _ _ A2
  have b2 : w2.cell? ⟨w.heap.size + 1 + 1, 2, none⟩ = some (.bool false) := cell_of_row w2 _ 2 _ _ _ B2
  have a3 : w2.cell? ⟨w.heap.size + 1, 3, none⟩ = some (.bool false) := cell_of_row w2 _ 3 _ _ _ A2
  have b3 : w2.cell? ⟨w.heap.size + 1 + 1, 3, none⟩ = some (.bool false) := cell_of_row w2 _ 3 _ _ _ B2
  have g0 : ∀ j, w2.frozen? ⟨w.heap.size + 1, j, none⟩ = false := fun j => frozen_of_row w2 _ j _ _ A2
  have g1 : ∀ j, w2.frozen? ⟨w.heap.size + 1 + 1, j, none⟩ = false := fun j => frozen_of_row w2 _ j _ _ B2
  clear HA HB A2 B2 k0 k1 k2 k3
  go_wp2
  refine wp_loop_rounds 5 ?_
  rw [rounds_succ]
  go_wp2
  rw [rounds_succ]
  go_wp2
  rw [rounds_succ]
  go_wp2
  rw [rounds_succ]
  go_wp2
  rw [rounds_succ]
  go_wp2
  exact bodyPost_ret (v := .tuple #[.agg #[.bool false, .bool false, .bool true, .bool true], .int .i64 0]) (by simp [results, Try.results24, go_sem, a0, a1, a2, a3]) rfl ⟨rfl, by repeat (first | with_reducible exact Below.refl _ _ | (with_reducible refine kSet ?_ ?hB _; case hB => (simp; try omega)) | with_reducible refine kAlloc ?_ _ | with_reducible refine Below.drew ?_ | with_reducible refine kDrewN ?_ _ | with_reducible refine kTrans ?_ (by assumption))⟩
set_option maxHeartbeats 2000000 in
theorem sph_15 (p : Pc) (s : Int) (w : World) (hp : p.in8) (hc : 0 = askC p s) (hk : 0 ≤ p.kind ∧ p.kind ≤ 5) (ht : 0 ≤ p.turn ∧ p.turn ≤ 3) (hs : 0 ≤ s ∧ s ≤ 3) (hv : rxB p.kind p.turn s = 15) :
    Calls Try.prog 24 #[.agg #[.int .i8 p.x, .int .i8 p.y, .int .i8 p.kind, .int .i8 p.turn, .int .i8 p.delay], .int .i64 s] w fun e w' => e = .returned (.tuple #[.agg #[.bool true, .bool true, .bool true, .bool true], .int .i64 0]) ∧ Below w.heap.size w w' := by
  have pb := (PcAt.box w p 38).below (w' := ((w.alloc (.cells #[.int .i8 p.x, .int .i8 p.y, .int .i8 p.kind, .int .i8 p.turn, .int .i8 p.delay] 38)).alloc (.cells #[.bool false, .bool false, .bool false, .bool false] 44)).alloc (.cells #[.bool false, .bool false, .bool false, .bool false] 44)) (by repeat (first | with_reducible exact Below.refl _ _ | (with_reducible refine kSet ?_ ?hB _; case hB => (simp; try omega)) | with_reducible refine kAlloc ?_ _ | with_reducible refine Below.drew ?_ | with_reducible refine kDrewN ?_ _ | with_reducible refine kTrans ?_ (by assumption))) (by simp)
  have Hc := Lib.hid hc
  have Hv := Lib.hid hv
  clear hc hv
  go_enter Try.func24, Try.ntmps24
  go_wp2_with fail
  refine (l01Asked_any p _ _ _ _ hp pb 0 Hc.out).mono ?_
  rintro e w1 ⟨rfl, hb⟩
  have hz : w.heap.size + 1 + 1 < w1.heap.size := by have := hb.size; simp at this; omega
  have pc := pb.below hb (by simp; omega)
  have n1 := heap_alloc_new (w.alloc (.cells #[.int .i8 p.x, .int .i8 p.y, .int .i8 p.kind, .int .i8 p.turn, .int .i8 p.delay] 38)) (.cells #[.bool false, .bool false, .bool false, .bool false] 44)
  have n2 := heap_alloc_new ((w.alloc (.cells #[.int .i8 p.x, .int .i8 p.y, .int .i8 p.kind, .int .i8 p.turn, .int .i8 p.delay] 38)).alloc (.cells #[.bool false, .bool false, .bool false, .bool false] 44)) (.cells #[.bool false, .bool false, .bool false, .bool false] 44)
  simp only [World.size_alloc] at n1 n2
  have A1 := (hb.block (w.heap.size + 1) (by simp)).trans ((Below.heap_alloc _ _ _ (by simp)).trans n1)
  have B1 := (hb.block (w.heap.size + 1 + 1) (by simp)).trans n2
  clear n1 n2
  have HA := Lib.hid A1
  have HB := Lib.hid B1
  have K1 : ∀ j, w1.cell? ⟨w.heap.size + 1 + 1, j, none⟩ = #[Value.bool false, .bool false, .bool false, .bool false][j]? := fun j => cell_of_row w1 _ j _ _ _ B1
  have k0 := K1 0
  have k1 := K1 1
  have k2 := K1 2
  have k3 := K1 3
  clear A1 B1 K1
  go_wp2_with fail
  refine (l01Hits_any p _ _ _ _ hk ht hs pc (by omega)).mono ?_
  rw [Hv.out]
  rintro e w2 ⟨rfl, hb2⟩
  have A2 := (hb2.block (w.heap.size + 1) (by omega)).trans HA.out
  have B2 := (hb2.block (w.heap.size + 1 + 1) hz).trans HB.out
  have a0 : w2.cell? ⟨w.heap.size + 1, 0, none⟩ = some (.bool false) := cell_of_row w2 _ 0 _ _ _ A2
  have b0 : w2.cell? ⟨w.heap.size + 1 + 1, 0, none⟩ = some (.bool false) := cell_of_row w2 _ 0 _ _ _ B2
  have a1 : w2.cell? ⟨w.heap.size + 1, 1, none⟩ = some (.bool false) := cell_of_row w2 _ 1 _ _ _ A2
  have b1 : w2.cell? ⟨w.heap.size + 1 + 1, 1, none⟩ = some (.bool false) := cell_of_row w2 _ 1 _ _ _ B2
  have a2 : w2.cell? ⟨w.heap.size + 1, 2, none⟩ = some (.bool false) := cell_of_row w2 _ 2 _ _ _ A2
  have b2 : w2.cell? ⟨w.heap.size + 1 + 1, 2, none⟩ = some (.bool false) := cell_of_row w2 _ 2 _ _ _ B2
  have a3 : w2.cell? ⟨w.heap.size + 1, 3, none⟩ = some (.bool false) := cell_of_row w2 _ 3 _ _ _ A2
  have b3 : w2.cell? ⟨w.heap.size + 1 + 1, 3, none⟩ = some (.bool false) := cell_of_row w2 _ 3 _ _ _ B2
  have g0 : ∀ j, w2.frozen? ⟨w.heap.size + 1, j, none⟩ = false := fun j => frozen_of_row w2 _ j _ _ A2
  have g1 : ∀ j, w2.frozen? ⟨w.heap.size + 1 + 1, j, none⟩ = false := fun j => frozen_of_row w2 _ j _ _ B2
  clear HA HB A2 B2 k0 k1 k2 k3
  go_wp2
  refine wp_loop_rounds 5 ?_
  rw [rounds_succ]
  go_wp2
  rw [rounds_succ]
  go_wp2
  rw [rounds_succ]
  go_wp2
  rw [rounds_succ]
  go_wp2
  rw [rounds_succ]
  go_wp2
  exact bodyPost_ret (v := .tuple #[.agg #[.bool true, .bool true, .bool true, .bool true], .int .i64 0]) (by simp [results, Try.results24, go_sem, a0, a1, a2, a3]) rfl ⟨rfl, by repeat (first | with_reducible exact Below.refl _ _ | (with_reducible refine kSet ?_ ?hB _; case hB => (simp; try omega)) | with_reducible refine kAlloc ?_ _ | with_reducible refine Below.drew ?_ | with_reducible refine kDrewN ?_ _ | with_reducible refine kTrans ?_ (by assumption))⟩
end Go.Proofs.Ytmmllagjeeinoaa
