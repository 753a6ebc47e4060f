/- Contracts of what a piece does that is hit: the model, turned by 1. -/
import Derived.Test.YtjdccompjibccaaShA
import Derived.Handy
import Derived.Deep.RegionHeld3
import Derived.IntWalk
namespace Go.Proofs.Ytjdccompjibccaa
open Go.ChangeShapes Go.WideShapes Go.ChangeAt Go.RowKit
set_option linter.unusedVariables false
set_option maxHeartbeats 4000000 in
theorem sh_m1_1 (b o : Nat) (x y k d s : Int) (w : World) (hk : 0 ≤ k ∧ k ≤ 5) (hs : 0 ≤ s ∧ s ≤ 3) (hc : PcAt w b o ⟨x, y, k, 1, d⟩) (hbl : b < w.heap.size) (hb : tabP k ((s + 4 - 1) % 4) = (-1)) :
    Calls Try.prog 8 #[.pointer (some ⟨b, o, none⟩), .int .i64 s] w fun r w' => r = .returned (.int .i64 (-1)) ∧ Below w.heap.size w w' := by
  obtain ⟨c0, c1, c2, c3, c4⟩ := hc
  simp only at c0 c1 c2 c3 c4
  have HB := Lib.hid hb
  have hr : ∀ w2 : World, (Instr.index 46 (.agg #[.int .i64 (-1), .int .i64 8, .int .i64 (-1), .int .i64 2, .int .i64 (-1), .int .i64 (-1), .int .i64 8, .int .i64 4, .int .i64 12, .int .i64 (-1), .int .i64 9, .int .i64 5, .int .i64 (-1), .int .i64 (-1), .int .i64 (-1), .int .i64 2, .int .i64 0, .int .i64 8, .int .i64 0, .int .i64 2, .int .i64 4, .int .i64 8, .int .i64 1, .int .i64 2]) (.int .i8 k)).run Try.prog w2 = .ok (.agg #[.int .i64 (tabP k 0), .int .i64 (tabP k 1), .int .i64 (tabP k 2), .int .i64 (tabP k 3)]) w2 := fun w2 => row_any k w2 hk
  have hi : ∀ w2 : World, (Instr.index 45 (.agg #[.int .i64 (tabP k 0), .int .i64 (tabP k 1), .int .i64 (tabP k 2), .int .i64 (tabP k 3)]) (.int .i64 ((s + 4 - 1).tmod 4))).run Try.prog w2 = .ok (.int .i64 (-1)) w2 := fun w2 => by rw [Int.tmod_eq_emod_of_nonneg (by omega), col_any k _ w2 (by omega)]; rw [show (s + 4 - 1) % 4 = (s + 4 - 1) % 4 by omega, hb]
  have e1 : IntKind.i64.wrap (s + 4) = s + 4 := IntWalk.i64_in _ (by omega)
  have e2 : IntKind.i64.wrap (s + 4 - 1) = s + 4 - 1 := IntWalk.i64_in _ (by omega)
  clear hb
  go_enter Try.func8, Try.ntmps8
  go_wp2
  go_region_held3 (fun w' => w'.cell? ⟨b, o + 2, none⟩ = some (.int .i8 k)) (go_keep)
    (first | (go_at_call 14; refine (l01Table_any _).mono ?_; rintro e w' ⟨rfl, hb1⟩; have hb2 := (hb1.cell (p := ⟨b, o + 2, none⟩) hbl).trans c2))
  have hb3 : Below w.heap.size w w' := kTrans (Below.drew (Below.refl _ w)) hb1
  clear e1 e2 hi hr hb1
  go_wp2
  go_ret
  exact ⟨rfl, hb3⟩
set_option maxHeartbeats 4000000 in
theorem sh_0_1 (b o : Nat) (x y k d s : Int) (w : World) (hk : 0 ≤ k ∧ k ≤ 5) (hs : 0 ≤ s ∧ s ≤ 3) (hc : PcAt w b o ⟨x, y, k, 1, d⟩) (hbl : b < w.heap.size) (hb : tabP k ((s + 4 - 1) % 4) = 0) :
    Calls Try.prog 8 #[.pointer (some ⟨b, o, none⟩), .int .i64 s] w fun r w' => r = .returned (.int .i64 0) ∧ Below w.heap.size w w' := by
  obtain ⟨c0, c1, c2, c3, c4⟩ := hc
  simp only at c0 c1 c2 c3 c4
  have HB := Lib.hid hb
  have hr : ∀ w2 : World, (Instr.index 46 (.agg #[.int .i64 (-1), .int .i64 8, .int .i64 (-1), .int .i64 2, .int .i64 (-1), .int .i64 (-1), .int .i64 8, .int .i64 4, .int .i64 12, .int .i64 (-1), .int .i64 9, .int .i64 5, .int .i64 (-1), .int .i64 (-1), .int .i64 (-1), .int .i64 2, .int .i64 0, .int .i64 8, .int .i64 0, .int .i64 2, .int .i64 4, .int .i64 8, .int .i64 1, .int .i64 2]) (.int .i8 k)).run Try.prog w2 = .ok (.agg #[.int .i64 (tabP k 0), .int .i64 (tabP k 1), .int .i64 (tabP k 2), .int .i64 (tabP k 3)]) w2 := fun w2 => row_any k w2 hk
  have hi : ∀ w2 : World, (Instr.index 45 (.agg #[.int .i64 (tabP k 0), .int .i64 (tabP k 1), .int .i64 (tabP k 2), .int .i64 (tabP k 3)]) (.int .i64 ((s + 4 - 1).tmod 4))).run Try.prog w2 = .ok (.int .i64 0) w2 := fun w2 => by rw [Int.tmod_eq_emod_of_nonneg (by omega), col_any k _ w2 (by omega)]; rw [show (s + 4 - 1) % 4 = (s + 4 - 1) % 4 by omega, hb]
  have e1 : IntKind.i64.wrap (s + 4) = s + 4 := IntWalk.i64_in _ (by omega)
  have e2 : IntKind.i64.wrap (s + 4 - 1) = s + 4 - 1 := IntWalk.i64_in _ (by omega)
  clear hb
  go_enter Try.func8, Try.ntmps8
  go_wp2
  go_region_held3 (fun w' => w'.cell? ⟨b, o + 2, none⟩ = some (.int .i8 k)) (go_keep)
    (first | (go_at_call 14; refine (l01Table_any _).mono ?_; rintro e w' ⟨rfl, hb1⟩; have hb2 := (hb1.cell (p := ⟨b, o + 2, none⟩) hbl).trans c2))
  have hb3 : Below w.heap.size w w' := kTrans (Below.drew (Below.refl _ w)) hb1
  clear e1 e2 hi hr hb1
  go_wp2
  refine wp_loop_rounds 5 ?_
  rw [rounds_succ]
  go_wp2
  rw [rounds_succ]
  go_wp2
  rw [rounds_succ]
  go_wp2
  rw [rounds_succ]
  go_wp2
  rw [rounds_succ]
  go_wp2
  go_ret
  exact ⟨rfl, hb3⟩
set_option maxHeartbeats 4000000 in
theorem sh_1_1 (b o : Nat) (x y k d s : Int) (w : World) (hk : 0 ≤ k ∧ k ≤ 5) (hs : 0 ≤ s ∧ s ≤ 3) (hc : PcAt w b o ⟨x, y, k, 1, d⟩) (hbl : b < w.heap.size) (hb : tabP k ((s + 4 - 1) % 4) = 1) :
    Calls Try.prog 8 #[.pointer (some ⟨b, o, none⟩), .int .i64 s] w fun r w' => r = .returned (.int .i64 2) ∧ Below w.heap.size w w' := by
  obtain ⟨c0, c1, c2, c3, c4⟩ := hc
  simp only at c0 c1 c2 c3 c4
  have HB := Lib.hid hb
  have hr : ∀ w2 : World, (Instr.index 46 (.agg #[.int .i64 (-1), .int .i64 8, .int .i64 (-1), .int .i64 2, .int .i64 (-1), .int .i64 (-1), .int .i64 8, .int .i64 4, .int .i64 12, .int .i64 (-1), .int .i64 9, .int .i64 5, .int .i64 (-1), .int .i64 (-1), .int .i64 (-1), .int .i64 2, .int .i64 0, .int .i64 8, .int .i64 0, .int .i64 2, .int .i64 4, .int .i64 8, .int .i64 1, .int .i64 2]) (.int .i8 k)).run Try.prog w2 = .ok (.agg #[.int .i64 (tabP k 0), .int .i64 (tabP k 1), .int .i64 (tabP k 2), .int .i64 (tabP k 3)]) w2 := fun w2 => row_any k w2 hk
  have hi : ∀ w2 : World, (Instr.index 45 (.agg #[.int .i64 (tabP k 0), .int .i64 (tabP k 1), .int .i64 (tabP k 2), .int .i64 (tabP k 3)]) (.int .i64 ((s + 4 - 1).tmod 4))).run Try.prog w2 = .ok (.int .i64 1) w2 := fun w2 => by rw [Int.tmod_eq_emod_of_nonneg (by omega), col_any k _ w2 (by omega)]; rw [show (s + 4 - 1) % 4 = (s + 4 - 1) % 4 by omega, hb]
  have e1 : IntKind.i64.wrap (s + 4) = s + 4 := IntWalk.i64_in _ (by omega)
  have e2 : IntKind.i64.wrap (s + 4 - 1) = s + 4 - 1 := IntWalk.i64_in _ (by omega)
  clear hb
  go_enter Try.func8, Try.ntmps8
  go_wp2
  go_region_held3 (fun w' => w'.cell? ⟨b, o + 2, none⟩ = some (.int .i8 k)) (go_keep)
    (first | (go_at_call 14; refine (l01Table_any _).mono ?_; rintro e w' ⟨rfl, hb1⟩; have hb2 := (hb1.cell (p := ⟨b, o + 2, none⟩) hbl).trans c2))
  have hb3 : Below w.heap.size w w' := kTrans (Below.drew (Below.refl _ w)) hb1
  clear e1 e2 hi hr hb1
  go_wp2
  refine wp_loop_rounds 5 ?_
  rw [rounds_succ]
  go_wp2
  rw [rounds_succ]
  go_wp2
  rw [rounds_succ]
  go_wp2
  rw [rounds_succ]
  go_wp2
  rw [rounds_succ]
  go_wp2
  go_ret
  exact ⟨rfl, hb3⟩
set_option maxHeartbeats 4000000 in
theorem sh_2_1 (b o : Nat) (x y k d s : Int) (w : World) (hk : 0 ≤ k ∧ k ≤ 5) (hs : 0 ≤ s ∧ s ≤ 3) (hc : PcAt w b o ⟨x, y, k, 1, d⟩) (hbl : b < w.heap.size) (hb : tabP k ((s + 4 - 1) % 4) = 2) :
    Calls Try.prog 8 #[.pointer (some ⟨b, o, none⟩), .int .i64 s] w fun r w' => r = .returned (.int .i64 4) ∧ Below w.heap.size w w' := by
  obtain ⟨c0, c1, c2, c3, c4⟩ := hc
  simp only at c0 c1 c2 c3 c4
  have HB := Lib.hid hb
  have hr : ∀ w2 : World, (Instr.index 46 (.agg #[.int .i64 (-1), .int .i64 8, .int .i64 (-1), .int .i64 2, .int .i64 (-1), .int .i64 (-1), .int .i64 8, .int .i64 4, .int .i64 12, .int .i64 (-1), .int .i64 9, .int .i64 5, .int .i64 (-1), .int .i64 (-1), .int .i64 (-1), .int .i64 2, .int .i64 0, .int .i64 8, .int .i64 0, .int .i64 2, .int .i64 4, .int .i64 8, .int .i64 1, .int .i64 2]) (.int .i8 k)).run Try.prog w2 = .ok (.agg #[.int .i64 (tabP k 0), .int .i64 (tabP k 1), .int .i64 (tabP k 2), .int .i64 (tabP k 3)]) w2 := fun w2 => row_any k w2 hk
  have hi : ∀ w2 : World, (Instr.index 45 (.agg #[.int .i64 (tabP k 0), .int .i64 (tabP k 1), .int .i64 (tabP k 2), .int .i64 (tabP k 3)]) (.int .i64 ((s + 4 - 1).tmod 4))).run Try.prog w2 = .ok (.int .i64 2) w2 := fun w2 => by rw [Int.tmod_eq_emod_of_nonneg (by omega), col_any k _ w2 (by omega)]; rw [show (s + 4 - 1) % 4 = (s + 4 - 1) % 4 by omega, hb]
  have e1 : IntKind.i64.wrap (s + 4) = s + 4 := IntWalk.i64_in _ (by omega)
  have e2 : IntKind.i64.wrap (s + 4 - 1) = s + 4 - 1 := IntWalk.i64_in _ (by omega)
  clear hb
  go_enter Try.func8, Try.ntmps8
  go_wp2
  go_region_held3 (fun w' => w'.cell? ⟨b, o + 2, none⟩ = some (.int .i8 k)) (go_keep)
    (first | (go_at_call 14; refine (l01Table_any _).mono ?_; rintro e w' ⟨rfl, hb1⟩; have hb2 := (hb1.cell (p := ⟨b, o + 2, none⟩) hbl).trans c2))
  have hb3 : Below w.heap.size w w' := kTrans (Below.drew (Below.refl _ w)) hb1
  clear e1 e2 hi hr hb1
  go_wp2
  refine wp_loop_rounds 5 ?_
  rw [rounds_succ]
  go_wp2
  rw [rounds_succ]
  go_wp2
  rw [rounds_succ]
  go_wp2
  rw [rounds_succ]
  go_wp2
  rw [rounds_succ]
  go_wp2
  go_ret
  exact ⟨rfl, hb3⟩
set_option maxHeartbeats 4000000 in
theorem sh_4_1 (b o : Nat) (x y k d s : Int) (w : World) (hk : 0 ≤ k ∧ k ≤ 5) (hs : 0 ≤ s ∧ s ≤ 3) (hc : PcAt w b o ⟨x, y, k, 1, d⟩) (hbl : b < w.heap.size) (hb : tabP k ((s + 4 - 1) % 4) = 4) :
    Calls Try.prog 8 #[.pointer (some ⟨b, o, none⟩), .int .i64 s] w fun r w' => r = .returned (.int .i64 8) ∧ Below w.heap.size w w' := by
  obtain ⟨c0, c1, c2, c3, c4⟩ := hc
  simp only at c0 c1 c2 c3 c4
  have HB := Lib.hid hb
  have hr : ∀ w2 : World, (Instr.index 46 (.agg #[.int .i64 (-1), .int .i64 8, .int .i64 (-1), .int .i64 2, .int .i64 (-1), .int .i64 (-1), .int .i64 8, .int .i64 4, .int .i64 12, .int .i64 (-1), .int .i64 9, .int .i64 5, .int .i64 (-1), .int .i64 (-1), .int .i64 (-1), .int .i64 2, .int .i64 0, .int .i64 8, .int .i64 0, .int .i64 2, .int .i64 4, .int .i64 8, .int .i64 1, .int .i64 2]) (.int .i8 k)).run Try.prog w2 = .ok (.agg #[.int .i64 (tabP k 0), .int .i64 (tabP k 1), .int .i64 (tabP k 2), .int .i64 (tabP k 3)]) w2 := fun w2 => row_any k w2 hk
  have hi : ∀ w2 : World, (Instr.index 45 (.agg #[.int .i64 (tabP k 0), .int .i64 (tabP k 1), .int .i64 (tabP k 2), .int .i64 (tabP k 3)]) (.int .i64 ((s + 4 - 1).tmod 4))).run Try.prog w2 = .ok (.int .i64 4) w2 := fun w2 => by rw [Int.tmod_eq_emod_of_nonneg (by omega), col_any k _ w2 (by omega)]; rw [show (s + 4 - 1) % 4 = (s + 4 - 1) % 4 by omega, hb]
  have e1 : IntKind.i64.wrap (s + 4) = s + 4 := IntWalk.i64_in _ (by omega)
  have e2 : IntKind.i64.wrap (s + 4 - 1) = s + 4 - 1 := IntWalk.i64_in _ (by omega)
  clear hb
  go_enter Try.func8, Try.ntmps8
  go_wp2
  go_region_held3 (fun w' => w'.cell? ⟨b, o + 2, none⟩ = some (.int .i8 k)) (go_keep)
    (first | (go_at_call 14; refine (l01Table_any _).mono ?_; rintro e w' ⟨rfl, hb1⟩; have hb2 := (hb1.cell (p := ⟨b, o + 2, none⟩) hbl).trans c2))
  have hb3 : Below w.heap.size w w' := kTrans (Below.drew (Below.refl _ w)) hb1
  clear e1 e2 hi hr hb1
  go_wp2
  refine wp_loop_rounds 5 ?_
  rw [rounds_succ]
  go_wp2
  rw [rounds_succ]
  go_wp2
  rw [rounds_succ]
  go_wp2
  rw [rounds_succ]
  go_wp2
  rw [rounds_succ]
  go_wp2
  go_ret
  exact ⟨rfl, hb3⟩
set_option maxHeartbeats 4000000 in
theorem sh_5_1 (b o : Nat) (x y k d s : Int) (w : World) (hk : 0 ≤ k ∧ k ≤ 5) (hs : 0 ≤ s ∧ s ≤ 3) (hc : PcAt w b o ⟨x, y, k, 1, d⟩) (hbl : b < w.heap.size) (hb : tabP k ((s + 4 - 1) % 4) = 5) :
    Calls Try.prog 8 #[.pointer (some ⟨b, o, none⟩), .int .i64 s] w fun r w' => r = .returned (.int .i64 10) ∧ Below w.heap.size w w' := by
  obtain ⟨c0, c1, c2, c3, c4⟩ := hc
  simp only at c0 c1 c2 c3 c4
  have HB := Lib.hid hb
  have hr : ∀ w2 : World, (Instr.index 46 (.agg #[.int .i64 (-1), .int .i64 8, .int .i64 (-1), .int .i64 2, .int .i64 (-1), .int .i64 (-1), .int .i64 8, .int .i64 4, .int .i64 12, .int .i64 (-1), .int .i64 9, .int .i64 5, .int .i64 (-1), .int .i64 (-1), .int .i64 (-1), .int .i64 2, .int .i64 0, .int .i64 8, .int .i64 0, .int .i64 2, .int .i64 4, .int .i64 8, .int .i64 1, .int .i64 2]) (.int .i8 k)).run Try.prog w2 = .ok (.agg #[.int .i64 (tabP k 0), .int .i64 (tabP k 1), .int .i64 (tabP k 2), .int .i64 (tabP k 3)]) w2 := fun w2 => row_any k w2 hk
  have hi : ∀ w2 : World, (Instr.index 45 (.agg #[.int .i64 (tabP k 0), .int .i64 (tabP k 1), .int .i64 (tabP k 2), .int .i64 (tabP k 3)]) (.int .i64 ((s + 4 - 1).tmod 4))).run Try.prog w2 = .ok (.int .i64 5) w2 := fun w2 => by rw [Int.tmod_eq_emod_of_nonneg (by omega), col_any k _ w2 (by omega)]; rw [show (s + 4 - 1) % 4 = (s + 4 - 1) % 4 by omega, hb]
  have e1 : IntKind.i64.wrap (s + 4) = s + 4 := IntWalk.i64_in _ (by omega)
  have e2 : IntKind.i64.wrap (s + 4 - 1) = s + 4 - 1 := IntWalk.i64_in _ (by omega)
  clear hb
  go_enter Try.func8, Try.ntmps8
  go_wp2
  go_region_held3 (fun w' => w'.cell? ⟨b, o + 2, none⟩ = some (.int .i8 k)) (go_keep)
    (first | (go_at_call 14; refine (l01Table_any _).mono ?_; rintro e w' ⟨rfl, hb1⟩; have hb2 := (hb1.cell (p := ⟨b, o + 2, none⟩) hbl).trans c2))
  have hb3 : Below w.heap.size w w' := kTrans (Below.drew (Below.refl _ w)) hb1
  clear e1 e2 hi hr hb1
  go_wp2
  refine wp_loop_rounds 5 ?_
  rw [rounds_succ]
  go_wp2
  rw [rounds_succ]
  go_wp2
  rw [rounds_succ]
  go_wp2
  rw [rounds_succ]
  go_wp2
  rw [rounds_succ]
  go_wp2
  go_ret
  exact ⟨rfl, hb3⟩
set_option maxHeartbeats 4000000 in
theorem sh_8_1 (b o : Nat) (x y k d s : Int) (w : World) (hk : 0 ≤ k ∧ k ≤ 5) (hs : 0 ≤ s ∧ s ≤ 3) (hc : PcAt w b o ⟨x, y, k, 1, d⟩) (hbl : b < w.heap.size) (hb : tabP k ((s + 4 - 1) % 4) = 8) :
    Calls Try.prog 8 #[.pointer (some ⟨b, o, none⟩), .int .i64 s] w fun r w' => r = .returned (.int .i64 1) ∧ Below w.heap.size w w' := by
  obtain ⟨c0, c1, c2, c3, c4⟩ := hc
  simp only at c0 c1 c2 c3 c4
  have HB := Lib.hid hb
  have hr : ∀ w2 : World, (Instr.index 46 (.agg #[.int .i64 (-1), .int .i64 8, .int .i64 (-1), .int .i64 2, .int .i64 (-1), .int .i64 (-1), .int .i64 8, .int .i64 4, .int .i64 12, .int .i64 (-1), .int .i64 9, .int .i64 5, .int .i64 (-1), .int .i64 (-1), .int .i64 (-1), .int .i64 2, .int .i64 0, .int .i64 8, .int .i64 0, .int .i64 2, .int .i64 4, .int .i64 8, .int .i64 1, .int .i64 2]) (.int .i8 k)).run Try.prog w2 = .ok (.agg #[.int .i64 (tabP k 0), .int .i64 (tabP k 1), .int .i64 (tabP k 2), .int .i64 (tabP k 3)]) w2 := fun w2 => row_any k w2 hk
  have hi : ∀ w2 : World, (Instr.index 45 (.agg #[.int .i64 (tabP k 0), .int .i64 (tabP k 1), .int .i64 (tabP k 2), .int .i64 (tabP k 3)]) (.int .i64 ((s + 4 - 1).tmod 4))).run Try.prog w2 = .ok (.int .i64 8) w2 := fun w2 => by rw [Int.tmod_eq_emod_of_nonneg (by omega), col_any k _ w2 (by omega)]; rw [show (s + 4 - 1) % 4 = (s + 4 - 1) % 4 by omega, hb]
  have e1 : IntKind.i64.wrap (s + 4) = s + 4 := IntWalk.i64_in _ (by omega)
  have e2 : IntKind.i64.wrap (s + 4 - 1) = s + 4 - 1 := IntWalk.i64_in _ (by omega)
  clear hb
  go_enter Try.func8, Try.ntmps8
  go_wp2
  go_region_held3 (fun w' => w'.cell? ⟨b, o + 2, none⟩ = some (.int .i8 k)) (go_keep)
    (first | (go_at_call 14; refine (l01Table_any _).mono ?_; rintro e w' ⟨rfl, hb1⟩; have hb2 := (hb1.cell (p := ⟨b, o + 2, none⟩) hbl).trans c2))
  have hb3 : Below w.heap.size w w' := kTrans (Below.drew (Below.refl _ w)) hb1
  clear e1 e2 hi hr hb1
  go_wp2
  refine wp_loop_rounds 5 ?_
  rw [rounds_succ]
  go_wp2
  rw [rounds_succ]
  go_wp2
  rw [rounds_succ]
  go_wp2
  rw [rounds_succ]
  go_wp2
  rw [rounds_succ]
  go_wp2
  go_ret
  exact ⟨rfl, hb3⟩
set_option maxHeartbeats 4000000 in
theorem sh_9_1 (b o : Nat) (x y k d s : Int) (w : World) (hk : 0 ≤ k ∧ k ≤ 5) (hs : 0 ≤ s ∧ s ≤ 3) (hc : PcAt w b o ⟨x, y, k, 1, d⟩) (hbl : b < w.heap.size) (hb : tabP k ((s + 4 - 1) % 4) = 9) :
    Calls Try.prog 8 #[.pointer (some ⟨b, o, none⟩), .int .i64 s] w fun r w' => r = .returned (.int .i64 3) ∧ Below w.heap.size w w' := by
  obtain ⟨c0, c1, c2, c3, c4⟩ := hc
  simp only at c0 c1 c2 c3 c4
  have HB := Lib.hid hb
  have hr : ∀ w2 : World, (Instr.index 46 (.agg #[.int .i64 (-1), .int .i64 8, .int .i64 (-1), .int .i64 2, .int .i64 (-1), .int .i64 (-1), .int .i64 8, .int .i64 4, .int .i64 12, .int .i64 (-1), .int .i64 9, .int .i64 5, .int .i64 (-1), .int .i64 (-1), .int .i64 (-1), .int .i64 2, .int .i64 0, .int .i64 8, .int .i64 0, .int .i64 2, .int .i64 4, .int .i64 8, .int .i64 1, .int .i64 2]) (.int .i8 k)).run Try.prog w2 = .ok (.agg #[.int .i64 (tabP k 0), .int .i64 (tabP k 1), .int .i64 (tabP k 2), .int .i64 (tabP k 3)]) w2 := fun w2 => row_any k w2 hk
  have hi : ∀ w2 : World, (Instr.index 45 (.agg #[.int .i64 (tabP k 0), .int .i64 (tabP k 1), .int .i64 (tabP k 2), .int .i64 (tabP k 3)]) (.int .i64 ((s + 4 - 1).tmod 4))).run Try.prog w2 = .ok (.int .i64 9) w2 := fun w2 => by rw [Int.tmod_eq_emod_of_nonneg (by omega), col_any k _ w2 (by omega)]; rw [show (s + 4 - 1) % 4 = (s + 4 - 1) % 4 by omega, hb]
  have e1 : IntKind.i64.wrap (s + 4) = s + 4 := IntWalk.i64_in _ (by omega)
  have e2 : IntKind.i64.wrap (s + 4 - 1) = s + 4 - 1 := IntWalk.i64_in _ (by omega)
  clear hb
  go_enter Try.func8, Try.ntmps8
  go_wp2
  go_region_held3 (fun w' => w'.cell? ⟨b, o + 2, none⟩ = some (.int .i8 k)) (go_keep)
    (first | (go_at_call 14; refine (l01Table_any _).mono ?_; rintro e w' ⟨rfl, hb1⟩; have hb2 := (hb1.cell (p := ⟨b, o + 2, none⟩) hbl).trans c2))
  have hb3 : Below w.heap.size w w' := kTrans (Below.drew (Below.refl _ w)) hb1
  clear e1 e2 hi hr hb1
  go_wp2
  refine wp_loop_rounds 5 ?_
  rw [rounds_succ]
  go_wp2
  rw [rounds_succ]
  go_wp2
  rw [rounds_succ]
  go_wp2
  rw [rounds_succ]
  go_wp2
  rw [rounds_succ]
  go_wp2
  go_ret
  exact ⟨rfl, hb3⟩
set_option maxHeartbeats 4000000 in
theorem sh_12_1 (b o : Nat) (x y k d s : Int) (w : World) (hk : 0 ≤ k ∧ k ≤ 5) (hs : 0 ≤ s ∧ s ≤ 3) (hc : PcAt w b o ⟨x, y, k, 1, d⟩) (hbl : b < w.heap.size) (hb : tabP k ((s + 4 - 1) % 4) = 12) :
    Calls Try.prog 8 #[.pointer (some ⟨b, o, none⟩), .int .i64 s] w fun r w' => r = .returned (.int .i64 9) ∧ Below w.heap.size w w' := by
  obtain ⟨c0, c1, c2, c3, c4⟩ := hc
  simp only at c0 c1 c2 c3 c4
  have HB := Lib.hid hb
  have hr : ∀ w2 : World, (Instr.index 46 (.agg #[.int .i64 (-1), .int .i64 8, .int .i64 (-1), .int .i64 2, .int .i64 (-1), .int .i64 (-1), .int .i64 8, .int .i64 4, .int .i64 12, .int .i64 (-1), .int .i64 9, .int .i64 5, .int .i64 (-1), .int .i64 (-1), .int .i64 (-1), .int .i64 2, .int .i64 0, .int .i64 8, .int .i64 0, .int .i64 2, .int .i64 4, .int .i64 8, .int .i64 1, .int .i64 2]) (.int .i8 k)).run Try.prog w2 = .ok (.agg #[.int .i64 (tabP k 0), .int .i64 (tabP k 1), .int .i64 (tabP k 2), .int .i64 (tabP k 3)]) w2 := fun w2 => row_any k w2 hk
  have hi : ∀ w2 : World, (Instr.index 45 (.agg #[.int .i64 (tabP k 0), .int .i64 (tabP k 1), .int .i64 (tabP k 2), .int .i64 (tabP k 3)]) (.int .i64 ((s + 4 - 1).tmod 4))).run Try.prog w2 = .ok (.int .i64 12) w2 := fun w2 => by rw [Int.tmod_eq_emod_of_nonneg (by omega), col_any k _ w2 (by omega)]; rw [show (s + 4 - 1) % 4 = (s + 4 - 1) % 4 by omega, hb]
  have e1 : IntKind.i64.wrap (s + 4) = s + 4 := IntWalk.i64_in _ (by omega)
  have e2 : IntKind.i64.wrap (s + 4 - 1) = s + 4 - 1 := IntWalk.i64_in _ (by omega)
  clear hb
  go_enter Try.func8, Try.ntmps8
  go_wp2
  go_region_held3 (fun w' => w'.cell? ⟨b, o + 2, none⟩ = some (.int .i8 k)) (go_keep)
    (first | (go_at_call 14; refine (l01Table_any _).mono ?_; rintro e w' ⟨rfl, hb1⟩; have hb2 := (hb1.cell (p := ⟨b, o + 2, none⟩) hbl).trans c2))
  have hb3 : Below w.heap.size w w' := kTrans (Below.drew (Below.refl _ w)) hb1
  clear e1 e2 hi hr hb1
  go_wp2
  refine wp_loop_rounds 5 ?_
  rw [rounds_succ]
  go_wp2
  rw [rounds_succ]
  go_wp2
  rw [rounds_succ]
  go_wp2
  rw [rounds_succ]
  go_wp2
  rw [rounds_succ]
  go_wp2
  go_ret
  exact ⟨rfl, hb3⟩
end Go.Proofs.Ytjdccompjibccaa
