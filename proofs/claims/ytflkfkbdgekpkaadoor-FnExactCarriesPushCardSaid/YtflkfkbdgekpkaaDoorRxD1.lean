/- Contracts of what a piece does that is hit: kind 1. -/
import Derived.Test.YtflkfkbdgekpkaaDoorG5
import Derived.Handy
namespace Go.Proofs.YtflkfkbdgekpkaaDoor
open Go.ChangeShapes Go.WideShapes Go.ChangeAt Go.RowKit
set_option linter.unusedVariables false
set_option maxHeartbeats 4000000 in
theorem rx_1_0_yes (x y d s E : Int) (w : World) (hs : 0 ≤ s ∧ s ≤ 3) (he : 0 ≤ E ∧ E ≤ 3) (hE : E = (s + 0) % 4) (hf : fallsP 1 E = true) :
    Calls Tryd.prog 41 #[.agg #[.int .i8 x, .int .i8 y, .int .i8 1, .int .i8 0, .int .i8 d], .int .i8 s] w fun r w' => r = .returned (.agg #[.bool true, .bool (hitsP 1 E 0), .bool (hitsP 1 E 1), .bool (hitsP 1 E 2), .bool (hitsP 1 E 3)]) ∧ Below w.heap.size w w' := by
  have HE := Lib.hid hE
  have HF := Lib.hid hf
  clear hE hf
  go_enter Tryd.func41, Tryd.ntmps41
  go_wp2_with fail
  refine (kindOf_any 1 _ (by omega)).mono ?_
  rintro r w1 ⟨rfl, hb1⟩
  have R1 := Lib.hid (rx_start hb1)
  obtain ⟨c0, c1, c2, c3, c4⟩ := R1.out.hp
  have z1 := R1.out.lt
  simp only [Nat.zero_add] at c0 c1 c2 c3 c4
  clear hb1
  go_wp2_with fail
  refine (wrapQuarters_any _ _ (by omega)).mono ?_
  rintro r w2 ⟨rfl, rfl⟩
  go_wp2_with fail
  refine (turned_to _ _ E _ hs (by omega) (by have := HE.out; omega)).mono ?_
  rintro r w2 ⟨rfl, hb2⟩
  unfold kindV
  go_wp2_with fail
  refine (falls_1 E _ he _ HF.out).mono ?_
  rintro r w3 ⟨rfl, hb3⟩
  have R3 := Lib.hid ((R1.out.below hb2).below hb3)
  have z3 := R3.out.lt
  clear c0 c1 c2 c3 c4 hb2 hb3 R1 z1
  go_wp2_with fail
  refine (hitsK_1 E _ he).mono ?_
  rintro r w4 ⟨rfl, hb4⟩
  have R4 := Lib.hid (rs_start R3.out hb4)
  obtain ⟨c0, c1, c2, c3, c4⟩ := R4.out.x.hp
  simp only [Nat.zero_add] at c0 c1 c2 c3 c4
  clear hb4 R3
  have i0 := idx4_0
  have i1 := idx4_1
  have i2 := idx4_2
  have i3 := idx4_3
  go_wp2
  refine wp_loop_rounds 5 ?_
  rw [rounds_succ]
  go_wp2_with fail
  refine (turned_to 0 0 0 _ (by omega) (by omega) (by omega)).mono ?_
  rintro r w5 ⟨rfl, hb5⟩
  have R5 := Lib.hid (R4.out.below hb5)
  clear c0 c1 c2 c3 c4 R4 hb5
  obtain ⟨c0, c1, c2, c3, c4⟩ := R5.out.x.hp
  obtain ⟨d0, d1, d2, d3, d4, f0, f1, f2, f3, f4⟩ := R5.out.hr.all
  simp only [Nat.zero_add] at c0 c1 c2 c3 c4
  simp only [yesR, reduceIte, Nat.reduceEqDiff] at d0 d1 d2 d3 d4
  go_wp2
  rw [rounds_succ]
  go_wp2_with fail
  refine (turned_to 1 0 1 _ (by omega) (by omega) (by omega)).mono ?_
  rintro r w6 ⟨rfl, hb6⟩
  have R6 := Lib.hid (R5.out.next hb6)
  clear c0 c1 c2 c3 c4 d0 d1 d2 d3 d4 f0 f1 f2 f3 f4 R5 hb6
  obtain ⟨c0, c1, c2, c3, c4⟩ := R6.out.x.hp
  obtain ⟨d0, d1, d2, d3, d4, f0, f1, f2, f3, f4⟩ := R6.out.hr.all
  simp only [Nat.zero_add] at c0 c1 c2 c3 c4
  simp only [yesR, reduceIte, Nat.reduceEqDiff] at d0 d1 d2 d3 d4
  go_wp2
  rw [rounds_succ]
  go_wp2_with fail
  refine (turned_to 2 0 2 _ (by omega) (by omega) (by omega)).mono ?_
  rintro r w7 ⟨rfl, hb7⟩
  have R7 := Lib.hid (R6.out.next hb7)
  clear c0 c1 c2 c3 c4 d0 d1 d2 d3 d4 f0 f1 f2 f3 f4 R6 hb7
  obtain ⟨c0, c1, c2, c3, c4⟩ := R7.out.x.hp
  obtain ⟨d0, d1, d2, d3, d4, f0, f1, f2, f3, f4⟩ := R7.out.hr.all
  simp only [Nat.zero_add] at c0 c1 c2 c3 c4
  simp only [yesR, reduceIte, Nat.reduceEqDiff] at d0 d1 d2 d3 d4
  go_wp2
  rw [rounds_succ]
  go_wp2_with fail
  refine (turned_to 3 0 3 _ (by omega) (by omega) (by omega)).mono ?_
  rintro r w8 ⟨rfl, hb8⟩
  have R8 := Lib.hid (R7.out.next hb8)
  clear c0 c1 c2 c3 c4 d0 d1 d2 d3 d4 f0 f1 f2 f3 f4 R7 hb8
  obtain ⟨c0, c1, c2, c3, c4⟩ := R8.out.x.hp
  obtain ⟨d0, d1, d2, d3, d4, f0, f1, f2, f3, f4⟩ := R8.out.hr.all
  simp only [Nat.zero_add] at c0 c1 c2 c3 c4
  simp only [yesR, reduceIte, Nat.reduceEqDiff] at d0 d1 d2 d3 d4
  go_wp2
  obtain ⟨a0, a1, a2, a3, a4, g0, g1, g2, g3, g4⟩ := R8.out.x.ha.all
  simp only [noR] at a0 a1 a2 a3 a4
  have gap := R8.out.gap
  have ne1 : w3.heap.size ≠ w.heap.size := by omega
  have ne2 : w3.heap.size ≠ w.heap.size + 1 := by omega
  have hk8 := R8.out.x.hk
  clear R8
  rw [rounds_succ]
  go_wp2
  exact bodyPost_ret (v := .agg #[.bool true, .bool (hitsP 1 E 0), .bool (hitsP 1 E 1), .bool (hitsP 1 E 2), .bool (hitsP 1 E 3)]) (by simp [results, Tryd.results41, go_sem, a0, a1, a2, a3, a4]) rfl ⟨rfl, by repeat (first | with_reducible exact Below.refl _ _ | (with_reducible refine kSet ?_ ?hB _; case hB => (simp; try omega)) | with_reducible refine kAlloc ?_ _ | with_reducible refine Below.drew ?_ | with_reducible refine kDrewN ?_ _ | with_reducible refine kTrans ?_ (by assumption))⟩
set_option maxHeartbeats 4000000 in
theorem rx_1_0_no (x y d s E : Int) (w : World) (hs : 0 ≤ s ∧ s ≤ 3) (he : 0 ≤ E ∧ E ≤ 3) (hE : E = (s + 0) % 4) (hf : fallsP 1 E = false) :
    Calls Tryd.prog 41 #[.agg #[.int .i8 x, .int .i8 y, .int .i8 1, .int .i8 0, .int .i8 d], .int .i8 s] w fun r w' => r = .returned (.agg #[.bool false, .bool false, .bool false, .bool false, .bool false]) ∧ Below w.heap.size w w' := by
  have HE := Lib.hid hE
  have HF := Lib.hid hf
  clear hE hf
  go_enter Tryd.func41, Tryd.ntmps41
  go_wp2_with fail
  refine (kindOf_any 1 _ (by omega)).mono ?_
  rintro r w1 ⟨rfl, hb1⟩
  have R1 := Lib.hid (rx_start hb1)
  obtain ⟨c0, c1, c2, c3, c4⟩ := R1.out.hp
  have z1 := R1.out.lt
  simp only [Nat.zero_add] at c0 c1 c2 c3 c4
  clear hb1
  go_wp2_with fail
  refine (wrapQuarters_any _ _ (by omega)).mono ?_
  rintro r w2 ⟨rfl, rfl⟩
  go_wp2_with fail
  refine (turned_to _ _ E _ hs (by omega) (by have := HE.out; omega)).mono ?_
  rintro r w2 ⟨rfl, hb2⟩
  unfold kindV
  go_wp2_with fail
  refine (falls_1 E _ he _ HF.out).mono ?_
  rintro r w3 ⟨rfl, hb3⟩
  have R3 := Lib.hid ((R1.out.below hb2).below hb3)
  have z3 := R3.out.lt
  clear c0 c1 c2 c3 c4 hb2 hb3 R1 z1
  obtain ⟨a0, a1, a2, a3, a4, f0, f1, f2, f3, f4⟩ := R3.out.ha.all
  simp only [noR] at a0 a1 a2 a3 a4
  have T3 := R3.out.hk
  go_wp2
  exact bodyPost_ret (v := .agg #[.bool false, .bool false, .bool false, .bool false, .bool false]) (by simp [results, Tryd.results41, go_sem, a0, a1, a2, a3, a4]) rfl ⟨rfl, by repeat (first | with_reducible exact Below.refl _ _ | (with_reducible refine kSet ?_ ?hB _; case hB => (simp; try omega)) | with_reducible refine kAlloc ?_ _ | with_reducible refine Below.drew ?_ | with_reducible refine kDrewN ?_ _ | with_reducible refine kTrans ?_ (by assumption))⟩
set_option maxHeartbeats 4000000 in
theorem rx_1_1_yes (x y d s E : Int) (w : World) (hs : 0 ≤ s ∧ s ≤ 3) (he : 0 ≤ E ∧ E ≤ 3) (hE : E = (s + 3) % 4) (hf : fallsP 1 E = true) :
    Calls Tryd.prog 41 #[.agg #[.int .i8 x, .int .i8 y, .int .i8 1, .int .i8 1, .int .i8 d], .int .i8 s] w fun r w' => r = .returned (.agg #[.bool true, .bool (hitsP 1 E 3), .bool (hitsP 1 E 0), .bool (hitsP 1 E 1), .bool (hitsP 1 E 2)]) ∧ Below w.heap.size w w' := by
  have HE := Lib.hid hE
  have HF := Lib.hid hf
  clear hE hf
  go_enter Tryd.func41, Tryd.ntmps41
  go_wp2_with fail
  refine (kindOf_any 1 _ (by omega)).mono ?_
  rintro r w1 ⟨rfl, hb1⟩
  have R1 := Lib.hid (rx_start hb1)
  obtain ⟨c0, c1, c2, c3, c4⟩ := R1.out.hp
  have z1 := R1.out.lt
  simp only [Nat.zero_add] at c0 c1 c2 c3 c4
  clear hb1
  go_wp2_with fail
  refine (wrapQuarters_any _ _ (by omega)).mono ?_
  rintro r w2 ⟨rfl, rfl⟩
  go_wp2_with fail
  refine (turned_to _ _ E _ hs (by omega) (by have := HE.out; omega)).mono ?_
  rintro r w2 ⟨rfl, hb2⟩
  unfold kindV
  go_wp2_with fail
  refine (falls_1 E _ he _ HF.out).mono ?_
  rintro r w3 ⟨rfl, hb3⟩
  have R3 := Lib.hid ((R1.out.below hb2).below hb3)
  have z3 := R3.out.lt
  clear c0 c1 c2 c3 c4 hb2 hb3 R1 z1
  go_wp2_with fail
  refine (hitsK_1 E _ he).mono ?_
  rintro r w4 ⟨rfl, hb4⟩
  have R4 := Lib.hid (rs_start R3.out hb4)
  obtain ⟨c0, c1, c2, c3, c4⟩ := R4.out.x.hp
  simp only [Nat.zero_add] at c0 c1 c2 c3 c4
  clear hb4 R3
  have i0 := idx4_0
  have i1 := idx4_1
  have i2 := idx4_2
  have i3 := idx4_3
  go_wp2
  refine wp_loop_rounds 5 ?_
  rw [rounds_succ]
  go_wp2_with fail
  refine (turned_to 0 1 1 _ (by omega) (by omega) (by omega)).mono ?_
  rintro r w5 ⟨rfl, hb5⟩
  have R5 := Lib.hid (R4.out.below hb5)
  clear c0 c1 c2 c3 c4 R4 hb5
  obtain ⟨c0, c1, c2, c3, c4⟩ := R5.out.x.hp
  obtain ⟨d0, d1, d2, d3, d4, f0, f1, f2, f3, f4⟩ := R5.out.hr.all
  simp only [Nat.zero_add] at c0 c1 c2 c3 c4
  simp only [yesR, reduceIte, Nat.reduceEqDiff] at d0 d1 d2 d3 d4
  go_wp2
  rw [rounds_succ]
  go_wp2_with fail
  refine (turned_to 1 1 2 _ (by omega) (by omega) (by omega)).mono ?_
  rintro r w6 ⟨rfl, hb6⟩
  have R6 := Lib.hid (R5.out.next hb6)
  clear c0 c1 c2 c3 c4 d0 d1 d2 d3 d4 f0 f1 f2 f3 f4 R5 hb6
  obtain ⟨c0, c1, c2, c3, c4⟩ := R6.out.x.hp
  obtain ⟨d0, d1, d2, d3, d4, f0, f1, f2, f3, f4⟩ := R6.out.hr.all
  simp only [Nat.zero_add] at c0 c1 c2 c3 c4
  simp only [yesR, reduceIte, Nat.reduceEqDiff] at d0 d1 d2 d3 d4
  go_wp2
  rw [rounds_succ]
  go_wp2_with fail
  refine (turned_to 2 1 3 _ (by omega) (by omega) (by omega)).mono ?_
  rintro r w7 ⟨rfl, hb7⟩
  have R7 := Lib.hid (R6.out.next hb7)
  clear c0 c1 c2 c3 c4 d0 d1 d2 d3 d4 f0 f1 f2 f3 f4 R6 hb7
  obtain ⟨c0, c1, c2, c3, c4⟩ := R7.out.x.hp
  obtain ⟨d0, d1, d2, d3, d4, f0, f1, f2, f3, f4⟩ := R7.out.hr.all
  simp only [Nat.zero_add] at c0 c1 c2 c3 c4
  simp only [yesR, reduceIte, Nat.reduceEqDiff] at d0 d1 d2 d3 d4
  go_wp2
  rw [rounds_succ]
  go_wp2_with fail
  refine (turned_to 3 1 0 _ (by omega) (by omega) (by omega)).mono ?_
  rintro r w8 ⟨rfl, hb8⟩
  have R8 := Lib.hid (R7.out.next hb8)
  clear c0 c1 c2 c3 c4 d0 d1 d2 d3 d4 f0 f1 f2 f3 f4 R7 hb8
  obtain ⟨c0, c1, c2, c3, c4⟩ := R8.out.x.hp
  obtain ⟨d0, d1, d2, d3, d4, f0, f1, f2, f3, f4⟩ := R8.out.hr.all
  simp only [Nat.zero_add] at c0 c1 c2 c3 c4
  simp only [yesR, reduceIte, Nat.reduceEqDiff] at d0 d1 d2 d3 d4
  go_wp2
  obtain ⟨a0, a1, a2, a3, a4, g0, g1, g2, g3, g4⟩ := R8.out.x.ha.all
  simp only [noR] at a0 a1 a2 a3 a4
  have gap := R8.out.gap
  have ne1 : w3.heap.size ≠ w.heap.size := by omega
  have ne2 : w3.heap.size ≠ w.heap.size + 1 := by omega
  have hk8 := R8.out.x.hk
  clear R8
  rw [rounds_succ]
  go_wp2
  exact bodyPost_ret (v := .agg #[.bool true, .bool (hitsP 1 E 3), .bool (hitsP 1 E 0), .bool (hitsP 1 E 1), .bool (hitsP 1 E 2)]) (by simp [results, Tryd.results41, go_sem, a0, a1, a2, a3, a4]) rfl ⟨rfl, by repeat (first | with_reducible exact Below.refl _ _ | (with_reducible refine kSet ?_ ?hB _; case hB => (simp; try omega)) | with_reducible refine kAlloc ?_ _ | with_reducible refine Below.drew ?_ | with_reducible refine kDrewN ?_ _ | with_reducible refine kTrans ?_ (by assumption))⟩
set_option maxHeartbeats 4000000 in
theorem rx_1_1_no (x y d s E : Int) (w : World) (hs : 0 ≤ s ∧ s ≤ 3) (he : 0 ≤ E ∧ E ≤ 3) (hE : E = (s + 3) % 4) (hf : fallsP 1 E = false) :
    Calls Tryd.prog 41 #[.agg #[.int .i8 x, .int .i8 y, .int .i8 1, .int .i8 1, .int .i8 d], .int .i8 s] w fun r w' => r = .returned (.agg #[.bool false, .bool false, .bool false, .bool false, .bool false]) ∧ Below w.heap.size w w' := by
  have HE := Lib.hid hE
  have HF := Lib.hid hf
  clear hE hf
  go_enter Tryd.func41, Tryd.ntmps41
  go_wp2_with fail
  refine (kindOf_any 1 _ (by omega)).mono ?_
  rintro r w1 ⟨rfl, hb1⟩
  have R1 := Lib.hid (rx_start hb1)
  obtain ⟨c0, c1, c2, c3, c4⟩ := R1.out.hp
  have z1 := R1.out.lt
  simp only [Nat.zero_add] at c0 c1 c2 c3 c4
  clear hb1
  go_wp2_with fail
  refine (wrapQuarters_any _ _ (by omega)).mono ?_
  rintro r w2 ⟨rfl, rfl⟩
  go_wp2_with fail
  refine (turned_to _ _ E _ hs (by omega) (by have := HE.out; omega)).mono ?_
  rintro r w2 ⟨rfl, hb2⟩
  unfold kindV
  go_wp2_with fail
  refine (falls_1 E _ he _ HF.out).mono ?_
  rintro r w3 ⟨rfl, hb3⟩
  have R3 := Lib.hid ((R1.out.below hb2).below hb3)
  have z3 := R3.out.lt
  clear c0 c1 c2 c3 c4 hb2 hb3 R1 z1
  obtain ⟨a0, a1, a2, a3, a4, f0, f1, f2, f3, f4⟩ := R3.out.ha.all
  simp only [noR] at a0 a1 a2 a3 a4
  have T3 := R3.out.hk
  go_wp2
  exact bodyPost_ret (v := .agg #[.bool false, .bool false, .bool false, .bool false, .bool false]) (by simp [results, Tryd.results41, go_sem, a0, a1, a2, a3, a4]) rfl ⟨rfl, by repeat (first | with_reducible exact Below.refl _ _ | (with_reducible refine kSet ?_ ?hB _; case hB => (simp; try omega)) | with_reducible refine kAlloc ?_ _ | with_reducible refine Below.drew ?_ | with_reducible refine kDrewN ?_ _ | with_reducible refine kTrans ?_ (by assumption))⟩
set_option maxHeartbeats 4000000 in
theorem rx_1_2_yes (x y d s E : Int) (w : World) (hs : 0 ≤ s ∧ s ≤ 3) (he : 0 ≤ E ∧ E ≤ 3) (hE : E = (s + 2) % 4) (hf : fallsP 1 E = true) :
    Calls Tryd.prog 41 #[.agg #[.int .i8 x, .int .i8 y, .int .i8 1, .int .i8 2, .int .i8 d], .int .i8 s] w fun r w' => r = .returned (.agg #[.bool true, .bool (hitsP 1 E 2), .bool (hitsP 1 E 3), .bool (hitsP 1 E 0), .bool (hitsP 1 E 1)]) ∧ Below w.heap.size w w' := by
  have HE := Lib.hid hE
  have HF := Lib.hid hf
  clear hE hf
  go_enter Tryd.func41, Tryd.ntmps41
  go_wp2_with fail
  refine (kindOf_any 1 _ (by omega)).mono ?_
  rintro r w1 ⟨rfl, hb1⟩
  have R1 := Lib.hid (rx_start hb1)
  obtain ⟨c0, c1, c2, c3, c4⟩ := R1.out.hp
  have z1 := R1.out.lt
  simp only [Nat.zero_add] at c0 c1 c2 c3 c4
  clear hb1
  go_wp2_with fail
  refine (wrapQuarters_any _ _ (by omega)).mono ?_
  rintro r w2 ⟨rfl, rfl⟩
  go_wp2_with fail
  refine (turned_to _ _ E _ hs (by omega) (by have := HE.out; omega)).mono ?_
  rintro r w2 ⟨rfl, hb2⟩
  unfold kindV
  go_wp2_with fail
  refine (falls_1 E _ he _ HF.out).mono ?_
  rintro r w3 ⟨rfl, hb3⟩
  have R3 := Lib.hid ((R1.out.below hb2).below hb3)
  have z3 := R3.out.lt
  clear c0 c1 c2 c3 c4 hb2 hb3 R1 z1
  go_wp2_with fail
  refine (hitsK_1 E _ he).mono ?_
  rintro r w4 ⟨rfl, hb4⟩
  have R4 := Lib.hid (rs_start R3.out hb4)
  obtain ⟨c0, c1, c2, c3, c4⟩ := R4.out.x.hp
  simp only [Nat.zero_add] at c0 c1 c2 c3 c4
  clear hb4 R3
  have i0 := idx4_0
  have i1 := idx4_1
  have i2 := idx4_2
  have i3 := idx4_3
  go_wp2
  refine wp_loop_rounds 5 ?_
  rw [rounds_succ]
  go_wp2_with fail
  refine (turned_to 0 2 2 _ (by omega) (by omega) (by omega)).mono ?_
  rintro r w5 ⟨rfl, hb5⟩
  have R5 := Lib.hid (R4.out.below hb5)
  clear c0 c1 c2 c3 c4 R4 hb5
  obtain ⟨c0, c1, c2, c3, c4⟩ := R5.out.x.hp
  obtain ⟨d0, d1, d2, d3, d4, f0, f1, f2, f3, f4⟩ := R5.out.hr.all
  simp only [Nat.zero_add] at c0 c1 c2 c3 c4
  simp only [yesR, reduceIte, Nat.reduceEqDiff] at d0 d1 d2 d3 d4
  go_wp2
  rw [rounds_succ]
  go_wp2_with fail
  refine (turned_to 1 2 3 _ (by omega) (by omega) (by omega)).mono ?_
  rintro r w6 ⟨rfl, hb6⟩
  have R6 := Lib.hid (R5.out.next hb6)
  clear c0 c1 c2 c3 c4 d0 d1 d2 d3 d4 f0 f1 f2 f3 f4 R5 hb6
  obtain ⟨c0, c1, c2, c3, c4⟩ := R6.out.x.hp
  obtain ⟨d0, d1, d2, d3, d4, f0, f1, f2, f3, f4⟩ := R6.out.hr.all
  simp only [Nat.zero_add] at c0 c1 c2 c3 c4
  simp only [yesR, reduceIte, Nat.reduceEqDiff] at d0 d1 d2 d3 d4
  go_wp2
  rw [rounds_succ]
  go_wp2_with fail
  refine (turned_to 2 2 0 _ (by omega) (by omega) (by omega)).mono ?_
  rintro r w7 ⟨rfl, hb7⟩
  have R7 := Lib.hid (R6.out.next hb7)
  clear c0 c1 c2 c3 c4 d0 d1 d2 d3 d4 f0 f1 f2 f3 f4 R6 hb7
  obtain ⟨c0, c1, c2, c3, c4⟩ := R7.out.x.hp
  obtain ⟨d0, d1, d2, d3, d4, f0, f1, f2, f3, f4⟩ := R7.out.hr.all
  simp only [Nat.zero_add] at c0 c1 c2 c3 c4
  simp only [yesR, reduceIte, Nat.reduceEqDiff] at d0 d1 d2 d3 d4
  go_wp2
  rw [rounds_succ]
  go_wp2_with fail
  refine (turned_to 3 2 1 _ (by omega) (by omega) (by omega)).mono ?_
  rintro r w8 ⟨rfl, hb8⟩
  have R8 := Lib.hid (R7.out.next hb8)
  clear c0 c1 c2 c3 c4 d0 d1 d2 d3 d4 f0 f1 f2 f3 f4 R7 hb8
  obtain ⟨c0, c1, c2, c3, c4⟩ := R8.out.x.hp
  obtain ⟨d0, d1, d2, d3, d4, f0, f1, f2, f3, f4⟩ := R8.out.hr.all
  simp only [Nat.zero_add] at c0 c1 c2 c3 c4
  simp only [yesR, reduceIte, Nat.reduceEqDiff] at d0 d1 d2 d3 d4
  go_wp2
  obtain ⟨a0, a1, a2, a3, a4, g0, g1, g2, g3, g4⟩ := R8.out.x.ha.all
  simp only [noR] at a0 a1 a2 a3 a4
  have gap := R8.out.gap
  have ne1 : w3.heap.size ≠ w.heap.size := by omega
  have ne2 : w3.heap.size ≠ w.heap.size + 1 := by omega
  have hk8 := R8.out.x.hk
  clear R8
  rw [rounds_succ]
  go_wp2
  exact bodyPost_ret (v := .agg #[.bool true, .bool (hitsP 1 E 2), .bool (hitsP 1 E 3), .bool (hitsP 1 E 0), .bool (hitsP 1 E 1)]) (by simp [results, Tryd.results41, go_sem, a0, a1, a2, a3, a4]) rfl ⟨rfl, by repeat (first | with_reducible exact Below.refl _ _ | (with_reducible refine kSet ?_ ?hB _; case hB => (simp; try omega)) | with_reducible refine kAlloc ?_ _ | with_reducible refine Below.drew ?_ | with_reducible refine kDrewN ?_ _ | with_reducible refine kTrans ?_ (by assumption))⟩
set_option maxHeartbeats 4000000 in
theorem rx_1_2_no (x y d s E : Int) (w : World) (hs : 0 ≤ s ∧ s ≤ 3) (he : 0 ≤ E ∧ E ≤ 3) (hE : E = (s + 2) % 4) (hf : fallsP 1 E = false) :
    Calls Tryd.prog 41 #[.agg #[.int .i8 x, .int .i8 y, .int .i8 1, .int .i8 2, .int .i8 d], .int .i8 s] w fun r w' => r = .returned (.agg #[.bool false, .bool false, .bool false, .bool false, .bool false]) ∧ Below w.heap.size w w' := by
  have HE := Lib.hid hE
  have HF := Lib.hid hf
  clear hE hf
  go_enter Tryd.func41, Tryd.ntmps41
  go_wp2_with fail
  refine (kindOf_any 1 _ (by omega)).mono ?_
  rintro r w1 ⟨rfl, hb1⟩
  have R1 := Lib.hid (rx_start hb1)
  obtain ⟨c0, c1, c2, c3, c4⟩ := R1.out.hp
  have z1 := R1.out.lt
  simp only [Nat.zero_add] at c0 c1 c2 c3 c4
  clear hb1
  go_wp2_with fail
  refine (wrapQuarters_any _ _ (by omega)).mono ?_
  rintro r w2 ⟨rfl, rfl⟩
  go_wp2_with fail
  refine (turned_to _ _ E _ hs (by omega) (by have := HE.out; omega)).mono ?_
  rintro r w2 ⟨rfl, hb2⟩
  unfold kindV
  go_wp2_with fail
  refine (falls_1 E _ he _ HF.out).mono ?_
  rintro r w3 ⟨rfl, hb3⟩
  have R3 := Lib.hid ((R1.out.below hb2).below hb3)
  have z3 := R3.out.lt
  clear c0 c1 c2 c3 c4 hb2 hb3 R1 z1
  obtain ⟨a0, a1, a2, a3, a4, f0, f1, f2, f3, f4⟩ := R3.out.ha.all
  simp only [noR] at a0 a1 a2 a3 a4
  have T3 := R3.out.hk
  go_wp2
  exact bodyPost_ret (v := .agg #[.bool false, .bool false, .bool false, .bool false, .bool false]) (by simp [results, Tryd.results41, go_sem, a0, a1, a2, a3, a4]) rfl ⟨rfl, by repeat (first | with_reducible exact Below.refl _ _ | (with_reducible refine kSet ?_ ?hB _; case hB => (simp; try omega)) | with_reducible refine kAlloc ?_ _ | with_reducible refine Below.drew ?_ | with_reducible refine kDrewN ?_ _ | with_reducible refine kTrans ?_ (by assumption))⟩
set_option maxHeartbeats 4000000 in
theorem rx_1_3_yes (x y d s E : Int) (w : World) (hs : 0 ≤ s ∧ s ≤ 3) (he : 0 ≤ E ∧ E ≤ 3) (hE : E = (s + 1) % 4) (hf : fallsP 1 E = true) :
    Calls Tryd.prog 41 #[.agg #[.int .i8 x, .int .i8 y, .int .i8 1, .int .i8 3, .int .i8 d], .int .i8 s] w fun r w' => r = .returned (.agg #[.bool true, .bool (hitsP 1 E 1), .bool (hitsP 1 E 2), .bool (hitsP 1 E 3), .bool (hitsP 1 E 0)]) ∧ Below w.heap.size w w' := by
  have HE := Lib.hid hE
  have HF := Lib.hid hf
  clear hE hf
  go_enter Tryd.func41, Tryd.ntmps41
  go_wp2_with fail
  refine (kindOf_any 1 _ (by omega)).mono ?_
  rintro r w1 ⟨rfl, hb1⟩
  have R1 := Lib.hid (rx_start hb1)
  obtain ⟨c0, c1, c2, c3, c4⟩ := R1.out.hp
  have z1 := R1.out.lt
  simp only [Nat.zero_add] at c0 c1 c2 c3 c4
  clear hb1
  go_wp2_with fail
  refine (wrapQuarters_any _ _ (by omega)).mono ?_
  rintro r w2 ⟨rfl, rfl⟩
  go_wp2_with fail
  refine (turned_to _ _ E _ hs (by omega) (by have := HE.out; omega)).mono ?_
  rintro r w2 ⟨rfl, hb2⟩
  unfold kindV
  go_wp2_with fail
  refine (falls_1 E _ he _ HF.out).mono ?_
  rintro r w3 ⟨rfl, hb3⟩
  have R3 := Lib.hid ((R1.out.below hb2).below hb3)
  have z3 := R3.out.lt
  clear c0 c1 c2 c3 c4 hb2 hb3 R1 z1
  go_wp2_with fail
  refine (hitsK_1 E _ he).mono ?_
  rintro r w4 ⟨rfl, hb4⟩
  have R4 := Lib.hid (rs_start R3.out hb4)
  obtain ⟨c0, c1, c2, c3, c4⟩ := R4.out.x.hp
  simp only [Nat.zero_add] at c0 c1 c2 c3 c4
  clear hb4 R3
  have i0 := idx4_0
  have i1 := idx4_1
  have i2 := idx4_2
  have i3 := idx4_3
  go_wp2
  refine wp_loop_rounds 5 ?_
  rw [rounds_succ]
  go_wp2_with fail
  refine (turned_to 0 3 3 _ (by omega) (by omega) (by omega)).mono ?_
  rintro r w5 ⟨rfl, hb5⟩
  have R5 := Lib.hid (R4.out.below hb5)
  clear c0 c1 c2 c3 c4 R4 hb5
  obtain ⟨c0, c1, c2, c3, c4⟩ := R5.out.x.hp
  obtain ⟨d0, d1, d2, d3, d4, f0, f1, f2, f3, f4⟩ := R5.out.hr.all
  simp only [Nat.zero_add] at c0 c1 c2 c3 c4
  simp only [yesR, reduceIte, Nat.reduceEqDiff] at d0 d1 d2 d3 d4
  go_wp2
  rw [rounds_succ]
  go_wp2_with fail
  refine (turned_to 1 3 0 _ (by omega) (by omega) (by omega)).mono ?_
  rintro r w6 ⟨rfl, hb6⟩
  have R6 := Lib.hid (R5.out.next hb6)
  clear c0 c1 c2 c3 c4 d0 d1 d2 d3 d4 f0 f1 f2 f3 f4 R5 hb6
  obtain ⟨c0, c1, c2, c3, c4⟩ := R6.out.x.hp
  obtain ⟨d0, d1, d2, d3, d4, f0, f1, f2, f3, f4⟩ := R6.out.hr.all
  simp only [Nat.zero_add] at c0 c1 c2 c3 c4
  simp only [yesR, reduceIte, Nat.reduceEqDiff] at d0 d1 d2 d3 d4
  go_wp2
  rw [rounds_succ]
  go_wp2_with fail
  refine (turned_to 2 3 1 _ (by omega) (by omega) (by omega)).mono ?_
  rintro r w7 ⟨rfl, hb7⟩
  have R7 := Lib.hid (R6.out.next hb7)
  clear c0 c1 c2 c3 c4 d0 d1 d2 d3 d4 f0 f1 f2 f3 f4 R6 hb7
  obtain ⟨c0, c1, c2, c3, c4⟩ := R7.out.x.hp
  obtain ⟨d0, d1, d2, d3, d4, f0, f1, f2, f3, f4⟩ := R7.out.hr.all
  simp only [Nat.zero_add] at c0 c1 c2 c3 c4
  simp only [yesR, reduceIte, Nat.reduceEqDiff] at d0 d1 d2 d3 d4
  go_wp2
  rw [rounds_succ]
  go_wp2_with fail
  refine (turned_to 3 3 2 _ (by omega) (by omega) (by omega)).mono ?_
  rintro r w8 ⟨rfl, hb8⟩
  have R8 := Lib.hid (R7.out.next hb8)
  clear c0 c1 c2 c3 c4 d0 d1 d2 d3 d4 f0 f1 f2 f3 f4 R7 hb8
  obtain ⟨c0, c1, c2, c3, c4⟩ := R8.out.x.hp
  obtain ⟨d0, d1, d2, d3, d4, f0, f1, f2, f3, f4⟩ := R8.out.hr.all
  simp only [Nat.zero_add] at c0 c1 c2 c3 c4
  simp only [yesR, reduceIte, Nat.reduceEqDiff] at d0 d1 d2 d3 d4
  go_wp2
  obtain ⟨a0, a1, a2, a3, a4, g0, g1, g2, g3, g4⟩ := R8.out.x.ha.all
  simp only [noR] at a0 a1 a2 a3 a4
  have gap := R8.out.gap
  have ne1 : w3.heap.size ≠ w.heap.size := by omega
  have ne2 : w3.heap.size ≠ w.heap.size + 1 := by omega
  have hk8 := R8.out.x.hk
  clear R8
  rw [rounds_succ]
  go_wp2
  exact bodyPost_ret (v := .agg #[.bool true, .bool (hitsP 1 E 1), .bool (hitsP 1 E 2), .bool (hitsP 1 E 3), .bool (hitsP 1 E 0)]) (by simp [results, Tryd.results41, go_sem, a0, a1, a2, a3, a4]) rfl ⟨rfl, by repeat (first | with_reducible exact Below.refl _ _ | (with_reducible refine kSet ?_ ?hB _; case hB => (simp; try omega)) | with_reducible refine kAlloc ?_ _ | with_reducible refine Below.drew ?_ | with_reducible refine kDrewN ?_ _ | with_reducible refine kTrans ?_ (by assumption))⟩
set_option maxHeartbeats 4000000 in
theorem rx_1_3_no (x y d s E : Int) (w : World) (hs : 0 ≤ s ∧ s ≤ 3) (he : 0 ≤ E ∧ E ≤ 3) (hE : E = (s + 1) % 4) (hf : fallsP 1 E = false) :
    Calls Tryd.prog 41 #[.agg #[.int .i8 x, .int .i8 y, .int .i8 1, .int .i8 3, .int .i8 d], .int .i8 s] w fun r w' => r = .returned (.agg #[.bool false, .bool false, .bool false, .bool false, .bool false]) ∧ Below w.heap.size w w' := by
  have HE := Lib.hid hE
  have HF := Lib.hid hf
  clear hE hf
  go_enter Tryd.func41, Tryd.ntmps41
  go_wp2_with fail
  refine (kindOf_any 1 _ (by omega)).mono ?_
  rintro r w1 ⟨rfl, hb1⟩
  have R1 := Lib.hid (rx_start hb1)
  obtain ⟨c0, c1, c2, c3, c4⟩ := R1.out.hp
  have z1 := R1.out.lt
  simp only [Nat.zero_add] at c0 c1 c2 c3 c4
  clear hb1
  go_wp2_with fail
  refine (wrapQuarters_any _ _ (by omega)).mono ?_
  rintro r w2 ⟨rfl, rfl⟩
  go_wp2_with fail
  refine (turned_to _ _ E _ hs (by omega) (by have := HE.out; omega)).mono ?_
  rintro r w2 ⟨rfl, hb2⟩
  unfold kindV
  go_wp2_with fail
  refine (falls_1 E _ he _ HF.out).mono ?_
  rintro r w3 ⟨rfl, hb3⟩
  have R3 := Lib.hid ((R1.out.below hb2).below hb3)
  have z3 := R3.out.lt
  clear c0 c1 c2 c3 c4 hb2 hb3 R1 z1
  obtain ⟨a0, a1, a2, a3, a4, f0, f1, f2, f3, f4⟩ := R3.out.ha.all
  simp only [noR] at a0 a1 a2 a3 a4
  have T3 := R3.out.hk
  go_wp2
  exact bodyPost_ret (v := .agg #[.bool false, .bool false, .bool false, .bool false, .bool false]) (by simp [results, Tryd.results41, go_sem, a0, a1, a2, a3, a4]) rfl ⟨rfl, by repeat (first | with_reducible exact Below.refl _ _ | (with_reducible refine kSet ?_ ?hB _; case hB => (simp; try omega)) | with_reducible refine kAlloc ?_ _ | with_reducible refine Below.drew ?_ | with_reducible refine kDrewN ?_ _ | with_reducible refine kTrans ?_ (by assumption))⟩
end Go.Proofs.YtflkfkbdgekpkaaDoor
