/- Contracts of what a piece does that is hit: kind 1. -/
import Derived.Test.YthohngkdfhpieaaGreatDoorG5
import Derived.Handy
namespace Go.Proofs.YthohngkdfhpieaaGreatDoor
open Go.ChangeShapes Go.WideShapes Go.ChangeAt Go.RowKit
set_option linter.unusedVariables false
set_option maxHeartbeats 4000000 in
theorem rx_1_0_yes (x y d s E : Int) (w : World) (hs : 0 ≤ s ∧ s ≤ 3) (he : 0 ≤ E ∧ E ≤ 3) (hE : E = (s + 0) % 4) (hf : fallsP 1 E = true) :
    Calls Tryz.prog 138 #[.agg #[.int .i8 x, .int .i8 y, .int .i8 1, .int .i8 0, .int .i8 d], .int .i8 s] w fun r w' => r = .returned (.agg #[.bool true, .bool (hitsP 1 E 0), .bool (hitsP 1 E 1), .bool (hitsP 1 E 2), .bool (hitsP 1 E 3)]) ∧ Below w.heap.size w w' := by
  have HE := Lib.hid hE
  have HF := Lib.hid hf
  clear hE hf
  go_enter Tryz.func138, Tryz.ntmps138
  go_wp2_with fail
  refine (kindOf_any 1 _ (by omega)).mono ?_
  rintro r w1 ⟨rfl, hb1⟩
  have hk1 : Below w.heap.size w w1 := by repeat (first | with_reducible exact Below.refl _ _ | (with_reducible refine kSet ?_ ?hB _; case hB => (simp; try omega)) | with_reducible refine kAlloc ?_ _ | with_reducible refine Below.drew ?_ | with_reducible refine kDrewN ?_ _ | with_reducible refine kTrans ?_ (by assumption))
  have hz1 : w.heap.size + 1 < w1.heap.size := by have := hb1.size; simp at this; omega
  have hp1 := ((PcAt.box w ⟨x, y, 1, 0, d⟩ 144).below (w' := (w.alloc (.cells #[.int .i8 x, .int .i8 y, .int .i8 1, .int .i8 0, .int .i8 d] 144)).alloc (.cells #[.bool false, .bool false, .bool false, .bool false, .bool false] 219)) (by repeat (first | with_reducible exact Below.refl _ _ | (with_reducible refine kSet ?_ ?hB _; case hB => (simp; try omega)) | with_reducible refine kAlloc ?_ _ | with_reducible refine Below.drew ?_ | with_reducible refine kDrewN ?_ _ | with_reducible refine kTrans ?_ (by assumption))) (by simp)).below hb1 (by simp; omega)
  have ha1 := (RAt.new (w.alloc (.cells #[.int .i8 x, .int .i8 y, .int .i8 1, .int .i8 0, .int .i8 d] 144)) (.bool false) (.bool false) (.bool false) (.bool false) (.bool false) 219).below hb1
  simp only [World.size_alloc] at ha1
  obtain ⟨c0, c1, c2, c3, c4⟩ := hp1
  simp only [Nat.zero_add] at c0 c1 c2 c3 c4
  have Ha1 := Lib.hid ha1
  clear ha1 hb1
  go_wp2_with fail
  refine (wrapQuarters_any _ _ (by omega)).mono ?_
  rintro r w2 ⟨rfl, rfl⟩
  go_wp2_with fail
  refine (turned_to _ _ E _ hs (by omega) (by have := HE.out; omega)).mono ?_
  rintro r w2 ⟨rfl, hb2⟩
  unfold kindV
  go_wp2_with fail
  refine (falls_1 E _ he _ HF.out).mono ?_
  rintro r w3 ⟨rfl, hb3⟩
  have hk3 := kTrans (kTrans hk1 hb2) hb3
  have hl3 : w.heap.size + 1 < w3.heap.size := by have := hb2.size; have := hb3.size; omega
  have hp3 := ((show PcAt w1 w.heap.size 0 ⟨x, y, 1, 0, d⟩ from ⟨c0, c1, c2, c3, c4⟩).below hb2 (by omega)).below hb3 (by have := hb2.size; omega)
  have ha3 := (Ha1.out.below hb2).below hb3
  clear c0 c1 c2 c3 c4 hb2 hb3 hk1 hz1 Ha1
  have Hp3 := Lib.hid hp3
  have Ha3 := Lib.hid ha3
  have hz3 : w.heap.size < w3.heap.size := by omega
  clear hp3 ha3
  go_wp2_with fail
  refine (hitsK_1 E _ he).mono ?_
  rintro r w4 ⟨rfl, hb4⟩
  have hk4 := kTrans (kAlloc hk3 _) hb4
  have hp4 := (Hp3.out.below (w' := w3.alloc (.cells #[.bool true, .bool false, .bool false, .bool false, .bool false] 219)) (by repeat (first | with_reducible exact Below.refl _ _ | (with_reducible refine kSet ?_ ?hB _; case hB => (simp; try omega)) | with_reducible refine kAlloc ?_ _ | with_reducible refine Below.drew ?_ | with_reducible refine kDrewN ?_ _ | with_reducible refine kTrans ?_ (by assumption))) (by omega)).below hb4 (by simp; omega)
  have ha4 := (Ha3.out.below (w' := w3.alloc (.cells #[.bool true, .bool false, .bool false, .bool false, .bool false] 219)) (by repeat (first | with_reducible exact Below.refl _ _ | (with_reducible refine kSet ?_ ?hB _; case hB => (simp; try omega)) | with_reducible refine kAlloc ?_ _ | with_reducible refine Below.drew ?_ | with_reducible refine kDrewN ?_ _ | with_reducible refine kTrans ?_ (by assumption)))).below hb4
  have hr4 := (RAt.new w3 (.bool true) (.bool false) (.bool false) (.bool false) (.bool false) 219).below hb4
  have neB1 : w3.heap.size ≠ w.heap.size := by omega
  have neB2 : w3.heap.size ≠ w.heap.size + 1 := by omega
  have nep1 := Lib.hid neB1
  have nea1 := Lib.hid neB2
  obtain ⟨c0, c1, c2, c3, c4⟩ := hp4
  simp only [Nat.zero_add] at c0 c1 c2 c3 c4
  have Ha4 := Lib.hid ha4
  have Hr4 := Lib.hid hr4
  clear hb4 Hp3 Ha3 ha4 hr4 hk3 neB1 neB2
  have i0 := idx4_0
  have i1 := idx4_1
  have i2 := idx4_2
  have i3 := idx4_3
  go_wp2
  refine wp_loop_rounds 5 ?_
  rw [rounds_succ]
  go_wp2_with fail
  refine (turned_to 0 0 0 _ (by omega) (by omega) (by omega)).mono ?_
  rintro r w5 ⟨rfl, hb5⟩
  have hp := ((show PcAt w4 w.heap.size 0 ⟨x, y, 1, 0, d⟩ from ⟨c0, c1, c2, c3, c4⟩)).below hb5 (by have := hk4.size; have := Hr4.out.1; omega)
  have ha := Ha4.out.below hb5
  have hr := Hr4.out.below hb5
  have hk5 := kTrans hk4 hb5
  clear c0 c1 c2 c3 c4 Ha4 Hr4 hb5 hk4
  obtain ⟨c0, c1, c2, c3, c4⟩ := hp
  simp only [Nat.zero_add] at c0 c1 c2 c3 c4
  have d0 := (hr.2 0 (by omega)).1
  have d1 := (hr.2 1 (by omega)).1
  have d2 := (hr.2 2 (by omega)).1
  have d3 := (hr.2 3 (by omega)).1
  have d4 := (hr.2 4 (by omega)).1
  have f0 := (hr.2 0 (by omega)).2
  have f1 := (hr.2 1 (by omega)).2
  have f2 := (hr.2 2 (by omega)).2
  have f3 := (hr.2 3 (by omega)).2
  have f4 := (hr.2 4 (by omega)).2
  simp only at d0 d1 d2 d3 d4
  have Ha5 := Lib.hid ha
  have Hr5 := Lib.hid hr
  clear ha hr
  go_wp2
  rw [rounds_succ]
  go_wp2_with fail
  refine (turned_to 1 0 1 _ (by omega) (by omega) (by omega)).mono ?_
  rintro r w6 ⟨rfl, hb6⟩
  have hp := (PcAt.set (i := 1) (v := .bool (hitsP 1 E 0)) (show PcAt w5 w.heap.size 0 ⟨x, y, 1, 0, d⟩ from ⟨c0, c1, c2, c3, c4⟩) nep1.out).below hb6 (by have := Hr5.out.1; simp only [World.size_setCell]; omega)
  have ha := (Ha5.out.other (i := 1) (v := .bool (hitsP 1 E 0)) nea1.out).below hb6
  have hr := (Hr5.out.set (i := 1) (v := .bool (hitsP 1 E 0))).below hb6
  have hk6 := kTrans (kSet hk5 (p := ⟨w3.heap.size, 1, none⟩) (by simp; omega) (.bool (hitsP 1 E 0))) hb6
  clear c0 c1 c2 c3 c4 d0 d1 d2 d3 d4 f0 f1 f2 f3 f4 Ha5 Hr5 hb6 hk5
  obtain ⟨c0, c1, c2, c3, c4⟩ := hp
  simp only [Nat.zero_add] at c0 c1 c2 c3 c4
  have d0 := (hr.2 0 (by omega)).1
  have d1 := (hr.2 1 (by omega)).1
  have d2 := (hr.2 2 (by omega)).1
  have d3 := (hr.2 3 (by omega)).1
  have d4 := (hr.2 4 (by omega)).1
  have f0 := (hr.2 0 (by omega)).2
  have f1 := (hr.2 1 (by omega)).2
  have f2 := (hr.2 2 (by omega)).2
  have f3 := (hr.2 3 (by omega)).2
  have f4 := (hr.2 4 (by omega)).2
  simp only [reduceIte, Nat.reduceEqDiff] at d0 d1 d2 d3 d4
  have Ha6 := Lib.hid ha
  have Hr6 := Lib.hid hr
  clear ha hr
  go_wp2
  rw [rounds_succ]
  go_wp2_with fail
  refine (turned_to 2 0 2 _ (by omega) (by omega) (by omega)).mono ?_
  rintro r w7 ⟨rfl, hb7⟩
  have hp := (PcAt.set (i := 2) (v := .bool (hitsP 1 E 1)) (show PcAt w6 w.heap.size 0 ⟨x, y, 1, 0, d⟩ from ⟨c0, c1, c2, c3, c4⟩) nep1.out).below hb7 (by have := Hr6.out.1; simp only [World.size_setCell]; omega)
  have ha := (Ha6.out.other (i := 2) (v := .bool (hitsP 1 E 1)) nea1.out).below hb7
  have hr := (Hr6.out.set (i := 2) (v := .bool (hitsP 1 E 1))).below hb7
  have hk7 := kTrans (kSet hk6 (p := ⟨w3.heap.size, 2, none⟩) (by simp; omega) (.bool (hitsP 1 E 1))) hb7
  clear c0 c1 c2 c3 c4 d0 d1 d2 d3 d4 f0 f1 f2 f3 f4 Ha6 Hr6 hb7 hk6
  obtain ⟨c0, c1, c2, c3, c4⟩ := hp
  simp only [Nat.zero_add] at c0 c1 c2 c3 c4
  have d0 := (hr.2 0 (by omega)).1
  have d1 := (hr.2 1 (by omega)).1
  have d2 := (hr.2 2 (by omega)).1
  have d3 := (hr.2 3 (by omega)).1
  have d4 := (hr.2 4 (by omega)).1
  have f0 := (hr.2 0 (by omega)).2
  have f1 := (hr.2 1 (by omega)).2
  have f2 := (hr.2 2 (by omega)).2
  have f3 := (hr.2 3 (by omega)).2
  have f4 := (hr.2 4 (by omega)).2
  simp only [reduceIte, Nat.reduceEqDiff] at d0 d1 d2 d3 d4
  have Ha7 := Lib.hid ha
  have Hr7 := Lib.hid hr
  clear ha hr
  go_wp2
  rw [rounds_succ]
  go_wp2_with fail
  refine (turned_to 3 0 3 _ (by omega) (by omega) (by omega)).mono ?_
  rintro r w8 ⟨rfl, hb8⟩
  have hp := (PcAt.set (i := 3) (v := .bool (hitsP 1 E 2)) (show PcAt w7 w.heap.size 0 ⟨x, y, 1, 0, d⟩ from ⟨c0, c1, c2, c3, c4⟩) nep1.out).below hb8 (by have := Hr7.out.1; simp only [World.size_setCell]; omega)
  have ha := (Ha7.out.other (i := 3) (v := .bool (hitsP 1 E 2)) nea1.out).below hb8
  have hr := (Hr7.out.set (i := 3) (v := .bool (hitsP 1 E 2))).below hb8
  have hk8 := kTrans (kSet hk7 (p := ⟨w3.heap.size, 3, none⟩) (by simp; omega) (.bool (hitsP 1 E 2))) hb8
  clear c0 c1 c2 c3 c4 d0 d1 d2 d3 d4 f0 f1 f2 f3 f4 Ha7 Hr7 hb8 hk7
  obtain ⟨c0, c1, c2, c3, c4⟩ := hp
  simp only [Nat.zero_add] at c0 c1 c2 c3 c4
  have d0 := (hr.2 0 (by omega)).1
  have d1 := (hr.2 1 (by omega)).1
  have d2 := (hr.2 2 (by omega)).1
  have d3 := (hr.2 3 (by omega)).1
  have d4 := (hr.2 4 (by omega)).1
  have f0 := (hr.2 0 (by omega)).2
  have f1 := (hr.2 1 (by omega)).2
  have f2 := (hr.2 2 (by omega)).2
  have f3 := (hr.2 3 (by omega)).2
  have f4 := (hr.2 4 (by omega)).2
  simp only [reduceIte, Nat.reduceEqDiff] at d0 d1 d2 d3 d4
  have Ha8 := Lib.hid ha
  have Hr8 := Lib.hid hr
  clear ha hr
  go_wp2
  have a0 := (Ha8.out.2 0 (by omega)).1
  have a1 := (Ha8.out.2 1 (by omega)).1
  have a2 := (Ha8.out.2 2 (by omega)).1
  have a3 := (Ha8.out.2 3 (by omega)).1
  have a4 := (Ha8.out.2 4 (by omega)).1
  have g0 := (Ha8.out.2 0 (by omega)).2
  have g1 := (Ha8.out.2 1 (by omega)).2
  have g2 := (Ha8.out.2 2 (by omega)).2
  have g3 := (Ha8.out.2 3 (by omega)).2
  have g4 := (Ha8.out.2 4 (by omega)).2
  simp only at a0 a1 a2 a3 a4
  have ne1 := nep1.out
  have ne2 := nea1.out
  clear Ha8 Hr8
  rw [rounds_succ]
  go_wp2
  exact bodyPost_ret (v := .agg #[.bool true, .bool (hitsP 1 E 0), .bool (hitsP 1 E 1), .bool (hitsP 1 E 2), .bool (hitsP 1 E 3)]) (by simp [results, Tryz.results138, go_sem, a0, a1, a2, a3, a4]) rfl ⟨rfl, by repeat (first | with_reducible exact Below.refl _ _ | (with_reducible refine kSet ?_ ?hB _; case hB => (simp; try omega)) | with_reducible refine kAlloc ?_ _ | with_reducible refine Below.drew ?_ | with_reducible refine kDrewN ?_ _ | with_reducible refine kTrans ?_ (by assumption))⟩
set_option maxHeartbeats 4000000 in
theorem rx_1_0_no (x y d s E : Int) (w : World) (hs : 0 ≤ s ∧ s ≤ 3) (he : 0 ≤ E ∧ E ≤ 3) (hE : E = (s + 0) % 4) (hf : fallsP 1 E = false) :
    Calls Tryz.prog 138 #[.agg #[.int .i8 x, .int .i8 y, .int .i8 1, .int .i8 0, .int .i8 d], .int .i8 s] w fun r w' => r = .returned (.agg #[.bool false, .bool false, .bool false, .bool false, .bool false]) ∧ Below w.heap.size w w' := by
  have HE := Lib.hid hE
  have HF := Lib.hid hf
  clear hE hf
  go_enter Tryz.func138, Tryz.ntmps138
  go_wp2_with fail
  refine (kindOf_any 1 _ (by omega)).mono ?_
  rintro r w1 ⟨rfl, hb1⟩
  have hk1 : Below w.heap.size w w1 := by repeat (first | with_reducible exact Below.refl _ _ | (with_reducible refine kSet ?_ ?hB _; case hB => (simp; try omega)) | with_reducible refine kAlloc ?_ _ | with_reducible refine Below.drew ?_ | with_reducible refine kDrewN ?_ _ | with_reducible refine kTrans ?_ (by assumption))
  have hz1 : w.heap.size + 1 < w1.heap.size := by have := hb1.size; simp at this; omega
  have hp1 := ((PcAt.box w ⟨x, y, 1, 0, d⟩ 144).below (w' := (w.alloc (.cells #[.int .i8 x, .int .i8 y, .int .i8 1, .int .i8 0, .int .i8 d] 144)).alloc (.cells #[.bool false, .bool false, .bool false, .bool false, .bool false] 219)) (by repeat (first | with_reducible exact Below.refl _ _ | (with_reducible refine kSet ?_ ?hB _; case hB => (simp; try omega)) | with_reducible refine kAlloc ?_ _ | with_reducible refine Below.drew ?_ | with_reducible refine kDrewN ?_ _ | with_reducible refine kTrans ?_ (by assumption))) (by simp)).below hb1 (by simp; omega)
  have ha1 := (RAt.new (w.alloc (.cells #[.int .i8 x, .int .i8 y, .int .i8 1, .int .i8 0, .int .i8 d] 144)) (.bool false) (.bool false) (.bool false) (.bool false) (.bool false) 219).below hb1
  simp only [World.size_alloc] at ha1
  obtain ⟨c0, c1, c2, c3, c4⟩ := hp1
  simp only [Nat.zero_add] at c0 c1 c2 c3 c4
  have Ha1 := Lib.hid ha1
  clear ha1 hb1
  go_wp2_with fail
  refine (wrapQuarters_any _ _ (by omega)).mono ?_
  rintro r w2 ⟨rfl, rfl⟩
  go_wp2_with fail
  refine (turned_to _ _ E _ hs (by omega) (by have := HE.out; omega)).mono ?_
  rintro r w2 ⟨rfl, hb2⟩
  unfold kindV
  go_wp2_with fail
  refine (falls_1 E _ he _ HF.out).mono ?_
  rintro r w3 ⟨rfl, hb3⟩
  have hk3 := kTrans (kTrans hk1 hb2) hb3
  have hl3 : w.heap.size + 1 < w3.heap.size := by have := hb2.size; have := hb3.size; omega
  have hp3 := ((show PcAt w1 w.heap.size 0 ⟨x, y, 1, 0, d⟩ from ⟨c0, c1, c2, c3, c4⟩).below hb2 (by omega)).below hb3 (by have := hb2.size; omega)
  have ha3 := (Ha1.out.below hb2).below hb3
  clear c0 c1 c2 c3 c4 hb2 hb3 hk1 hz1 Ha1
  have a0 := (ha3.2 0 (by omega)).1
  have a1 := (ha3.2 1 (by omega)).1
  have a2 := (ha3.2 2 (by omega)).1
  have a3 := (ha3.2 3 (by omega)).1
  have a4 := (ha3.2 4 (by omega)).1
  have f0 := (ha3.2 0 (by omega)).2
  have f1 := (ha3.2 1 (by omega)).2
  have f2 := (ha3.2 2 (by omega)).2
  have f3 := (ha3.2 3 (by omega)).2
  have f4 := (ha3.2 4 (by omega)).2
  simp only at a0 a1 a2 a3 a4
  clear ha3 hp3
  go_wp2
  exact bodyPost_ret (v := .agg #[.bool false, .bool false, .bool false, .bool false, .bool false]) (by simp [results, Tryz.results138, go_sem, a0, a1, a2, a3, a4]) rfl ⟨rfl, by repeat (first | with_reducible exact Below.refl _ _ | (with_reducible refine kSet ?_ ?hB _; case hB => (simp; try omega)) | with_reducible refine kAlloc ?_ _ | with_reducible refine Below.drew ?_ | with_reducible refine kDrewN ?_ _ | with_reducible refine kTrans ?_ (by assumption))⟩
set_option maxHeartbeats 4000000 in
theorem rx_1_1_yes (x y d s E : Int) (w : World) (hs : 0 ≤ s ∧ s ≤ 3) (he : 0 ≤ E ∧ E ≤ 3) (hE : E = (s + 3) % 4) (hf : fallsP 1 E = true) :
    Calls Tryz.prog 138 #[.agg #[.int .i8 x, .int .i8 y, .int .i8 1, .int .i8 1, .int .i8 d], .int .i8 s] w fun r w' => r = .returned (.agg #[.bool true, .bool (hitsP 1 E 3), .bool (hitsP 1 E 0), .bool (hitsP 1 E 1), .bool (hitsP 1 E 2)]) ∧ Below w.heap.size w w' := by
  have HE := Lib.hid hE
  have HF := Lib.hid hf
  clear hE hf
  go_enter Tryz.func138, Tryz.ntmps138
  go_wp2_with fail
  refine (kindOf_any 1 _ (by omega)).mono ?_
  rintro r w1 ⟨rfl, hb1⟩
  have hk1 : Below w.heap.size w w1 := by repeat (first | with_reducible exact Below.refl _ _ | (with_reducible refine kSet ?_ ?hB _; case hB => (simp; try omega)) | with_reducible refine kAlloc ?_ _ | with_reducible refine Below.drew ?_ | with_reducible refine kDrewN ?_ _ | with_reducible refine kTrans ?_ (by assumption))
  have hz1 : w.heap.size + 1 < w1.heap.size := by have := hb1.size; simp at this; omega
  have hp1 := ((PcAt.box w ⟨x, y, 1, 1, d⟩ 144).below (w' := (w.alloc (.cells #[.int .i8 x, .int .i8 y, .int .i8 1, .int .i8 1, .int .i8 d] 144)).alloc (.cells #[.bool false, .bool false, .bool false, .bool false, .bool false] 219)) (by repeat (first | with_reducible exact Below.refl _ _ | (with_reducible refine kSet ?_ ?hB _; case hB => (simp; try omega)) | with_reducible refine kAlloc ?_ _ | with_reducible refine Below.drew ?_ | with_reducible refine kDrewN ?_ _ | with_reducible refine kTrans ?_ (by assumption))) (by simp)).below hb1 (by simp; omega)
  have ha1 := (RAt.new (w.alloc (.cells #[.int .i8 x, .int .i8 y, .int .i8 1, .int .i8 1, .int .i8 d] 144)) (.bool false) (.bool false) (.bool false) (.bool false) (.bool false) 219).below hb1
  simp only [World.size_alloc] at ha1
  obtain ⟨c0, c1, c2, c3, c4⟩ := hp1
  simp only [Nat.zero_add] at c0 c1 c2 c3 c4
  have Ha1 := Lib.hid ha1
  clear ha1 hb1
  go_wp2_with fail
  refine (wrapQuarters_any _ _ (by omega)).mono ?_
  rintro r w2 ⟨rfl, rfl⟩
  go_wp2_with fail
  refine (turned_to _ _ E _ hs (by omega) (by have := HE.out; omega)).mono ?_
  rintro r w2 ⟨rfl, hb2⟩
  unfold kindV
  go_wp2_with fail
  refine (falls_1 E _ he _ HF.out).mono ?_
  rintro r w3 ⟨rfl, hb3⟩
  have hk3 := kTrans (kTrans hk1 hb2) hb3
  have hl3 : w.heap.size + 1 < w3.heap.size := by have := hb2.size; have := hb3.size; omega
  have hp3 := ((show PcAt w1 w.heap.size 0 ⟨x, y, 1, 1, d⟩ from ⟨c0, c1, c2, c3, c4⟩).below hb2 (by omega)).below hb3 (by have := hb2.size; omega)
  have ha3 := (Ha1.out.below hb2).below hb3
  clear c0 c1 c2 c3 c4 hb2 hb3 hk1 hz1 Ha1
  have Hp3 := Lib.hid hp3
  have Ha3 := Lib.hid ha3
  have hz3 : w.heap.size < w3.heap.size := by omega
  clear hp3 ha3
  go_wp2_with fail
  refine (hitsK_1 E _ he).mono ?_
  rintro r w4 ⟨rfl, hb4⟩
  have hk4 := kTrans (kAlloc hk3 _) hb4
  have hp4 := (Hp3.out.below (w' := w3.alloc (.cells #[.bool true, .bool false, .bool false, .bool false, .bool false] 219)) (by repeat (first | with_reducible exact Below.refl _ _ | (with_reducible refine kSet ?_ ?hB _; case hB => (simp; try omega)) | with_reducible refine kAlloc ?_ _ | with_reducible refine Below.drew ?_ | with_reducible refine kDrewN ?_ _ | with_reducible refine kTrans ?_ (by assumption))) (by omega)).below hb4 (by simp; omega)
  have ha4 := (Ha3.out.below (w' := w3.alloc (.cells #[.bool true, .bool false, .bool false, .bool false, .bool false] 219)) (by repeat (first | with_reducible exact Below.refl _ _ | (with_reducible refine kSet ?_ ?hB _; case hB => (simp; try omega)) | with_reducible refine kAlloc ?_ _ | with_reducible refine Below.drew ?_ | with_reducible refine kDrewN ?_ _ | with_reducible refine kTrans ?_ (by assumption)))).below hb4
  have hr4 := (RAt.new w3 (.bool true) (.bool false) (.bool false) (.bool false) (.bool false) 219).below hb4
  have neB1 : w3.heap.size ≠ w.heap.size := by omega
  have neB2 : w3.heap.size ≠ w.heap.size + 1 := by omega
  have nep1 := Lib.hid neB1
  have nea1 := Lib.hid neB2
  obtain ⟨c0, c1, c2, c3, c4⟩ := hp4
  simp only [Nat.zero_add] at c0 c1 c2 c3 c4
  have Ha4 := Lib.hid ha4
  have Hr4 := Lib.hid hr4
  clear hb4 Hp3 Ha3 ha4 hr4 hk3 neB1 neB2
  have i0 := idx4_0
  have i1 := idx4_1
  have i2 := idx4_2
  have i3 := idx4_3
  go_wp2
  refine wp_loop_rounds 5 ?_
  rw [rounds_succ]
  go_wp2_with fail
  refine (turned_to 0 1 1 _ (by omega) (by omega) (by omega)).mono ?_
  rintro r w5 ⟨rfl, hb5⟩
  have hp := ((show PcAt w4 w.heap.size 0 ⟨x, y, 1, 1, d⟩ from ⟨c0, c1, c2, c3, c4⟩)).below hb5 (by have := hk4.size; have := Hr4.out.1; omega)
  have ha := Ha4.out.below hb5
  have hr := Hr4.out.below hb5
  have hk5 := kTrans hk4 hb5
  clear c0 c1 c2 c3 c4 Ha4 Hr4 hb5 hk4
  obtain ⟨c0, c1, c2, c3, c4⟩ := hp
  simp only [Nat.zero_add] at c0 c1 c2 c3 c4
  have d0 := (hr.2 0 (by omega)).1
  have d1 := (hr.2 1 (by omega)).1
  have d2 := (hr.2 2 (by omega)).1
  have d3 := (hr.2 3 (by omega)).1
  have d4 := (hr.2 4 (by omega)).1
  have f0 := (hr.2 0 (by omega)).2
  have f1 := (hr.2 1 (by omega)).2
  have f2 := (hr.2 2 (by omega)).2
  have f3 := (hr.2 3 (by omega)).2
  have f4 := (hr.2 4 (by omega)).2
  simp only at d0 d1 d2 d3 d4
  have Ha5 := Lib.hid ha
  have Hr5 := Lib.hid hr
  clear ha hr
  go_wp2
  rw [rounds_succ]
  go_wp2_with fail
  refine (turned_to 1 1 2 _ (by omega) (by omega) (by omega)).mono ?_
  rintro r w6 ⟨rfl, hb6⟩
  have hp := (PcAt.set (i := 2) (v := .bool (hitsP 1 E 0)) (show PcAt w5 w.heap.size 0 ⟨x, y, 1, 1, d⟩ from ⟨c0, c1, c2, c3, c4⟩) nep1.out).below hb6 (by have := Hr5.out.1; simp only [World.size_setCell]; omega)
  have ha := (Ha5.out.other (i := 2) (v := .bool (hitsP 1 E 0)) nea1.out).below hb6
  have hr := (Hr5.out.set (i := 2) (v := .bool (hitsP 1 E 0))).below hb6
  have hk6 := kTrans (kSet hk5 (p := ⟨w3.heap.size, 2, none⟩) (by simp; omega) (.bool (hitsP 1 E 0))) hb6
  clear c0 c1 c2 c3 c4 d0 d1 d2 d3 d4 f0 f1 f2 f3 f4 Ha5 Hr5 hb6 hk5
  obtain ⟨c0, c1, c2, c3, c4⟩ := hp
  simp only [Nat.zero_add] at c0 c1 c2 c3 c4
  have d0 := (hr.2 0 (by omega)).1
  have d1 := (hr.2 1 (by omega)).1
  have d2 := (hr.2 2 (by omega)).1
  have d3 := (hr.2 3 (by omega)).1
  have d4 := (hr.2 4 (by omega)).1
  have f0 := (hr.2 0 (by omega)).2
  have f1 := (hr.2 1 (by omega)).2
  have f2 := (hr.2 2 (by omega)).2
  have f3 := (hr.2 3 (by omega)).2
  have f4 := (hr.2 4 (by omega)).2
  simp only [reduceIte, Nat.reduceEqDiff] at d0 d1 d2 d3 d4
  have Ha6 := Lib.hid ha
  have Hr6 := Lib.hid hr
  clear ha hr
  go_wp2
  rw [rounds_succ]
  go_wp2_with fail
  refine (turned_to 2 1 3 _ (by omega) (by omega) (by omega)).mono ?_
  rintro r w7 ⟨rfl, hb7⟩
  have hp := (PcAt.set (i := 3) (v := .bool (hitsP 1 E 1)) (show PcAt w6 w.heap.size 0 ⟨x, y, 1, 1, d⟩ from ⟨c0, c1, c2, c3, c4⟩) nep1.out).below hb7 (by have := Hr6.out.1; simp only [World.size_setCell]; omega)
  have ha := (Ha6.out.other (i := 3) (v := .bool (hitsP 1 E 1)) nea1.out).below hb7
  have hr := (Hr6.out.set (i := 3) (v := .bool (hitsP 1 E 1))).below hb7
  have hk7 := kTrans (kSet hk6 (p := ⟨w3.heap.size, 3, none⟩) (by simp; omega) (.bool (hitsP 1 E 1))) hb7
  clear c0 c1 c2 c3 c4 d0 d1 d2 d3 d4 f0 f1 f2 f3 f4 Ha6 Hr6 hb7 hk6
  obtain ⟨c0, c1, c2, c3, c4⟩ := hp
  simp only [Nat.zero_add] at c0 c1 c2 c3 c4
  have d0 := (hr.2 0 (by omega)).1
  have d1 := (hr.2 1 (by omega)).1
  have d2 := (hr.2 2 (by omega)).1
  have d3 := (hr.2 3 (by omega)).1
  have d4 := (hr.2 4 (by omega)).1
  have f0 := (hr.2 0 (by omega)).2
  have f1 := (hr.2 1 (by omega)).2
  have f2 := (hr.2 2 (by omega)).2
  have f3 := (hr.2 3 (by omega)).2
  have f4 := (hr.2 4 (by omega)).2
  simp only [reduceIte, Nat.reduceEqDiff] at d0 d1 d2 d3 d4
  have Ha7 := Lib.hid ha
  have Hr7 := Lib.hid hr
  clear ha hr
  go_wp2
  rw [rounds_succ]
  go_wp2_with fail
  refine (turned_to 3 1 0 _ (by omega) (by omega) (by omega)).mono ?_
  rintro r w8 ⟨rfl, hb8⟩
  have hp := (PcAt.set (i := 4) (v := .bool (hitsP 1 E 2)) (show PcAt w7 w.heap.size 0 ⟨x, y, 1, 1, d⟩ from ⟨c0, c1, c2, c3, c4⟩) nep1.out).below hb8 (by have := Hr7.out.1; simp only [World.size_setCell]; omega)
  have ha := (Ha7.out.other (i := 4) (v := .bool (hitsP 1 E 2)) nea1.out).below hb8
  have hr := (Hr7.out.set (i := 4) (v := .bool (hitsP 1 E 2))).below hb8
  have hk8 := kTrans (kSet hk7 (p := ⟨w3.heap.size, 4, none⟩) (by simp; omega) (.bool (hitsP 1 E 2))) hb8
  clear c0 c1 c2 c3 c4 d0 d1 d2 d3 d4 f0 f1 f2 f3 f4 Ha7 Hr7 hb8 hk7
  obtain ⟨c0, c1, c2, c3, c4⟩ := hp
  simp only [Nat.zero_add] at c0 c1 c2 c3 c4
  have d0 := (hr.2 0 (by omega)).1
  have d1 := (hr.2 1 (by omega)).1
  have d2 := (hr.2 2 (by omega)).1
  have d3 := (hr.2 3 (by omega)).1
  have d4 := (hr.2 4 (by omega)).1
  have f0 := (hr.2 0 (by omega)).2
  have f1 := (hr.2 1 (by omega)).2
  have f2 := (hr.2 2 (by omega)).2
  have f3 := (hr.2 3 (by omega)).2
  have f4 := (hr.2 4 (by omega)).2
  simp only [reduceIte, Nat.reduceEqDiff] at d0 d1 d2 d3 d4
  have Ha8 := Lib.hid ha
  have Hr8 := Lib.hid hr
  clear ha hr
  go_wp2
  have a0 := (Ha8.out.2 0 (by omega)).1
  have a1 := (Ha8.out.2 1 (by omega)).1
  have a2 := (Ha8.out.2 2 (by omega)).1
  have a3 := (Ha8.out.2 3 (by omega)).1
  have a4 := (Ha8.out.2 4 (by omega)).1
  have g0 := (Ha8.out.2 0 (by omega)).2
  have g1 := (Ha8.out.2 1 (by omega)).2
  have g2 := (Ha8.out.2 2 (by omega)).2
  have g3 := (Ha8.out.2 3 (by omega)).2
  have g4 := (Ha8.out.2 4 (by omega)).2
  simp only at a0 a1 a2 a3 a4
  have ne1 := nep1.out
  have ne2 := nea1.out
  clear Ha8 Hr8
  rw [rounds_succ]
  go_wp2
  exact bodyPost_ret (v := .agg #[.bool true, .bool (hitsP 1 E 3), .bool (hitsP 1 E 0), .bool (hitsP 1 E 1), .bool (hitsP 1 E 2)]) (by simp [results, Tryz.results138, go_sem, a0, a1, a2, a3, a4]) rfl ⟨rfl, by repeat (first | with_reducible exact Below.refl _ _ | (with_reducible refine kSet ?_ ?hB _; case hB => (simp; try omega)) | with_reducible refine kAlloc ?_ _ | with_reducible refine Below.drew ?_ | with_reducible refine kDrewN ?_ _ | with_reducible refine kTrans ?_ (by assumption))⟩
set_option maxHeartbeats 4000000 in
theorem rx_1_1_no (x y d s E : Int) (w : World) (hs : 0 ≤ s ∧ s ≤ 3) (he : 0 ≤ E ∧ E ≤ 3) (hE : E = (s + 3) % 4) (hf : fallsP 1 E = false) :
    Calls Tryz.prog 138 #[.agg #[.int .i8 x, .int .i8 y, .int .i8 1, .int .i8 1, .int .i8 d], .int .i8 s] w fun r w' => r = .returned (.agg #[.bool false, .bool false, .bool false, .bool false, .bool false]) ∧ Below w.heap.size w w' := by
  have HE := Lib.hid hE
  have HF := Lib.hid hf
  clear hE hf
  go_enter Tryz.func138, Tryz.ntmps138
  go_wp2_with fail
  refine (kindOf_any 1 _ (by omega)).mono ?_
  rintro r w1 ⟨rfl, hb1⟩
  have hk1 : Below w.heap.size w w1 := by repeat (first | with_reducible exact Below.refl _ _ | (with_reducible refine kSet ?_ ?hB _; case hB => (simp; try omega)) | with_reducible refine kAlloc ?_ _ | with_reducible refine Below.drew ?_ | with_reducible refine kDrewN ?_ _ | with_reducible refine kTrans ?_ (by assumption))
  have hz1 : w.heap.size + 1 < w1.heap.size := by have := hb1.size; simp at this; omega
  have hp1 := ((PcAt.box w ⟨x, y, 1, 1, d⟩ 144).below (w' := (w.alloc (.cells #[.int .i8 x, .int .i8 y, .int .i8 1, .int .i8 1, .int .i8 d] 144)).alloc (.cells #[.bool false, .bool false, .bool false, .bool false, .bool false] 219)) (by repeat (first | with_reducible exact Below.refl _ _ | (with_reducible refine kSet ?_ ?hB _; case hB => (simp; try omega)) | with_reducible refine kAlloc ?_ _ | with_reducible refine Below.drew ?_ | with_reducible refine kDrewN ?_ _ | with_reducible refine kTrans ?_ (by assumption))) (by simp)).below hb1 (by simp; omega)
  have ha1 := (RAt.new (w.alloc (.cells #[.int .i8 x, .int .i8 y, .int .i8 1, .int .i8 1, .int .i8 d] 144)) (.bool false) (.bool false) (.bool false) (.bool false) (.bool false) 219).below hb1
  simp only [World.size_alloc] at ha1
  obtain ⟨c0, c1, c2, c3, c4⟩ := hp1
  simp only [Nat.zero_add] at c0 c1 c2 c3 c4
  have Ha1 := Lib.hid ha1
  clear ha1 hb1
  go_wp2_with fail
  refine (wrapQuarters_any _ _ (by omega)).mono ?_
  rintro r w2 ⟨rfl, rfl⟩
  go_wp2_with fail
  refine (turned_to _ _ E _ hs (by omega) (by have := HE.out; omega)).mono ?_
  rintro r w2 ⟨rfl, hb2⟩
  unfold kindV
  go_wp2_with fail
  refine (falls_1 E _ he _ HF.out).mono ?_
  rintro r w3 ⟨rfl, hb3⟩
  have hk3 := kTrans (kTrans hk1 hb2) hb3
  have hl3 : w.heap.size + 1 < w3.heap.size := by have := hb2.size; have := hb3.size; omega
  have hp3 := ((show PcAt w1 w.heap.size 0 ⟨x, y, 1, 1, d⟩ from ⟨c0, c1, c2, c3, c4⟩).below hb2 (by omega)).below hb3 (by have := hb2.size; omega)
  have ha3 := (Ha1.out.below hb2).below hb3
  clear c0 c1 c2 c3 c4 hb2 hb3 hk1 hz1 Ha1
  have a0 := (ha3.2 0 (by omega)).1
  have a1 := (ha3.2 1 (by omega)).1
  have a2 := (ha3.2 2 (by omega)).1
  have a3 := (ha3.2 3 (by omega)).1
  have a4 := (ha3.2 4 (by omega)).1
  have f0 := (ha3.2 0 (by omega)).2
  have f1 := (ha3.2 1 (by omega)).2
  have f2 := (ha3.2 2 (by omega)).2
  have f3 := (ha3.2 3 (by omega)).2
  have f4 := (ha3.2 4 (by omega)).2
  simp only at a0 a1 a2 a3 a4
  clear ha3 hp3
  go_wp2
  exact bodyPost_ret (v := .agg #[.bool false, .bool false, .bool false, .bool false, .bool false]) (by simp [results, Tryz.results138, go_sem, a0, a1, a2, a3, a4]) rfl ⟨rfl, by repeat (first | with_reducible exact Below.refl _ _ | (with_reducible refine kSet ?_ ?hB _; case hB => (simp; try omega)) | with_reducible refine kAlloc ?_ _ | with_reducible refine Below.drew ?_ | with_reducible refine kDrewN ?_ _ | with_reducible refine kTrans ?_ (by assumption))⟩
set_option maxHeartbeats 4000000 in
theorem rx_1_2_yes (x y d s E : Int) (w : World) (hs : 0 ≤ s ∧ s ≤ 3) (he : 0 ≤ E ∧ E ≤ 3) (hE : E = (s + 2) % 4) (hf : fallsP 1 E = true) :
    Calls Tryz.prog 138 #[.agg #[.int .i8 x, .int .i8 y, .int .i8 1, .int .i8 2, .int .i8 d], .int .i8 s] w fun r w' => r = .returned (.agg #[.bool true, .bool (hitsP 1 E 2), .bool (hitsP 1 E 3), .bool (hitsP 1 E 0), .bool (hitsP 1 E 1)]) ∧ Below w.heap.size w w' := by
  have HE := Lib.hid hE
  have HF := Lib.hid hf
  clear hE hf
  go_enter Tryz.func138, Tryz.ntmps138
  go_wp2_with fail
  refine (kindOf_any 1 _ (by omega)).mono ?_
  rintro r w1 ⟨rfl, hb1⟩
  have hk1 : Below w.heap.size w w1 := by repeat (first | with_reducible exact Below.refl _ _ | (with_reducible refine kSet ?_ ?hB _; case hB => (simp; try omega)) | with_reducible refine kAlloc ?_ _ | with_reducible refine Below.drew ?_ | with_reducible refine kDrewN ?_ _ | with_reducible refine kTrans ?_ (by assumption))
  have hz1 : w.heap.size + 1 < w1.heap.size := by have := hb1.size; simp at this; omega
  have hp1 := ((PcAt.box w ⟨x, y, 1, 2, d⟩ 144).below (w' := (w.alloc (.cells #[.int .i8 x, .int .i8 y, .int .i8 1, .int .i8 2, .int .i8 d] 144)).alloc (.cells #[.bool false, .bool false, .bool false, .bool false, .bool false] 219)) (by repeat (first | with_reducible exact Below.refl _ _ | (with_reducible refine kSet ?_ ?hB _; case hB => (simp; try omega)) | with_reducible refine kAlloc ?_ _ | with_reducible refine Below.drew ?_ | with_reducible refine kDrewN ?_ _ | with_reducible refine kTrans ?_ (by assumption))) (by simp)).below hb1 (by simp; omega)
  have ha1 := (RAt.new (w.alloc (.cells #[.int .i8 x, .int .i8 y, .int .i8 1, .int .i8 2, .int .i8 d] 144)) (.bool false) (.bool false) (.bool false) (.bool false) (.bool false) 219).below hb1
  simp only [World.size_alloc] at ha1
  obtain ⟨c0, c1, c2, c3, c4⟩ := hp1
  simp only [Nat.zero_add] at c0 c1 c2 c3 c4
  have Ha1 := Lib.hid ha1
  clear ha1 hb1
  go_wp2_with fail
  refine (wrapQuarters_any _ _ (by omega)).mono ?_
  rintro r w2 ⟨rfl, rfl⟩
  go_wp2_with fail
  refine (turned_to _ _ E _ hs (by omega) (by have := HE.out; omega)).mono ?_
  rintro r w2 ⟨rfl, hb2⟩
  unfold kindV
  go_wp2_with fail
  refine (falls_1 E _ he _ HF.out).mono ?_
  rintro r w3 ⟨rfl, hb3⟩
  have hk3 := kTrans (kTrans hk1 hb2) hb3
  have hl3 : w.heap.size + 1 < w3.heap.size := by have := hb2.size; have := hb3.size; omega
  have hp3 := ((show PcAt w1 w.heap.size 0 ⟨x, y, 1, 2, d⟩ from ⟨c0, c1, c2, c3, c4⟩).below hb2 (by omega)).below hb3 (by have := hb2.size; omega)
  have ha3 := (Ha1.out.below hb2).below hb3
  clear c0 c1 c2 c3 c4 hb2 hb3 hk1 hz1 Ha1
  have Hp3 := Lib.hid hp3
  have Ha3 := Lib.hid ha3
  have hz3 : w.heap.size < w3.heap.size := by omega
  clear hp3 ha3
  go_wp2_with fail
  refine (hitsK_1 E _ he).mono ?_
  rintro r w4 ⟨rfl, hb4⟩
  have hk4 := kTrans (kAlloc hk3 _) hb4
  have hp4 := (Hp3.out.below (w' := w3.alloc (.cells #[.bool true, .bool false, .bool false, .bool false, .bool false] 219)) (by repeat (first | with_reducible exact Below.refl _ _ | (with_reducible refine kSet ?_ ?hB _; case hB => (simp; try omega)) | with_reducible refine kAlloc ?_ _ | with_reducible refine Below.drew ?_ | with_reducible refine kDrewN ?_ _ | with_reducible refine kTrans ?_ (by assumption))) (by omega)).below hb4 (by simp; omega)
  have ha4 := (Ha3.out.below (w' := w3.alloc (.cells #[.bool true, .bool false, .bool false, .bool false, .bool false] 219)) (by repeat (first | with_reducible exact Below.refl _ _ | (with_reducible refine kSet ?_ ?hB _; case hB => (simp; try omega)) | with_reducible refine kAlloc ?_ _ | with_reducible refine Below.drew ?_ | with_reducible refine kDrewN ?_ _ | with_reducible refine kTrans ?_ (by assumption)))).below hb4
  have hr4 := (RAt.new w3 (.bool true) (.bool false) (.bool false) (.bool false) (.bool false) 219).below hb4
  have neB1 : w3.heap.size ≠ w.heap.size := by omega
  have neB2 : w3.heap.size ≠ w.heap.size + 1 := by omega
  have nep1 := Lib.hid neB1
  have nea1 := Lib.hid neB2
  obtain ⟨c0, c1, c2, c3, c4⟩ := hp4
  simp only [Nat.zero_add] at c0 c1 c2 c3 c4
  have Ha4 := Lib.hid ha4
  have Hr4 := Lib.hid hr4
  clear hb4 Hp3 Ha3 ha4 hr4 hk3 neB1 neB2
  have i0 := idx4_0
  have i1 := idx4_1
  have i2 := idx4_2
  have i3 := idx4_3
  go_wp2
  refine wp_loop_rounds 5 ?_
  rw [rounds_succ]
  go_wp2_with fail
  refine (turned_to 0 2 2 _ (by omega) (by omega) (by omega)).mono ?_
  rintro r w5 ⟨rfl, hb5⟩
  have hp := ((show PcAt w4 w.heap.size 0 ⟨x, y, 1, 2, d⟩ from ⟨c0, c1, c2, c3, c4⟩)).below hb5 (by have := hk4.size; have := Hr4.out.1; omega)
  have ha := Ha4.out.below hb5
  have hr := Hr4.out.below hb5
  have hk5 := kTrans hk4 hb5
  clear c0 c1 c2 c3 c4 Ha4 Hr4 hb5 hk4
  obtain ⟨c0, c1, c2, c3, c4⟩ := hp
  simp only [Nat.zero_add] at c0 c1 c2 c3 c4
  have d0 := (hr.2 0 (by omega)).1
  have d1 := (hr.2 1 (by omega)).1
  have d2 := (hr.2 2 (by omega)).1
  have d3 := (hr.2 3 (by omega)).1
  have d4 := (hr.2 4 (by omega)).1
  have f0 := (hr.2 0 (by omega)).2
  have f1 := (hr.2 1 (by omega)).2
  have f2 := (hr.2 2 (by omega)).2
  have f3 := (hr.2 3 (by omega)).2
  have f4 := (hr.2 4 (by omega)).2
  simp only at d0 d1 d2 d3 d4
  have Ha5 := Lib.hid ha
  have Hr5 := Lib.hid hr
  clear ha hr
  go_wp2
  rw [rounds_succ]
  go_wp2_with fail
  refine (turned_to 1 2 3 _ (by omega) (by omega) (by omega)).mono ?_
  rintro r w6 ⟨rfl, hb6⟩
  have hp := (PcAt.set (i := 3) (v := .bool (hitsP 1 E 0)) (show PcAt w5 w.heap.size 0 ⟨x, y, 1, 2, d⟩ from ⟨c0, c1, c2, c3, c4⟩) nep1.out).below hb6 (by have := Hr5.out.1; simp only [World.size_setCell]; omega)
  have ha := (Ha5.out.other (i := 3) (v := .bool (hitsP 1 E 0)) nea1.out).below hb6
  have hr := (Hr5.out.set (i := 3) (v := .bool (hitsP 1 E 0))).below hb6
  have hk6 := kTrans (kSet hk5 (p := ⟨w3.heap.size, 3, none⟩) (by simp; omega) (.bool (hitsP 1 E 0))) hb6
  clear c0 c1 c2 c3 c4 d0 d1 d2 d3 d4 f0 f1 f2 f3 f4 Ha5 Hr5 hb6 hk5
  obtain ⟨c0, c1, c2, c3, c4⟩ := hp
  simp only [Nat.zero_add] at c0 c1 c2 c3 c4
  have d0 := (hr.2 0 (by omega)).1
  have d1 := (hr.2 1 (by omega)).1
  have d2 := (hr.2 2 (by omega)).1
  have d3 := (hr.2 3 (by omega)).1
  have d4 := (hr.2 4 (by omega)).1
  have f0 := (hr.2 0 (by omega)).2
  have f1 := (hr.2 1 (by omega)).2
  have f2 := (hr.2 2 (by omega)).2
  have f3 := (hr.2 3 (by omega)).2
  have f4 := (hr.2 4 (by omega)).2
  simp only [reduceIte, Nat.reduceEqDiff] at d0 d1 d2 d3 d4
  have Ha6 := Lib.hid ha
  have Hr6 := Lib.hid hr
  clear ha hr
  go_wp2
  rw [rounds_succ]
  go_wp2_with fail
  refine (turned_to 2 2 0 _ (by omega) (by omega) (by omega)).mono ?_
  rintro r w7 ⟨rfl, hb7⟩
  have hp := (PcAt.set (i := 4) (v := .bool (hitsP 1 E 1)) (show PcAt w6 w.heap.size 0 ⟨x, y, 1, 2, d⟩ from ⟨c0, c1, c2, c3, c4⟩) nep1.out).below hb7 (by have := Hr6.out.1; simp only [World.size_setCell]; omega)
  have ha := (Ha6.out.other (i := 4) (v := .bool (hitsP 1 E 1)) nea1.out).below hb7
  have hr := (Hr6.out.set (i := 4) (v := .bool (hitsP 1 E 1))).below hb7
  have hk7 := kTrans (kSet hk6 (p := ⟨w3.heap.size, 4, none⟩) (by simp; omega) (.bool (hitsP 1 E 1))) hb7
  clear c0 c1 c2 c3 c4 d0 d1 d2 d3 d4 f0 f1 f2 f3 f4 Ha6 Hr6 hb7 hk6
  obtain ⟨c0, c1, c2, c3, c4⟩ := hp
  simp only [Nat.zero_add] at c0 c1 c2 c3 c4
  have d0 := (hr.2 0 (by omega)).1
  have d1 := (hr.2 1 (by omega)).1
  have d2 := (hr.2 2 (by omega)).1
  have d3 := (hr.2 3 (by omega)).1
  have d4 := (hr.2 4 (by omega)).1
  have f0 := (hr.2 0 (by omega)).2
  have f1 := (hr.2 1 (by omega)).2
  have f2 := (hr.2 2 (by omega)).2
  have f3 := (hr.2 3 (by omega)).2
  have f4 := (hr.2 4 (by omega)).2
  simp only [reduceIte, Nat.reduceEqDiff] at d0 d1 d2 d3 d4
  have Ha7 := Lib.hid ha
  have Hr7 := Lib.hid hr
  clear ha hr
  go_wp2
  rw [rounds_succ]
  go_wp2_with fail
  refine (turned_to 3 2 1 _ (by omega) (by omega) (by omega)).mono ?_
  rintro r w8 ⟨rfl, hb8⟩
  have hp := (PcAt.set (i := 1) (v := .bool (hitsP 1 E 2)) (show PcAt w7 w.heap.size 0 ⟨x, y, 1, 2, d⟩ from ⟨c0, c1, c2, c3, c4⟩) nep1.out).below hb8 (by have := Hr7.out.1; simp only [World.size_setCell]; omega)
  have ha := (Ha7.out.other (i := 1) (v := .bool (hitsP 1 E 2)) nea1.out).below hb8
  have hr := (Hr7.out.set (i := 1) (v := .bool (hitsP 1 E 2))).below hb8
  have hk8 := kTrans (kSet hk7 (p := ⟨w3.heap.size, 1, none⟩) (by simp; omega) (.bool (hitsP 1 E 2))) hb8
  clear c0 c1 c2 c3 c4 d0 d1 d2 d3 d4 f0 f1 f2 f3 f4 Ha7 Hr7 hb8 hk7
  obtain ⟨c0, c1, c2, c3, c4⟩ := hp
  simp only [Nat.zero_add] at c0 c1 c2 c3 c4
  have d0 := (hr.2 0 (by omega)).1
  have d1 := (hr.2 1 (by omega)).1
  have d2 := (hr.2 2 (by omega)).1
  have d3 := (hr.2 3 (by omega)).1
  have d4 := (hr.2 4 (by omega)).1
  have f0 := (hr.2 0 (by omega)).2
  have f1 := (hr.2 1 (by omega)).2
  have f2 := (hr.2 2 (by omega)).2
  have f3 := (hr.2 3 (by omega)).2
  have f4 := (hr.2 4 (by omega)).2
  simp only [reduceIte, Nat.reduceEqDiff] at d0 d1 d2 d3 d4
  have Ha8 := Lib.hid ha
  have Hr8 := Lib.hid hr
  clear ha hr
  go_wp2
  have a0 := (Ha8.out.2 0 (by omega)).1
  have a1 := (Ha8.out.2 1 (by omega)).1
  have a2 := (Ha8.out.2 2 (by omega)).1
  have a3 := (Ha8.out.2 3 (by omega)).1
  have a4 := (Ha8.out.2 4 (by omega)).1
  have g0 := (Ha8.out.2 0 (by omega)).2
  have g1 := (Ha8.out.2 1 (by omega)).2
  have g2 := (Ha8.out.2 2 (by omega)).2
  have g3 := (Ha8.out.2 3 (by omega)).2
  have g4 := (Ha8.out.2 4 (by omega)).2
  simp only at a0 a1 a2 a3 a4
  have ne1 := nep1.out
  have ne2 := nea1.out
  clear Ha8 Hr8
  rw [rounds_succ]
  go_wp2
  exact bodyPost_ret (v := .agg #[.bool true, .bool (hitsP 1 E 2), .bool (hitsP 1 E 3), .bool (hitsP 1 E 0), .bool (hitsP 1 E 1)]) (by simp [results, Tryz.results138, go_sem, a0, a1, a2, a3, a4]) rfl ⟨rfl, by repeat (first | with_reducible exact Below.refl _ _ | (with_reducible refine kSet ?_ ?hB _; case hB => (simp; try omega)) | with_reducible refine kAlloc ?_ _ | with_reducible refine Below.drew ?_ | with_reducible refine kDrewN ?_ _ | with_reducible refine kTrans ?_ (by assumption))⟩
set_option maxHeartbeats 4000000 in
theorem rx_1_2_no (x y d s E : Int) (w : World) (hs : 0 ≤ s ∧ s ≤ 3) (he : 0 ≤ E ∧ E ≤ 3) (hE : E = (s + 2) % 4) (hf : fallsP 1 E = false) :
    Calls Tryz.prog 138 #[.agg #[.int .i8 x, .int .i8 y, .int .i8 1, .int .i8 2, .int .i8 d], .int .i8 s] w fun r w' => r = .returned (.agg #[.bool false, .bool false, .bool false, .bool false, .bool false]) ∧ Below w.heap.size w w' := by
  have HE := Lib.hid hE
  have HF := Lib.hid hf
  clear hE hf
  go_enter Tryz.func138, Tryz.ntmps138
  go_wp2_with fail
  refine (kindOf_any 1 _ (by omega)).mono ?_
  rintro r w1 ⟨rfl, hb1⟩
  have hk1 : Below w.heap.size w w1 := by repeat (first | with_reducible exact Below.refl _ _ | (with_reducible refine kSet ?_ ?hB _; case hB => (simp; try omega)) | with_reducible refine kAlloc ?_ _ | with_reducible refine Below.drew ?_ | with_reducible refine kDrewN ?_ _ | with_reducible refine kTrans ?_ (by assumption))
  have hz1 : w.heap.size + 1 < w1.heap.size := by have := hb1.size; simp at this; omega
  have hp1 := ((PcAt.box w ⟨x, y, 1, 2, d⟩ 144).below (w' := (w.alloc (.cells #[.int .i8 x, .int .i8 y, .int .i8 1, .int .i8 2, .int .i8 d] 144)).alloc (.cells #[.bool false, .bool false, .bool false, .bool false, .bool false] 219)) (by repeat (first | with_reducible exact Below.refl _ _ | (with_reducible refine kSet ?_ ?hB _; case hB => (simp; try omega)) | with_reducible refine kAlloc ?_ _ | with_reducible refine Below.drew ?_ | with_reducible refine kDrewN ?_ _ | with_reducible refine kTrans ?_ (by assumption))) (by simp)).below hb1 (by simp; omega)
  have ha1 := (RAt.new (w.alloc (.cells #[.int .i8 x, .int .i8 y, .int .i8 1, .int .i8 2, .int .i8 d] 144)) (.bool false) (.bool false) (.bool false) (.bool false) (.bool false) 219).below hb1
  simp only [World.size_alloc] at ha1
  obtain ⟨c0, c1, c2, c3, c4⟩ := hp1
  simp only [Nat.zero_add] at c0 c1 c2 c3 c4
  have Ha1 := Lib.hid ha1
  clear ha1 hb1
  go_wp2_with fail
  refine (wrapQuarters_any _ _ (by omega)).mono ?_
  rintro r w2 ⟨rfl, rfl⟩
  go_wp2_with fail
  refine (turned_to _ _ E _ hs (by omega) (by have := HE.out; omega)).mono ?_
  rintro r w2 ⟨rfl, hb2⟩
  unfold kindV
  go_wp2_with fail
  refine (falls_1 E _ he _ HF.out).mono ?_
  rintro r w3 ⟨rfl, hb3⟩
  have hk3 := kTrans (kTrans hk1 hb2) hb3
  have hl3 : w.heap.size + 1 < w3.heap.size := by have := hb2.size; have := hb3.size; omega
  have hp3 := ((show PcAt w1 w.heap.size 0 ⟨x, y, 1, 2, d⟩ from ⟨c0, c1, c2, c3, c4⟩).below hb2 (by omega)).below hb3 (by have := hb2.size; omega)
  have ha3 := (Ha1.out.below hb2).below hb3
  clear c0 c1 c2 c3 c4 hb2 hb3 hk1 hz1 Ha1
  have a0 := (ha3.2 0 (by omega)).1
  have a1 := (ha3.2 1 (by omega)).1
  have a2 := (ha3.2 2 (by omega)).1
  have a3 := (ha3.2 3 (by omega)).1
  have a4 := (ha3.2 4 (by omega)).1
  have f0 := (ha3.2 0 (by omega)).2
  have f1 := (ha3.2 1 (by omega)).2
  have f2 := (ha3.2 2 (by omega)).2
  have f3 := (ha3.2 3 (by omega)).2
  have f4 := (ha3.2 4 (by omega)).2
  simp only at a0 a1 a2 a3 a4
  clear ha3 hp3
  go_wp2
  exact bodyPost_ret (v := .agg #[.bool false, .bool false, .bool false, .bool false, .bool false]) (by simp [results, Tryz.results138, go_sem, a0, a1, a2, a3, a4]) rfl ⟨rfl, by repeat (first | with_reducible exact Below.refl _ _ | (with_reducible refine kSet ?_ ?hB _; case hB => (simp; try omega)) | with_reducible refine kAlloc ?_ _ | with_reducible refine Below.drew ?_ | with_reducible refine kDrewN ?_ _ | with_reducible refine kTrans ?_ (by assumption))⟩
set_option maxHeartbeats 4000000 in
theorem rx_1_3_yes (x y d s E : Int) (w : World) (hs : 0 ≤ s ∧ s ≤ 3) (he : 0 ≤ E ∧ E ≤ 3) (hE : E = (s + 1) % 4) (hf : fallsP 1 E = true) :
    Calls Tryz.prog 138 #[.agg #[.int .i8 x, .int .i8 y, .int .i8 1, .int .i8 3, .int .i8 d], .int .i8 s] w fun r w' => r = .returned (.agg #[.bool true, .bool (hitsP 1 E 1), .bool (hitsP 1 E 2), .bool (hitsP 1 E 3), .bool (hitsP 1 E 0)]) ∧ Below w.heap.size w w' := by
  have HE := Lib.hid hE
  have HF := Lib.hid hf
  clear hE hf
  go_enter Tryz.func138, Tryz.ntmps138
  go_wp2_with fail
  refine (kindOf_any 1 _ (by omega)).mono ?_
  rintro r w1 ⟨rfl, hb1⟩
  have hk1 : Below w.heap.size w w1 := by repeat (first | with_reducible exact Below.refl _ _ | (with_reducible refine kSet ?_ ?hB _; case hB => (simp; try omega)) | with_reducible refine kAlloc ?_ _ | with_reducible refine Below.drew ?_ | with_reducible refine kDrewN ?_ _ | with_reducible refine kTrans ?_ (by assumption))
  have hz1 : w.heap.size + 1 < w1.heap.size := by have := hb1.size; simp at this; omega
  have hp1 := ((PcAt.box w ⟨x, y, 1, 3, d⟩ 144).below (w' := (w.alloc (.cells #[.int .i8 x, .int .i8 y, .int .i8 1, .int .i8 3, .int .i8 d] 144)).alloc (.cells #[.bool false, .bool false, .bool false, .bool false, .bool false] 219)) (by repeat (first | with_reducible exact Below.refl _ _ | (with_reducible refine kSet ?_ ?hB _; case hB => (simp; try omega)) | with_reducible refine kAlloc ?_ _ | with_reducible refine Below.drew ?_ | with_reducible refine kDrewN ?_ _ | with_reducible refine kTrans ?_ (by assumption))) (by simp)).below hb1 (by simp; omega)
  have ha1 := (RAt.new (w.alloc (.cells #[.int .i8 x, .int .i8 y, .int .i8 1, .int .i8 3, .int .i8 d] 144)) (.bool false) (.bool false) (.bool false) (.bool false) (.bool false) 219).below hb1
  simp only [World.size_alloc] at ha1
  obtain ⟨c0, c1, c2, c3, c4⟩ := hp1
  simp only [Nat.zero_add] at c0 c1 c2 c3 c4
  have Ha1 := Lib.hid ha1
  clear ha1 hb1
  go_wp2_with fail
  refine (wrapQuarters_any _ _ (by omega)).mono ?_
  rintro r w2 ⟨rfl, rfl⟩
  go_wp2_with fail
  refine (turned_to _ _ E _ hs (by omega) (by have := HE.out; omega)).mono ?_
  rintro r w2 ⟨rfl, hb2⟩
  unfold kindV
  go_wp2_with fail
  refine (falls_1 E _ he _ HF.out).mono ?_
  rintro r w3 ⟨rfl, hb3⟩
  have hk3 := kTrans (kTrans hk1 hb2) hb3
  have hl3 : w.heap.size + 1 < w3.heap.size := by have := hb2.size; have := hb3.size; omega
  have hp3 := ((show PcAt w1 w.heap.size 0 ⟨x, y, 1, 3, d⟩ from ⟨c0, c1, c2, c3, c4⟩).below hb2 (by omega)).below hb3 (by have := hb2.size; omega)
  have ha3 := (Ha1.out.below hb2).below hb3
  clear c0 c1 c2 c3 c4 hb2 hb3 hk1 hz1 Ha1
  have Hp3 := Lib.hid hp3
  have Ha3 := Lib.hid ha3
  have hz3 : w.heap.size < w3.heap.size := by omega
  clear hp3 ha3
  go_wp2_with fail
  refine (hitsK_1 E _ he).mono ?_
  rintro r w4 ⟨rfl, hb4⟩
  have hk4 := kTrans (kAlloc hk3 _) hb4
  have hp4 := (Hp3.out.below (w' := w3.alloc (.cells #[.bool true, .bool false, .bool false, .bool false, .bool false] 219)) (by repeat (first | with_reducible exact Below.refl _ _ | (with_reducible refine kSet ?_ ?hB _; case hB => (simp; try omega)) | with_reducible refine kAlloc ?_ _ | with_reducible refine Below.drew ?_ | with_reducible refine kDrewN ?_ _ | with_reducible refine kTrans ?_ (by assumption))) (by omega)).below hb4 (by simp; omega)
  have ha4 := (Ha3.out.below (w' := w3.alloc (.cells #[.bool true, .bool false, .bool false, .bool false, .bool false] 219)) (by repeat (first | with_reducible exact Below.refl _ _ | (with_reducible refine kSet ?_ ?hB _; case hB => (simp; try omega)) | with_reducible refine kAlloc ?_ _ | with_reducible refine Below.drew ?_ | with_reducible refine kDrewN ?_ _ | with_reducible refine kTrans ?_ (by assumption)))).below hb4
  have hr4 := (RAt.new w3 (.bool true) (.bool false) (.bool false) (.bool false) (.bool false) 219).below hb4
  have neB1 : w3.heap.size ≠ w.heap.size := by omega
  have neB2 : w3.heap.size ≠ w.heap.size + 1 := by omega
  have nep1 := Lib.hid neB1
  have nea1 := Lib.hid neB2
  obtain ⟨c0, c1, c2, c3, c4⟩ := hp4
  simp only [Nat.zero_add] at c0 c1 c2 c3 c4
  have Ha4 := Lib.hid ha4
  have Hr4 := Lib.hid hr4
  clear hb4 Hp3 Ha3 ha4 hr4 hk3 neB1 neB2
  have i0 := idx4_0
  have i1 := idx4_1
  have i2 := idx4_2
  have i3 := idx4_3
  go_wp2
  refine wp_loop_rounds 5 ?_
  rw [rounds_succ]
  go_wp2_with fail
  refine (turned_to 0 3 3 _ (by omega) (by omega) (by omega)).mono ?_
  rintro r w5 ⟨rfl, hb5⟩
  have hp := ((show PcAt w4 w.heap.size 0 ⟨x, y, 1, 3, d⟩ from ⟨c0, c1, c2, c3, c4⟩)).below hb5 (by have := hk4.size; have := Hr4.out.1; omega)
  have ha := Ha4.out.below hb5
  have hr := Hr4.out.below hb5
  have hk5 := kTrans hk4 hb5
  clear c0 c1 c2 c3 c4 Ha4 Hr4 hb5 hk4
  obtain ⟨c0, c1, c2, c3, c4⟩ := hp
  simp only [Nat.zero_add] at c0 c1 c2 c3 c4
  have d0 := (hr.2 0 (by omega)).1
  have d1 := (hr.2 1 (by omega)).1
  have d2 := (hr.2 2 (by omega)).1
  have d3 := (hr.2 3 (by omega)).1
  have d4 := (hr.2 4 (by omega)).1
  have f0 := (hr.2 0 (by omega)).2
  have f1 := (hr.2 1 (by omega)).2
  have f2 := (hr.2 2 (by omega)).2
  have f3 := (hr.2 3 (by omega)).2
  have f4 := (hr.2 4 (by omega)).2
  simp only at d0 d1 d2 d3 d4
  have Ha5 := Lib.hid ha
  have Hr5 := Lib.hid hr
  clear ha hr
  go_wp2
  rw [rounds_succ]
  go_wp2_with fail
  refine (turned_to 1 3 0 _ (by omega) (by omega) (by omega)).mono ?_
  rintro r w6 ⟨rfl, hb6⟩
  have hp := (PcAt.set (i := 4) (v := .bool (hitsP 1 E 0)) (show PcAt w5 w.heap.size 0 ⟨x, y, 1, 3, d⟩ from ⟨c0, c1, c2, c3, c4⟩) nep1.out).below hb6 (by have := Hr5.out.1; simp only [World.size_setCell]; omega)
  have ha := (Ha5.out.other (i := 4) (v := .bool (hitsP 1 E 0)) nea1.out).below hb6
  have hr := (Hr5.out.set (i := 4) (v := .bool (hitsP 1 E 0))).below hb6
  have hk6 := kTrans (kSet hk5 (p := ⟨w3.heap.size, 4, none⟩) (by simp; omega) (.bool (hitsP 1 E 0))) hb6
  clear c0 c1 c2 c3 c4 d0 d1 d2 d3 d4 f0 f1 f2 f3 f4 Ha5 Hr5 hb6 hk5
  obtain ⟨c0, c1, c2, c3, c4⟩ := hp
  simp only [Nat.zero_add] at c0 c1 c2 c3 c4
  have d0 := (hr.2 0 (by omega)).1
  have d1 := (hr.2 1 (by omega)).1
  have d2 := (hr.2 2 (by omega)).1
  have d3 := (hr.2 3 (by omega)).1
  have d4 := (hr.2 4 (by omega)).1
  have f0 := (hr.2 0 (by omega)).2
  have f1 := (hr.2 1 (by omega)).2
  have f2 := (hr.2 2 (by omega)).2
  have f3 := (hr.2 3 (by omega)).2
  have f4 := (hr.2 4 (by omega)).2
  simp only [reduceIte, Nat.reduceEqDiff] at d0 d1 d2 d3 d4
  have Ha6 := Lib.hid ha
  have Hr6 := Lib.hid hr
  clear ha hr
  go_wp2
  rw [rounds_succ]
  go_wp2_with fail
  refine (turned_to 2 3 1 _ (by omega) (by omega) (by omega)).mono ?_
  rintro r w7 ⟨rfl, hb7⟩
  have hp := (PcAt.set (i := 1) (v := .bool (hitsP 1 E 1)) (show PcAt w6 w.heap.size 0 ⟨x, y, 1, 3, d⟩ from ⟨c0, c1, c2, c3, c4⟩) nep1.out).below hb7 (by have := Hr6.out.1; simp only [World.size_setCell]; omega)
  have ha := (Ha6.out.other (i := 1) (v := .bool (hitsP 1 E 1)) nea1.out).below hb7
  have hr := (Hr6.out.set (i := 1) (v := .bool (hitsP 1 E 1))).below hb7
  have hk7 := kTrans (kSet hk6 (p := ⟨w3.heap.size, 1, none⟩) (by simp; omega) (.bool (hitsP 1 E 1))) hb7
  clear c0 c1 c2 c3 c4 d0 d1 d2 d3 d4 f0 f1 f2 f3 f4 Ha6 Hr6 hb7 hk6
  obtain ⟨c0, c1, c2, c3, c4⟩ := hp
  simp only [Nat.zero_add] at c0 c1 c2 c3 c4
  have d0 := (hr.2 0 (by omega)).1
  have d1 := (hr.2 1 (by omega)).1
  have d2 := (hr.2 2 (by omega)).1
  have d3 := (hr.2 3 (by omega)).1
  have d4 := (hr.2 4 (by omega)).1
  have f0 := (hr.2 0 (by omega)).2
  have f1 := (hr.2 1 (by omega)).2
  have f2 := (hr.2 2 (by omega)).2
  have f3 := (hr.2 3 (by omega)).2
  have f4 := (hr.2 4 (by omega)).2
  simp only [reduceIte, Nat.reduceEqDiff] at d0 d1 d2 d3 d4
  have Ha7 := Lib.hid ha
  have Hr7 := Lib.hid hr
  clear ha hr
  go_wp2
  rw [rounds_succ]
  go_wp2_with fail
  refine (turned_to 3 3 2 _ (by omega) (by omega) (by omega)).mono ?_
  rintro r w8 ⟨rfl, hb8⟩
  have hp := (PcAt.set (i := 2) (v := .bool (hitsP 1 E 2)) (show PcAt w7 w.heap.size 0 ⟨x, y, 1, 3, d⟩ from ⟨c0, c1, c2, c3, c4⟩) nep1.out).below hb8 (by have := Hr7.out.1; simp only [World.size_setCell]; omega)
  have ha := (Ha7.out.other (i := 2) (v := .bool (hitsP 1 E 2)) nea1.out).below hb8
  have hr := (Hr7.out.set (i := 2) (v := .bool (hitsP 1 E 2))).below hb8
  have hk8 := kTrans (kSet hk7 (p := ⟨w3.heap.size, 2, none⟩) (by simp; omega) (.bool (hitsP 1 E 2))) hb8
  clear c0 c1 c2 c3 c4 d0 d1 d2 d3 d4 f0 f1 f2 f3 f4 Ha7 Hr7 hb8 hk7
  obtain ⟨c0, c1, c2, c3, c4⟩ := hp
  simp only [Nat.zero_add] at c0 c1 c2 c3 c4
  have d0 := (hr.2 0 (by omega)).1
  have d1 := (hr.2 1 (by omega)).1
  have d2 := (hr.2 2 (by omega)).1
  have d3 := (hr.2 3 (by omega)).1
  have d4 := (hr.2 4 (by omega)).1
  have f0 := (hr.2 0 (by omega)).2
  have f1 := (hr.2 1 (by omega)).2
  have f2 := (hr.2 2 (by omega)).2
  have f3 := (hr.2 3 (by omega)).2
  have f4 := (hr.2 4 (by omega)).2
  simp only [reduceIte, Nat.reduceEqDiff] at d0 d1 d2 d3 d4
  have Ha8 := Lib.hid ha
  have Hr8 := Lib.hid hr
  clear ha hr
  go_wp2
  have a0 := (Ha8.out.2 0 (by omega)).1
  have a1 := (Ha8.out.2 1 (by omega)).1
  have a2 := (Ha8.out.2 2 (by omega)).1
  have a3 := (Ha8.out.2 3 (by omega)).1
  have a4 := (Ha8.out.2 4 (by omega)).1
  have g0 := (Ha8.out.2 0 (by omega)).2
  have g1 := (Ha8.out.2 1 (by omega)).2
  have g2 := (Ha8.out.2 2 (by omega)).2
  have g3 := (Ha8.out.2 3 (by omega)).2
  have g4 := (Ha8.out.2 4 (by omega)).2
  simp only at a0 a1 a2 a3 a4
  have ne1 := nep1.out
  have ne2 := nea1.out
  clear Ha8 Hr8
  rw [rounds_succ]
  go_wp2
  exact bodyPost_ret (v := .agg #[.bool true, .bool (hitsP 1 E 1), .bool (hitsP 1 E 2), .bool (hitsP 1 E 3), .bool (hitsP 1 E 0)]) (by simp [results, Tryz.results138, go_sem, a0, a1, a2, a3, a4]) rfl ⟨rfl, by repeat (first | with_reducible exact Below.refl _ _ | (with_reducible refine kSet ?_ ?hB _; case hB => (simp; try omega)) | with_reducible refine kAlloc ?_ _ | with_reducible refine Below.drew ?_ | with_reducible refine kDrewN ?_ _ | with_reducible refine kTrans ?_ (by assumption))⟩
set_option maxHeartbeats 4000000 in
theorem rx_1_3_no (x y d s E : Int) (w : World) (hs : 0 ≤ s ∧ s ≤ 3) (he : 0 ≤ E ∧ E ≤ 3) (hE : E = (s + 1) % 4) (hf : fallsP 1 E = false) :
    Calls Tryz.prog 138 #[.agg #[.int .i8 x, .int .i8 y, .int .i8 1, .int .i8 3, .int .i8 d], .int .i8 s] w fun r w' => r = .returned (.agg #[.bool false, .bool false, .bool false, .bool false, .bool false]) ∧ Below w.heap.size w w' := by
  have HE := Lib.hid hE
  have HF := Lib.hid hf
  clear hE hf
  go_enter Tryz.func138, Tryz.ntmps138
  go_wp2_with fail
  refine (kindOf_any 1 _ (by omega)).mono ?_
  rintro r w1 ⟨rfl, hb1⟩
  have hk1 : Below w.heap.size w w1 := by repeat (first | with_reducible exact Below.refl _ _ | (with_reducible refine kSet ?_ ?hB _; case hB => (simp; try omega)) | with_reducible refine kAlloc ?_ _ | with_reducible refine Below.drew ?_ | with_reducible refine kDrewN ?_ _ | with_reducible refine kTrans ?_ (by assumption))
  have hz1 : w.heap.size + 1 < w1.heap.size := by have := hb1.size; simp at this; omega
  have hp1 := ((PcAt.box w ⟨x, y, 1, 3, d⟩ 144).below (w' := (w.alloc (.cells #[.int .i8 x, .int .i8 y, .int .i8 1, .int .i8 3, .int .i8 d] 144)).alloc (.cells #[.bool false, .bool false, .bool false, .bool false, .bool false] 219)) (by repeat (first | with_reducible exact Below.refl _ _ | (with_reducible refine kSet ?_ ?hB _; case hB => (simp; try omega)) | with_reducible refine kAlloc ?_ _ | with_reducible refine Below.drew ?_ | with_reducible refine kDrewN ?_ _ | with_reducible refine kTrans ?_ (by assumption))) (by simp)).below hb1 (by simp; omega)
  have ha1 := (RAt.new (w.alloc (.cells #[.int .i8 x, .int .i8 y, .int .i8 1, .int .i8 3, .int .i8 d] 144)) (.bool false) (.bool false) (.bool false) (.bool false) (.bool false) 219).below hb1
  simp only [World.size_alloc] at ha1
  obtain ⟨c0, c1, c2, c3, c4⟩ := hp1
  simp only [Nat.zero_add] at c0 c1 c2 c3 c4
  have Ha1 := Lib.hid ha1
  clear ha1 hb1
  go_wp2_with fail
  refine (wrapQuarters_any _ _ (by omega)).mono ?_
  rintro r w2 ⟨rfl, rfl⟩
  go_wp2_with fail
  refine (turned_to _ _ E _ hs (by omega) (by have := HE.out; omega)).mono ?_
  rintro r w2 ⟨rfl, hb2⟩
  unfold kindV
  go_wp2_with fail
  refine (falls_1 E _ he _ HF.out).mono ?_
  rintro r w3 ⟨rfl, hb3⟩
  have hk3 := kTrans (kTrans hk1 hb2) hb3
  have hl3 : w.heap.size + 1 < w3.heap.size := by have := hb2.size; have := hb3.size; omega
  have hp3 := ((show PcAt w1 w.heap.size 0 ⟨x, y, 1, 3, d⟩ from ⟨c0, c1, c2, c3, c4⟩).below hb2 (by omega)).below hb3 (by have := hb2.size; omega)
  have ha3 := (Ha1.out.below hb2).below hb3
  clear c0 c1 c2 c3 c4 hb2 hb3 hk1 hz1 Ha1
  have a0 := (ha3.2 0 (by omega)).1
  have a1 := (ha3.2 1 (by omega)).1
  have a2 := (ha3.2 2 (by omega)).1
  have a3 := (ha3.2 3 (by omega)).1
  have a4 := (ha3.2 4 (by omega)).1
  have f0 := (ha3.2 0 (by omega)).2
  have f1 := (ha3.2 1 (by omega)).2
  have f2 := (ha3.2 2 (by omega)).2
  have f3 := (ha3.2 3 (by omega)).2
  have f4 := (ha3.2 4 (by omega)).2
  simp only at a0 a1 a2 a3 a4
  clear ha3 hp3
  go_wp2
  exact bodyPost_ret (v := .agg #[.bool false, .bool false, .bool false, .bool false, .bool false]) (by simp [results, Tryz.results138, go_sem, a0, a1, a2, a3, a4]) rfl ⟨rfl, by repeat (first | with_reducible exact Below.refl _ _ | (with_reducible refine kSet ?_ ?hB _; case hB => (simp; try omega)) | with_reducible refine kAlloc ?_ _ | with_reducible refine Below.drew ?_ | with_reducible refine kDrewN ?_ _ | with_reducible refine kTrans ?_ (by assumption))⟩
end Go.Proofs.YthohngkdfhpieaaGreatDoor
