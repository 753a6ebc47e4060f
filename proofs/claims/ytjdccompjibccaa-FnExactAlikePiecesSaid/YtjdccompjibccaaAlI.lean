/- AlikePieces: the program. -/
import Derived.Test.YtjdccompjibccaaAlA
import Derived.Test.YtjdccompjibccaaAlS
import Derived.Deep.RegionHeld3
namespace Go.Proofs.Ytjdccompjibccaa
open Go.ChangeShapes Go.WideShapes Go.ChangeAt Go.RowKit
set_option linter.unusedVariables false

set_option maxRecDepth 100000 in
set_option maxHeartbeats 4000000 in
theorem implAlike_any (p q : Pc) (w : World) (hp : p.in8) (hq : q.in8) (R : Bool) (C : Int) (hQ : alikeQ p q = (R, C)) :
    Calls Try.prog 6 #[.agg #[.int .i8 p.x, .int .i8 p.y, .int .i8 p.kind, .int .i8 p.turn, .int .i8 p.delay], .agg #[.int .i8 q.x, .int .i8 q.y, .int .i8 q.kind, .int .i8 q.turn, .int .i8 q.delay]] w fun e w' => e = .returned (.tuple #[.bool R, .int .i64 C]) ∧ Below w.heap.size w w' := by
  cases g1 : p.ok with
  | false =>
    obtain ⟨rfl, rfl⟩ := pair_bi (show (false, 1) = (R, C) from ((by unfold alikeQ; rw [if_neg (by simp [g1])]) : alikeQ p q = (false, 1)).symm.trans hQ)
    clear hQ
    have G1 := Lib.hid g1
    clear g1
    go_enter Try.func6, Try.ntmps6
    go_wp2_with fail
    refine (implValidPiece_any p _ hp false G1.out.symm).mono ?_
    rintro e w1_ ⟨rfl, b1_⟩
    have B1_ : Below w.heap.size w w1_ := kTrans (kAlloc (kAlloc (Below.refl _ _) _) _) b1_
    have n1_ : w.heap.size + 2 ≤ w1_.heap.size := by have := b1_.size; simpa using this
    have T1_ : Below w.heap.size w w1_ := B1_
    have p_1_ := Lib.hid (show w1_.heap[w.heap.size]? = some (.cells #[.int .i8 p.x, .int .i8 p.y, .int .i8 p.kind, .int .i8 p.turn, .int .i8 p.delay] 30 (0, 0)) from blk_below ((Below.heap_alloc _ (.cells #[.int .i8 q.x, .int .i8 q.y, .int .i8 q.kind, .int .i8 q.turn, .int .i8 q.delay] 30) _ (by simp; try omega)).trans (heap_alloc_new w (.cells #[.int .i8 p.x, .int .i8 p.y, .int .i8 p.kind, .int .i8 p.turn, .int .i8 p.delay] 30))) b1_)
    have q_1_ := Lib.hid (show w1_.heap[w.heap.size + 1]? = some (.cells #[.int .i8 q.x, .int .i8 q.y, .int .i8 q.kind, .int .i8 q.turn, .int .i8 q.delay] 30 (0, 0)) from blk_below (show ((w.alloc (.cells #[.int .i8 p.x, .int .i8 p.y, .int .i8 p.kind, .int .i8 p.turn, .int .i8 p.delay] 30)).alloc (.cells #[.int .i8 q.x, .int .i8 q.y, .int .i8 q.kind, .int .i8 q.turn, .int .i8 q.delay] 30)).heap[w.heap.size + 1]? = some _ from by have h := heap_alloc_new (w.alloc (.cells #[.int .i8 p.x, .int .i8 p.y, .int .i8 p.kind, .int .i8 p.turn, .int .i8 p.delay] 30)) (.cells #[.int .i8 q.x, .int .i8 q.y, .int .i8 q.kind, .int .i8 q.turn, .int .i8 q.delay] 30); simpa only [World.size_alloc] using h) b1_)
    clear b1_ B1_
    go_wp2
    go_ret2
    exact ⟨rfl, T1_⟩
  | true =>
    have G1 := Lib.hid g1
    clear g1
    cases g2 : q.ok with
    | false =>
      obtain ⟨rfl, rfl⟩ := pair_bi (show (false, 1) = (R, C) from ((by unfold alikeQ; rw [if_neg (by simp [g2])]) : alikeQ p q = (false, 1)).symm.trans hQ)
      clear hQ
      have G2 := Lib.hid g2
      clear g2
      go_enter Try.func6, Try.ntmps6
      go_wp2_with fail
      refine (implValidPiece_any p _ hp true G1.out.symm).mono ?_
      rintro e w1_ ⟨rfl, b1_⟩
      have B1_ : Below w.heap.size w w1_ := kTrans (kAlloc (kAlloc (Below.refl _ _) _) _) b1_
      have n1_ : w.heap.size + 2 ≤ w1_.heap.size := by have := b1_.size; simpa using this
      have T1_ : Below w.heap.size w w1_ := B1_
      have p_1_ := Lib.hid (show w1_.heap[w.heap.size]? = some (.cells #[.int .i8 p.x, .int .i8 p.y, .int .i8 p.kind, .int .i8 p.turn, .int .i8 p.delay] 30 (0, 0)) from blk_below ((Below.heap_alloc _ (.cells #[.int .i8 q.x, .int .i8 q.y, .int .i8 q.kind, .int .i8 q.turn, .int .i8 q.delay] 30) _ (by simp; try omega)).trans (heap_alloc_new w (.cells #[.int .i8 p.x, .int .i8 p.y, .int .i8 p.kind, .int .i8 p.turn, .int .i8 p.delay] 30))) b1_)
      have q_1_ := Lib.hid (show w1_.heap[w.heap.size + 1]? = some (.cells #[.int .i8 q.x, .int .i8 q.y, .int .i8 q.kind, .int .i8 q.turn, .int .i8 q.delay] 30 (0, 0)) from blk_below (show ((w.alloc (.cells #[.int .i8 p.x, .int .i8 p.y, .int .i8 p.kind, .int .i8 p.turn, .int .i8 p.delay] 30)).alloc (.cells #[.int .i8 q.x, .int .i8 q.y, .int .i8 q.kind, .int .i8 q.turn, .int .i8 q.delay] 30)).heap[w.heap.size + 1]? = some _ from by have h := heap_alloc_new (w.alloc (.cells #[.int .i8 p.x, .int .i8 p.y, .int .i8 p.kind, .int .i8 p.turn, .int .i8 p.delay] 30)) (.cells #[.int .i8 q.x, .int .i8 q.y, .int .i8 q.kind, .int .i8 q.turn, .int .i8 q.delay] 30); simpa only [World.size_alloc] using h) b1_)
      clear b1_ B1_
      have cq_0 : w1_.cell? ⟨w.heap.size + 1, 0, none⟩ = some (.int .i8 q.x) := cell_of_row _ _ 0 _ _ _ q_1_.out
      have cq_1 : w1_.cell? ⟨w.heap.size + 1, 1, none⟩ = some (.int .i8 q.y) := cell_of_row _ _ 1 _ _ _ q_1_.out
      have cq_2 : w1_.cell? ⟨w.heap.size + 1, 2, none⟩ = some (.int .i8 q.kind) := cell_of_row _ _ 2 _ _ _ q_1_.out
      have cq_3 : w1_.cell? ⟨w.heap.size + 1, 3, none⟩ = some (.int .i8 q.turn) := cell_of_row _ _ 3 _ _ _ q_1_.out
      have cq_4 : w1_.cell? ⟨w.heap.size + 1, 4, none⟩ = some (.int .i8 q.delay) := cell_of_row _ _ 4 _ _ _ q_1_.out
      go_wp2_with fail
      refine (implValidPiece_any q _ hq false G2.out.symm).mono ?_
      rintro e w2_ ⟨rfl, b2_⟩
      have n2_ : w1_.heap.size ≤ w2_.heap.size := b2_.size
      have T2_ : Below w.heap.size w w2_ := kTrans T1_ b2_
      have p_2_ := Lib.hid (blk_below p_1_.out b2_)
      have q_2_ := Lib.hid (blk_below q_1_.out b2_)
      clear cq_0 cq_1 cq_2 cq_3 cq_4 p_1_ q_1_ b2_ T1_
      go_wp2
      go_ret2
      exact ⟨rfl, T2_⟩
    | true =>
      have G2 := Lib.hid g2
      clear g2
      obtain ⟨hk1, ht1⟩ := Pc.ok_kt G1.out
      obtain ⟨hk2, ht2⟩ := Pc.ok_kt G2.out
      go_enter Try.func6, Try.ntmps6
      go_wp2_with fail
      refine (implValidPiece_any p _ hp true G1.out.symm).mono ?_
      rintro e w1_ ⟨rfl, b1_⟩
      have B1_ : Below w.heap.size w w1_ := kTrans (kAlloc (kAlloc (Below.refl _ _) _) _) b1_
      have n1_ : w.heap.size + 2 ≤ w1_.heap.size := by have := b1_.size; simpa using this
      have T1_ : Below w.heap.size w w1_ := B1_
      have p_1_ := Lib.hid (show w1_.heap[w.heap.size]? = some (.cells #[.int .i8 p.x, .int .i8 p.y, .int .i8 p.kind, .int .i8 p.turn, .int .i8 p.delay] 30 (0, 0)) from blk_below ((Below.heap_alloc _ (.cells #[.int .i8 q.x, .int .i8 q.y, .int .i8 q.kind, .int .i8 q.turn, .int .i8 q.delay] 30) _ (by simp; try omega)).trans (heap_alloc_new w (.cells #[.int .i8 p.x, .int .i8 p.y, .int .i8 p.kind, .int .i8 p.turn, .int .i8 p.delay] 30))) b1_)
      have q_1_ := Lib.hid (show w1_.heap[w.heap.size + 1]? = some (.cells #[.int .i8 q.x, .int .i8 q.y, .int .i8 q.kind, .int .i8 q.turn, .int .i8 q.delay] 30 (0, 0)) from blk_below (show ((w.alloc (.cells #[.int .i8 p.x, .int .i8 p.y, .int .i8 p.kind, .int .i8 p.turn, .int .i8 p.delay] 30)).alloc (.cells #[.int .i8 q.x, .int .i8 q.y, .int .i8 q.kind, .int .i8 q.turn, .int .i8 q.delay] 30)).heap[w.heap.size + 1]? = some _ from by have h := heap_alloc_new (w.alloc (.cells #[.int .i8 p.x, .int .i8 p.y, .int .i8 p.kind, .int .i8 p.turn, .int .i8 p.delay] 30)) (.cells #[.int .i8 q.x, .int .i8 q.y, .int .i8 q.kind, .int .i8 q.turn, .int .i8 q.delay] 30); simpa only [World.size_alloc] using h) b1_)
      clear b1_ B1_
      have cq_0 : w1_.cell? ⟨w.heap.size + 1, 0, none⟩ = some (.int .i8 q.x) := cell_of_row _ _ 0 _ _ _ q_1_.out
      have cq_1 : w1_.cell? ⟨w.heap.size + 1, 1, none⟩ = some (.int .i8 q.y) := cell_of_row _ _ 1 _ _ _ q_1_.out
      have cq_2 : w1_.cell? ⟨w.heap.size + 1, 2, none⟩ = some (.int .i8 q.kind) := cell_of_row _ _ 2 _ _ _ q_1_.out
      have cq_3 : w1_.cell? ⟨w.heap.size + 1, 3, none⟩ = some (.int .i8 q.turn) := cell_of_row _ _ 3 _ _ _ q_1_.out
      have cq_4 : w1_.cell? ⟨w.heap.size + 1, 4, none⟩ = some (.int .i8 q.delay) := cell_of_row _ _ 4 _ _ _ q_1_.out
      go_wp2_with fail
      refine (implValidPiece_any q _ hq true G2.out.symm).mono ?_
      rintro e w2_ ⟨rfl, b2_⟩
      have n2_ : w1_.heap.size ≤ w2_.heap.size := b2_.size
      have T2_ : Below w.heap.size w w2_ := kTrans T1_ b2_
      have p_2_ := Lib.hid (blk_below p_1_.out b2_)
      have q_2_ := Lib.hid (blk_below q_1_.out b2_)
      clear cq_0 cq_1 cq_2 cq_3 cq_4 p_1_ q_1_ b2_ T1_
      have cp_0 : w2_.cell? ⟨w.heap.size, 0, none⟩ = some (.int .i8 p.x) := cell_of_row _ _ 0 _ _ _ p_2_.out
      have cp_1 : w2_.cell? ⟨w.heap.size, 1, none⟩ = some (.int .i8 p.y) := cell_of_row _ _ 1 _ _ _ p_2_.out
      have cp_2 : w2_.cell? ⟨w.heap.size, 2, none⟩ = some (.int .i8 p.kind) := cell_of_row _ _ 2 _ _ _ p_2_.out
      have cp_3 : w2_.cell? ⟨w.heap.size, 3, none⟩ = some (.int .i8 p.turn) := cell_of_row _ _ 3 _ _ _ p_2_.out
      have cp_4 : w2_.cell? ⟨w.heap.size, 4, none⟩ = some (.int .i8 p.delay) := cell_of_row _ _ 4 _ _ _ p_2_.out
      have cq_0 : w2_.cell? ⟨w.heap.size + 1, 0, none⟩ = some (.int .i8 q.x) := cell_of_row _ _ 0 _ _ _ q_2_.out
      have cq_1 : w2_.cell? ⟨w.heap.size + 1, 1, none⟩ = some (.int .i8 q.y) := cell_of_row _ _ 1 _ _ _ q_2_.out
      have cq_2 : w2_.cell? ⟨w.heap.size + 1, 2, none⟩ = some (.int .i8 q.kind) := cell_of_row _ _ 2 _ _ _ q_2_.out
      have cq_3 : w2_.cell? ⟨w.heap.size + 1, 3, none⟩ = some (.int .i8 q.turn) := cell_of_row _ _ 3 _ _ _ q_2_.out
      have cq_4 : w2_.cell? ⟨w.heap.size + 1, 4, none⟩ = some (.int .i8 q.delay) := cell_of_row _ _ 4 _ _ _ q_2_.out
      have lp_ := blk_lt p_2_.out
      have lq_ := blk_lt q_2_.out
      by_cases he : p.delay = q.delay
      · skip
        have e1 : (p.delay == q.delay) = true := by simpa using he
        have e2 : decide (p.delay = q.delay) = true := by simpa using he
        obtain ⟨rfl, rfl⟩ := pair_bi (show (sameB (does p) (does q), (0 : Int)) = (R, C) from ((by unfold alikeQ; rw [if_pos ⟨G1.out, G2.out⟩, e2, Bool.and_true]) : alikeQ p q = (sameB (does p) (does q), 0)).symm.trans hQ)
        have re := reacs_eq (rxF p.kind p.turn 0) (rxH p.kind p.turn 0 0) (rxH p.kind p.turn 0 1) (rxH p.kind p.turn 0 2) (rxH p.kind p.turn 0 3) (rxF p.kind p.turn 1) (rxH p.kind p.turn 1 0) (rxH p.kind p.turn 1 1) (rxH p.kind p.turn 1 2) (rxH p.kind p.turn 1 3) (rxF p.kind p.turn 2) (rxH p.kind p.turn 2 0) (rxH p.kind p.turn 2 1) (rxH p.kind p.turn 2 2) (rxH p.kind p.turn 2 3) (rxF p.kind p.turn 3) (rxH p.kind p.turn 3 0) (rxH p.kind p.turn 3 1) (rxH p.kind p.turn 3 2) (rxH p.kind p.turn 3 3) (rxF q.kind q.turn 0) (rxH q.kind q.turn 0 0) (rxH q.kind q.turn 0 1) (rxH q.kind q.turn 0 2) (rxH q.kind q.turn 0 3) (rxF q.kind q.turn 1) (rxH q.kind q.turn 1 0) (rxH q.kind q.turn 1 1) (rxH q.kind q.turn 1 2) (rxH q.kind q.turn 1 3) (rxF q.kind q.turn 2) (rxH q.kind q.turn 2 0) (rxH q.kind q.turn 2 1) (rxH q.kind q.turn 2 2) (rxH q.kind q.turn 2 3) (rxF q.kind q.turn 3) (rxH q.kind q.turn 3 0) (rxH q.kind q.turn 3 1) (rxH q.kind q.turn 3 2) (rxH q.kind q.turn 3 3)
        have He := Lib.hid he
        clear hQ he
        go_wp2_with fail
        refine wp_region_classA (fun w' => Below w2_.heap.size w2_ w') (by kernel_rfl) (by kernel_rfl) (Below.drew (Below.refl _ _)) ?_
        repeat (first
          | go_big_quiet_skip
          | (go_big_quiet_want; go_big_quiet_op; go_big_quiet_on)
          | (refine wpQuiet_step (fun K hK => ?_)
             go_simp
             refine hK _ ?_
             clear hK K)
          | (refine wpQuiet_step (fun K hK => ?_)
             go_simp
             apply Exists.intro
             refine ⟨fun w1 hw1 => ?_, hK _ ?_⟩
             · first
               | exact rfl
               | (go_at_call 11
                  (with_reducible refine (reactionsOf_any p _ hk1 ht1).mono ?_)
                  exact fun e w2 h => ⟨h.1, kTrans hw1 h.2⟩)
               | (go_at_call 11
                  (with_reducible refine (reactionsOf_any q _ hk2 ht2).mono ?_)
                  exact fun e w2 h => ⟨h.1, kTrans hw1 h.2⟩)
               | (have dp_0 := (hw1.cell (p := ⟨w.heap.size, 0, none⟩) lp_).trans cp_0
                  have dp_1 := (hw1.cell (p := ⟨w.heap.size, 1, none⟩) lp_).trans cp_1
                  have dp_2 := (hw1.cell (p := ⟨w.heap.size, 2, none⟩) lp_).trans cp_2
                  have dp_3 := (hw1.cell (p := ⟨w.heap.size, 3, none⟩) lp_).trans cp_3
                  have dp_4 := (hw1.cell (p := ⟨w.heap.size, 4, none⟩) lp_).trans cp_4
                  have dq_0 := (hw1.cell (p := ⟨w.heap.size + 1, 0, none⟩) lq_).trans cq_0
                  have dq_1 := (hw1.cell (p := ⟨w.heap.size + 1, 1, none⟩) lq_).trans cq_1
                  have dq_2 := (hw1.cell (p := ⟨w.heap.size + 1, 2, none⟩) lq_).trans cq_2
                  have dq_3 := (hw1.cell (p := ⟨w.heap.size + 1, 3, none⟩) lq_).trans cq_3
                  have dq_4 := (hw1.cell (p := ⟨w.heap.size + 1, 4, none⟩) lq_).trans cq_4
                  go_simp
                  exact rfl)
             clear hK K))
        refine wpQuiet_nil ?_
        intro w3 hw3
        have T9 := kTrans T2_ hw3
        go_wp2
        go_ret2
        exact ⟨rfl, T9⟩
      · skip
        have e1 : (p.delay == q.delay) = false := by simpa using he
        have e2 : decide (p.delay = q.delay) = false := by simpa using he
        obtain ⟨rfl, rfl⟩ := pair_bi (show (false, (0 : Int)) = (R, C) from ((by unfold alikeQ; rw [if_pos ⟨G1.out, G2.out⟩, e2, Bool.and_false]) : alikeQ p q = (false, 0)).symm.trans hQ)
        clear hQ he
        go_wp2_with fail
        go_quiet (fail)
        go_wp2
        go_ret2
        exact ⟨rfl, by first | exact T2_ | exact Below.drew T2_ | exact kDrewN T2_ _⟩
end Go.Proofs.Ytjdccompjibccaa
