/- ValidWay, both sides; ways as the laws have them. -/
import Derived.Test.YtflkfkbdgekpkaaDoorGr
import Derived.Test.YtflkfkbdgekpkaaDoorG4
namespace Go.Proofs.YtflkfkbdgekpkaaDoor
open Go.ChangeShapes Go.WideShapes Go.ChangeAt Go.RowKit
set_option linter.unusedVariables false
set_option linter.unusedSimpArgs false

theorem ints_six {cs : Array Value} {k0 k1 k2 k3 k4 k5 : IntKind} (h : Ints cs.toList [k0, k1, k2, k3, k4, k5]) :
    ∃ a b c d e f : Int, cs = #[.int k0 a, .int k1 b, .int k2 c, .int k3 d, .int k4 e, .int k5 f] ∧ (Lit.int k0 a).wf = true ∧ (Lit.int k1 b).wf = true ∧ (Lit.int k2 c).wf = true ∧ (Lit.int k3 d).wf = true ∧ (Lit.int k4 e).wf = true ∧ (Lit.int k5 f).wf = true := by
  obtain ⟨cs⟩ := cs
  match cs, h with
  | [_, _, _, _, _, _], ⟨⟨x, rfl, hx⟩, ⟨y, rfl, hy⟩, ⟨z, rfl, hz⟩, ⟨u, rfl, hu⟩, ⟨v, rfl, hv⟩, ⟨t, rfl, ht⟩, _⟩ => exact ⟨x, y, z, u, v, t, rfl, hx, hy, hz, hu, hv, ht⟩
theorem open_way {H : Type} {enc : TypeId × Value → H} {P : Program} {w w2 : World} {r : Reach} {b0 base : Nat} {spare : Nat → Bool} {held : Bool} {t : TypeId} {v : Value} {d : DataW H} {p : List MemPlace} {n : Nat}
    (hf : flat P n t = some [.i8, .i8, .i8, .i8, .i8, .i8]) (hs : isAggT P t = true) (hv : Value.okWide P w2 r b0 t v) (h : DataW.Trod enc P w base spare held t v d p) :
    ∃ p : Wy, v = .agg #[.int .i8 p.fx, .int .i8 p.fy, .int .i8 p.sd, .int .i8 p.tx, .int .i8 p.ty, .int .i8 p.ot] ∧ p.in8 := by
  obtain ⟨cs, rfl, hi⟩ := open_flat n hf hs hv h
  obtain ⟨x, y, z, t, u, q, rfl, hx, hy, hz, ht, hu, hq⟩ := ints_six hi
  exact ⟨⟨x, y, z, t, u, q⟩, rfl, i8_of hx, i8_of hy, i8_of hz, i8_of ht, i8_of hu, i8_of hq⟩
theorem flat_way : flat Tryd.prog 4 28 = some [.i8, .i8, .i8, .i8, .i8, .i8] := by kernel_rfl
theorem agg_way : isAggT Tryd.prog 28 = true := by kernel_rfl
set_option maxHeartbeats 2000000 in
theorem toWay_any (p : Wy) (w : World) :
    Calls Tryd.prog 10 #[.agg #[.int .i8 p.fx, .int .i8 p.fy, .int .i8 p.sd, .int .i8 p.tx, .int .i8 p.ty, .int .i8 p.ot]] w fun e w' => e = .returned (.agg #[.int .i8 p.fx, .int .i8 p.fy, .int .i8 p.sd, .int .i8 p.tx, .int .i8 p.ty, .int .i8 p.ot]) ∧ Below w.heap.size w w' := by
  obtain ⟨fx, fy, sd, tx, ty, ot⟩ := p
  go_enter Tryd.func10, Tryd.ntmps10
  go_wp2_with fail
  refine (toCell_any fx fy _).mono ?_
  rintro e w1_ ⟨rfl, b1_⟩
  have B1_ : Below w.heap.size w w1_ := kTrans (kAlloc (kAlloc (kAlloc (Below.refl _ _) _) _) _) b1_
  have n1_ : w.heap.size + 3 ≤ w1_.heap.size := by have := b1_.size; simpa using this
  have T1_ : Below w.heap.size w w1_ := B1_
  have a_1_ := Lib.hid (show w1_.heap[w.heap.size]? = some (.cells #[.int .i8 fx, .int .i8 fy, .int .i8 sd, .int .i8 tx, .int .i8 ty, .int .i8 ot] 28 (0, 0)) from blk_below ((Below.heap_alloc _ (.cells #[.int .i8 0, .int .i8 0, .int .i8 0, .int .i8 0, .int .i8 0, .int .i8 0] 38) _ (by simp; try omega)).trans ((Below.heap_alloc _ (.cells #[.int .i8 0, .int .i8 0, .int .i8 0, .int .i8 0, .int .i8 0, .int .i8 0] 38) _ (by simp; try omega)).trans (heap_alloc_new w (.cells #[.int .i8 fx, .int .i8 fy, .int .i8 sd, .int .i8 tx, .int .i8 ty, .int .i8 ot] 28)))) b1_)
  have r_1_ := Lib.hid (show w1_.heap[w.heap.size + 1]? = some (.cells #[.int .i8 0, .int .i8 0, .int .i8 0, .int .i8 0, .int .i8 0, .int .i8 0] 38 (0, 0)) from blk_below ((Below.heap_alloc _ (.cells #[.int .i8 0, .int .i8 0, .int .i8 0, .int .i8 0, .int .i8 0, .int .i8 0] 38) _ (by simp; try omega)).trans (show ((w.alloc (.cells #[.int .i8 fx, .int .i8 fy, .int .i8 sd, .int .i8 tx, .int .i8 ty, .int .i8 ot] 28)).alloc (.cells #[.int .i8 0, .int .i8 0, .int .i8 0, .int .i8 0, .int .i8 0, .int .i8 0] 38)).heap[w.heap.size + 1]? = some _ from by have h := heap_alloc_new (w.alloc (.cells #[.int .i8 fx, .int .i8 fy, .int .i8 sd, .int .i8 tx, .int .i8 ty, .int .i8 ot] 28)) (.cells #[.int .i8 0, .int .i8 0, .int .i8 0, .int .i8 0, .int .i8 0, .int .i8 0] 38); simpa only [World.size_alloc] using h)) b1_)
  have o_1_ := Lib.hid (show w1_.heap[w.heap.size + 1 + 1]? = some (.cells #[.int .i8 0, .int .i8 0, .int .i8 0, .int .i8 0, .int .i8 0, .int .i8 0] 38 (0, 0)) from blk_below (show (((w.alloc (.cells #[.int .i8 fx, .int .i8 fy, .int .i8 sd, .int .i8 tx, .int .i8 ty, .int .i8 ot] 28)).alloc (.cells #[.int .i8 0, .int .i8 0, .int .i8 0, .int .i8 0, .int .i8 0, .int .i8 0] 38)).alloc (.cells #[.int .i8 0, .int .i8 0, .int .i8 0, .int .i8 0, .int .i8 0, .int .i8 0] 38)).heap[w.heap.size + 1 + 1]? = some _ from by have h := heap_alloc_new ((w.alloc (.cells #[.int .i8 fx, .int .i8 fy, .int .i8 sd, .int .i8 tx, .int .i8 ty, .int .i8 ot] 28)).alloc (.cells #[.int .i8 0, .int .i8 0, .int .i8 0, .int .i8 0, .int .i8 0, .int .i8 0] 38)) (.cells #[.int .i8 0, .int .i8 0, .int .i8 0, .int .i8 0, .int .i8 0, .int .i8 0] 38); simpa only [World.size_alloc] using h) b1_)
  clear b1_ B1_
  have ca_0 : w1_.cell? ⟨w.heap.size, 0, none⟩ = some (.int .i8 fx) := cell_of_row _ _ 0 _ _ _ a_1_.out
  have ca_1 : w1_.cell? ⟨w.heap.size, 1, none⟩ = some (.int .i8 fy) := cell_of_row _ _ 1 _ _ _ a_1_.out
  have ca_2 : w1_.cell? ⟨w.heap.size, 2, none⟩ = some (.int .i8 sd) := cell_of_row _ _ 2 _ _ _ a_1_.out
  have ca_3 : w1_.cell? ⟨w.heap.size, 3, none⟩ = some (.int .i8 tx) := cell_of_row _ _ 3 _ _ _ a_1_.out
  have ca_4 : w1_.cell? ⟨w.heap.size, 4, none⟩ = some (.int .i8 ty) := cell_of_row _ _ 4 _ _ _ a_1_.out
  have ca_5 : w1_.cell? ⟨w.heap.size, 5, none⟩ = some (.int .i8 ot) := cell_of_row _ _ 5 _ _ _ a_1_.out
  have co_0 : w1_.cell? ⟨w.heap.size + 1 + 1, 0, none⟩ = some (.int .i8 0) := cell_of_row _ _ 0 _ _ _ o_1_.out
  have co_1 : w1_.cell? ⟨w.heap.size + 1 + 1, 1, none⟩ = some (.int .i8 0) := cell_of_row _ _ 1 _ _ _ o_1_.out
  have co_2 : w1_.cell? ⟨w.heap.size + 1 + 1, 2, none⟩ = some (.int .i8 0) := cell_of_row _ _ 2 _ _ _ o_1_.out
  have co_3 : w1_.cell? ⟨w.heap.size + 1 + 1, 3, none⟩ = some (.int .i8 0) := cell_of_row _ _ 3 _ _ _ o_1_.out
  have co_4 : w1_.cell? ⟨w.heap.size + 1 + 1, 4, none⟩ = some (.int .i8 0) := cell_of_row _ _ 4 _ _ _ o_1_.out
  have co_5 : w1_.cell? ⟨w.heap.size + 1 + 1, 5, none⟩ = some (.int .i8 0) := cell_of_row _ _ 5 _ _ _ o_1_.out
  have fo := fun j => frozen_of_row _ _ j _ _ o_1_.out
  have o3 := Lib.hid (show (((w1_.setCell ⟨w.heap.size + 1 + 1, 0, none⟩ (.int .i8 fx)).setCell ⟨w.heap.size + 1 + 1, 1, none⟩ (.int .i8 fy)).setCell ⟨w.heap.size + 1 + 1, 2, none⟩ (.int .i8 sd)).heap[w.heap.size + 1 + 1]? = some (.cells #[.int .i8 fx, .int .i8 fy, .int .i8 sd, .int .i8 0, .int .i8 0, .int .i8 0] 38 (0, 0)) by have h := blk_set_same' (i := 2) (v := .int .i8 sd) (blk_set_same' (i := 1) (v := .int .i8 fy) (blk_set_same' (i := 0) (v := .int .i8 fx) o_1_.out)); simpa using h)
  have a3 := Lib.hid (show (((w1_.setCell ⟨w.heap.size + 1 + 1, 0, none⟩ (.int .i8 fx)).setCell ⟨w.heap.size + 1 + 1, 1, none⟩ (.int .i8 fy)).setCell ⟨w.heap.size + 1 + 1, 2, none⟩ (.int .i8 sd)).heap[w.heap.size]? = some (.cells #[.int .i8 fx, .int .i8 fy, .int .i8 sd, .int .i8 tx, .int .i8 ty, .int .i8 ot] 28 (0, 0)) from blk_set (blk_set (blk_set a_1_.out (by simp; try omega)) (by simp; try omega)) (by simp; try omega))
  have r3 := Lib.hid (show (((w1_.setCell ⟨w.heap.size + 1 + 1, 0, none⟩ (.int .i8 fx)).setCell ⟨w.heap.size + 1 + 1, 1, none⟩ (.int .i8 fy)).setCell ⟨w.heap.size + 1 + 1, 2, none⟩ (.int .i8 sd)).heap[w.heap.size + 1]? = some (.cells #[.int .i8 0, .int .i8 0, .int .i8 0, .int .i8 0, .int .i8 0, .int .i8 0] 38 (0, 0)) from blk_set (blk_set (blk_set r_1_.out (by simp; try omega)) (by simp; try omega)) (by simp; try omega))
  have T3 : Below w.heap.size w (((w1_.setCell ⟨w.heap.size + 1 + 1, 0, none⟩ (.int .i8 fx)).setCell ⟨w.heap.size + 1 + 1, 1, none⟩ (.int .i8 fy)).setCell ⟨w.heap.size + 1 + 1, 2, none⟩ (.int .i8 sd)) := kSet (kSet (kSet T1_ (by simp; try omega) _) (by simp; try omega) _) (by simp; try omega) _
  have lo := blk_lt o3.out
  clear a_1_ r_1_ o_1_
  go_wp2_with fail
  clear fo ca_0 ca_1 ca_2 ca_3 ca_4 ca_5 co_0 co_1 co_2 co_3 co_4 co_5
  generalize (((w1_.setCell ⟨w.heap.size + 1 + 1, 0, none⟩ (.int .i8 fx)).setCell ⟨w.heap.size + 1 + 1, 1, none⟩ (.int .i8 fy)).setCell ⟨w.heap.size + 1 + 1, 2, none⟩ (.int .i8 sd)) = W2 at *
  have ca_0 : W2.cell? ⟨w.heap.size, 0, none⟩ = some (.int .i8 fx) := cell_of_row _ _ 0 _ _ _ a3.out
  have ca_1 : W2.cell? ⟨w.heap.size, 1, none⟩ = some (.int .i8 fy) := cell_of_row _ _ 1 _ _ _ a3.out
  have ca_2 : W2.cell? ⟨w.heap.size, 2, none⟩ = some (.int .i8 sd) := cell_of_row _ _ 2 _ _ _ a3.out
  have ca_3 : W2.cell? ⟨w.heap.size, 3, none⟩ = some (.int .i8 tx) := cell_of_row _ _ 3 _ _ _ a3.out
  have ca_4 : W2.cell? ⟨w.heap.size, 4, none⟩ = some (.int .i8 ty) := cell_of_row _ _ 4 _ _ _ a3.out
  have ca_5 : W2.cell? ⟨w.heap.size, 5, none⟩ = some (.int .i8 ot) := cell_of_row _ _ 5 _ _ _ a3.out
  go_wp2_with fail
  refine (toCell_any tx ty _).mono ?_
  rintro e w2_ ⟨rfl, b2_⟩
  have n2_ : W2.heap.size ≤ w2_.heap.size := b2_.size
  have T2_ : Below w.heap.size w w2_ := kTrans T3 b2_
  have a_2_ := Lib.hid (blk_below a3.out b2_)
  have r_2_ := Lib.hid (blk_below r3.out b2_)
  have o_2_ := Lib.hid (blk_below o3.out b2_)
  clear ca_0 ca_1 ca_2 ca_3 ca_4 ca_5 a3 r3 o3 b2_ T3
  have ca_0 : w2_.cell? ⟨w.heap.size, 0, none⟩ = some (.int .i8 fx) := cell_of_row _ _ 0 _ _ _ a_2_.out
  have ca_1 : w2_.cell? ⟨w.heap.size, 1, none⟩ = some (.int .i8 fy) := cell_of_row _ _ 1 _ _ _ a_2_.out
  have ca_2 : w2_.cell? ⟨w.heap.size, 2, none⟩ = some (.int .i8 sd) := cell_of_row _ _ 2 _ _ _ a_2_.out
  have ca_3 : w2_.cell? ⟨w.heap.size, 3, none⟩ = some (.int .i8 tx) := cell_of_row _ _ 3 _ _ _ a_2_.out
  have ca_4 : w2_.cell? ⟨w.heap.size, 4, none⟩ = some (.int .i8 ty) := cell_of_row _ _ 4 _ _ _ a_2_.out
  have ca_5 : w2_.cell? ⟨w.heap.size, 5, none⟩ = some (.int .i8 ot) := cell_of_row _ _ 5 _ _ _ a_2_.out
  have co_0 : w2_.cell? ⟨w.heap.size + 1 + 1, 0, none⟩ = some (.int .i8 fx) := cell_of_row _ _ 0 _ _ _ o_2_.out
  have co_1 : w2_.cell? ⟨w.heap.size + 1 + 1, 1, none⟩ = some (.int .i8 fy) := cell_of_row _ _ 1 _ _ _ o_2_.out
  have co_2 : w2_.cell? ⟨w.heap.size + 1 + 1, 2, none⟩ = some (.int .i8 sd) := cell_of_row _ _ 2 _ _ _ o_2_.out
  have co_3 : w2_.cell? ⟨w.heap.size + 1 + 1, 3, none⟩ = some (.int .i8 0) := cell_of_row _ _ 3 _ _ _ o_2_.out
  have co_4 : w2_.cell? ⟨w.heap.size + 1 + 1, 4, none⟩ = some (.int .i8 0) := cell_of_row _ _ 4 _ _ _ o_2_.out
  have co_5 : w2_.cell? ⟨w.heap.size + 1 + 1, 5, none⟩ = some (.int .i8 0) := cell_of_row _ _ 5 _ _ _ o_2_.out
  have cr_0 : w2_.cell? ⟨w.heap.size + 1, 0, none⟩ = some (.int .i8 0) := cell_of_row _ _ 0 _ _ _ r_2_.out
  have cr_1 : w2_.cell? ⟨w.heap.size + 1, 1, none⟩ = some (.int .i8 0) := cell_of_row _ _ 1 _ _ _ r_2_.out
  have cr_2 : w2_.cell? ⟨w.heap.size + 1, 2, none⟩ = some (.int .i8 0) := cell_of_row _ _ 2 _ _ _ r_2_.out
  have cr_3 : w2_.cell? ⟨w.heap.size + 1, 3, none⟩ = some (.int .i8 0) := cell_of_row _ _ 3 _ _ _ r_2_.out
  have cr_4 : w2_.cell? ⟨w.heap.size + 1, 4, none⟩ = some (.int .i8 0) := cell_of_row _ _ 4 _ _ _ r_2_.out
  have cr_5 : w2_.cell? ⟨w.heap.size + 1, 5, none⟩ = some (.int .i8 0) := cell_of_row _ _ 5 _ _ _ r_2_.out
  have fo := fun j => frozen_of_row _ _ j _ _ o_2_.out
  have fr := fun j => frozen_of_row _ _ j _ _ r_2_.out
  go_wp2
  exact bodyPost_ret (v := .agg #[.int .i8 fx, .int .i8 fy, .int .i8 sd, .int .i8 tx, .int .i8 ty, .int .i8 ot]) (by simp [results, Tryd.results10, go_sem, co_0, co_1, co_2, co_3, co_4, co_5, cr_0, cr_1, cr_2, cr_3, cr_4, cr_5]) rfl ⟨rfl, by repeat (first | with_reducible exact Below.refl _ _ | (with_reducible refine kSet ?_ ?hB _; case hB => (simp; try omega)) | with_reducible refine kAlloc ?_ _ | with_reducible refine Below.drew ?_ | with_reducible refine kDrewN ?_ _ | with_reducible refine kTrans ?_ (by assumption))⟩
end Go.Proofs.YtflkfkbdgekpkaaDoor
