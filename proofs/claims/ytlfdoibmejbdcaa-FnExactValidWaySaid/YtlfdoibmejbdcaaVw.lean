/- ValidWay, both sides; ways as the laws have them. -/
import Derived.Test.YtlfdoibmejbdcaaGr
import Derived.Test.YtlfdoibmejbdcaaG4
namespace Go.Proofs.Ytlfdoibmejbdcaa
open Go.ChangeShapes Go.WideShapes Go.ChangeAt Go.RowKit
set_option linter.unusedVariables false
set_option linter.unusedSimpArgs false

theorem ints_six {cs : Array Value} {k0 k1 k2 k3 k4 k5 : IntKind} (h : Ints cs.toList [k0, k1, k2, k3, k4, k5]) :
    ∃ a b c d e f : Int, cs = #[.int k0 a, .int k1 b, .int k2 c, .int k3 d, .int k4 e, .int k5 f] ∧ (Lit.int k0 a).wf = true ∧ (Lit.int k1 b).wf = true ∧ (Lit.int k2 c).wf = true ∧ (Lit.int k3 d).wf = true ∧ (Lit.int k4 e).wf = true ∧ (Lit.int k5 f).wf = true := by
  obtain ⟨cs⟩ := cs
  match cs, h with
  | [_, _, _, _, _, _], ⟨⟨x, rfl, hx⟩, ⟨y, rfl, hy⟩, ⟨z, rfl, hz⟩, ⟨u, rfl, hu⟩, ⟨v, rfl, hv⟩, ⟨t, rfl, ht⟩, _⟩ => exact ⟨x, y, z, u, v, t, rfl, hx, hy, hz, hu, hv, ht⟩
theorem open_way {H : Type} {enc : TypeId × Value → H} {P : Program} {w w2 : World} {r : Reach} {b0 base : Nat} {spare : Nat → Bool} {held : Bool} {t : TypeId} {v : Value} {d : DataW H} {p : List MemPlace} {n : Nat}
    (hf : flat P n t = some [.i8, .i8, .i8, .i8, .i8, .i8]) (hs : isAggT P t = true) (hv : Value.okWide P w2 r b0 t v) (h : DataW.Trod enc P w base spare held t v d p) :
    ∃ p : Wy, v = .agg #[.int .i8 p.fx, .int .i8 p.fy, .int .i8 p.sd, .int .i8 p.tx, .int .i8 p.ty, .int .i8 p.ot] ∧ p.in8 := by
  obtain ⟨cs, rfl, hi⟩ := open_flat n hf hs hv h
  obtain ⟨x, y, z, t, u, q, rfl, hx, hy, hz, ht, hu, hq⟩ := ints_six hi
  exact ⟨⟨x, y, z, t, u, q⟩, rfl, i8_of hx, i8_of hy, i8_of hz, i8_of ht, i8_of hu, i8_of hq⟩
theorem flat_way : flat Try.prog 4 42 = some [.i8, .i8, .i8, .i8, .i8, .i8] := by kernel_rfl
theorem agg_way : isAggT Try.prog 42 = true := by kernel_rfl
set_option maxHeartbeats 2000000 in
theorem toWay_any (p : Wy) (w : World) :
    Calls Try.prog 21 #[.agg #[.int .i8 p.fx, .int .i8 p.fy, .int .i8 p.sd, .int .i8 p.tx, .int .i8 p.ty, .int .i8 p.ot]] w fun e w' => e = .returned (.agg #[.int .i8 p.fx, .int .i8 p.fy, .int .i8 p.sd, .int .i8 p.tx, .int .i8 p.ty, .int .i8 p.ot]) ∧ Below w.heap.size w w' := by
  obtain ⟨fx, fy, sd, tx, ty, ot⟩ := p
  go_enter Try.func21, Try.ntmps21
  go_wp2_with fail
  refine (toCell_any fx fy _).mono ?_
  rintro e w1_ ⟨rfl, b1_⟩
  have B1_ : Below w.heap.size w w1_ := kTrans (kAlloc (kAlloc (kAlloc (Below.refl _ _) _) _) _) b1_
  have n1_ : w.heap.size + 3 ≤ w1_.heap.size := by have := b1_.size; simpa using this
  have T1_ : Below w.heap.size w w1_ := B1_
  have a_1_ := Lib.hid (show w1_.heap[w.heap.size]? = some (.cells #[.int .i8 fx, .int .i8 fy, .int .i8 sd, .int .i8 tx, .int .i8 ty, .int .i8 ot] 42 (0, 0)) from blk_below ((Below.heap_alloc _ (.cells #[.int .i8 0, .int .i8 0, .int .i8 0, .int .i8 0, .int .i8 0, .int .i8 0] 45) _ (by simp; try omega)).trans ((Below.heap_alloc _ (.cells #[.int .i8 0, .int .i8 0, .int .i8 0, .int .i8 0, .int .i8 0, .int .i8 0] 45) _ (by simp; try omega)).trans (heap_alloc_new w (.cells #[.int .i8 fx, .int .i8 fy, .int .i8 sd, .int .i8 tx, .int .i8 ty, .int .i8 ot] 42)))) b1_)
  have r_1_ := Lib.hid (show w1_.heap[w.heap.size + 1]? = some (.cells #[.int .i8 0, .int .i8 0, .int .i8 0, .int .i8 0, .int .i8 0, .int .i8 0] 45 (0, 0)) from blk_below ((Below.heap_alloc _ (.cells #[.int .i8 0, .int .i8 0, .int .i8 0, .int .i8 0, .int .i8 0, .int .i8 0] 45) _ (by simp; try omega)).trans (show ((w.alloc (.cells #[.int .i8 fx, .int .i8 fy, .int .i8 sd, .int .i8 tx, .int .i8 ty, .int .i8 ot] 42)).alloc (.cells #[.int .i8 0, .int .i8 0, .int .i8 0, .int .i8 0, .int .i8 0, .int .i8 0] 45)).heap[w.heap.size + 1]? = some _ from by have h := heap_alloc_new (w.alloc (.cells #[.int .i8 fx, .int .i8 fy, .int .i8 sd, .int .i8 tx, .int .i8 ty, .int .i8 ot] 42)) (.cells #[.int .i8 0, .int .i8 0, .int .i8 0, .int .i8 0, .int .i8 0, .int .i8 0] 45); simpa only [World.size_alloc] using h)) b1_)
  have o_1_ := Lib.hid (show w1_.heap[w.heap.size + 1 + 1]? = some (.cells #[.int .i8 0, .int .i8 0, .int .i8 0, .int .i8 0, .int .i8 0, .int .i8 0] 45 (0, 0)) from blk_below (show (((w.alloc (.cells #[.int .i8 fx, .int .i8 fy, .int .i8 sd, .int .i8 tx, .int .i8 ty, .int .i8 ot] 42)).alloc (.cells #[.int .i8 0, .int .i8 0, .int .i8 0, .int .i8 0, .int .i8 0, .int .i8 0] 45)).alloc (.cells #[.int .i8 0, .int .i8 0, .int .i8 0, .int .i8 0, .int .i8 0, .int .i8 0] 45)).heap[w.heap.size + 1 + 1]? = some _ from by have h := heap_alloc_new ((w.alloc (.cells #[.int .i8 fx, .int .i8 fy, .int .i8 sd, .int .i8 tx, .int .i8 ty, .int .i8 ot] 42)).alloc (.cells #[.int .i8 0, .int .i8 0, .int .i8 0, .int .i8 0, .int .i8 0, .int .i8 0] 45)) (.cells #[.int .i8 0, .int .i8 0, .int .i8 0, .int .i8 0, .int .i8 0, .int .i8 0] 45); simpa only [World.size_alloc] using h) b1_)
  clear b1_ B1_
  have ca_0 : w1_.cell? ⟨w.heap.size, 0, none⟩ = some (.int .i8 fx) := cell_of_row _ _ 0 _ _ _ a_1_.out
  have ca_1 : w1_.cell? ⟨w.heap.size, 1, none⟩ = some (.int .i8 fy) := cell_of_row _ _ 1 _ _ _ a_1_.out
  have ca_2 : w1_.cell? ⟨w.heap.size, 2, none⟩ = some (.int .i8 sd) := cell_of_row _ _ 2 _ _ _ a_1_.out
  have ca_3 : w1_.cell? ⟨w.heap.size, 3, none⟩ = some (.int .i8 tx) := cell_of_row _ _ 3 _ _ _ a_1_.out
  have ca_4 : w1_.cell? ⟨w.heap.size, 4, none⟩ = some (.int .i8 ty) := cell_of_row _ _ 4 _ _ _ a_1_.out
  have ca_5 : w1_.cell? ⟨w.heap.size, 5, none⟩ = some (.int .i8 ot) := cell_of_row _ _ 5 _ _ _ a_1_.out
  have co_0 : w1_.cell? ⟨w.heap.size + 1 + 1, 0, none⟩ = some (.int .i8 0) := cell_of_row _ _ 0 _ _ _ o_1_.out
  have co_1 : w1_.cell? ⟨w.heap.size + 1 + 1, 1, none⟩ = some (.int .i8 0) := cell_of_row _ _ 1 _ _ _ o_1_.out
  have co_2 : w1_.cell? ⟨w.heap.size + 1 + 1, 2, none⟩ = some (.int .i8 0) := cell_of_row _ _ 2 _ _ _ o_1_.out
  have co_3 : w1_.cell? ⟨w.heap.size + 1 + 1, 3, none⟩ = some (.int .i8 0) := cell_of_row _ _ 3 _ _ _ o_1_.out
  have co_4 : w1_.cell? ⟨w.heap.size + 1 + 1, 4, none⟩ = some (.int .i8 0) := cell_of_row _ _ 4 _ _ _ o_1_.out
  have co_5 : w1_.cell? ⟨w.heap.size + 1 + 1, 5, none⟩ = some (.int .i8 0) := cell_of_row _ _ 5 _ _ _ o_1_.out
  have fo := fun j => frozen_of_row _ _ j _ _ o_1_.out
  have o3 := Lib.hid (show (((w1_.setCell ⟨w.heap.size + 1 + 1, 0, none⟩ (.int .i8 fx)).setCell ⟨w.heap.size + 1 + 1, 1, none⟩ (.int .i8 fy)).setCell ⟨w.heap.size + 1 + 1, 2, none⟩ (.int .i8 sd)).heap[w.heap.size + 1 + 1]? = some (.cells #[.int .i8 fx, .int .i8 fy, .int .i8 sd, .int .i8 0, .int .i8 0, .int .i8 0] 45 (0, 0)) by have h := blk_set_same' (i := 2) (v := .int .i8 sd) (blk_set_same' (i := 1) (v := .int .i8 fy) (blk_set_same' (i := 0) (v := .int .i8 fx) o_1_.out)); simpa using h)
  have a3 := Lib.hid (show (((w1_.setCell ⟨w.heap.size + 1 + 1, 0, none⟩ (.int .i8 fx)).setCell ⟨w.heap.size + 1 + 1, 1, none⟩ (.int .i8 fy)).setCell ⟨w.heap.size + 1 + 1, 2, none⟩ (.int .i8 sd)).heap[w.heap.size]? = some (.cells #[.int .i8 fx, .int .i8 fy, .int .i8 sd, .int .i8 tx, .int .i8 ty, .int .i8 ot] 42 (0, 0)) from blk_set (blk_set (blk_set a_1_.out (by simp; try omega)) (by simp; try omega)) (by simp; try omega))
  have r3 := Lib.hid (show (((w1_.setCell ⟨w.heap.size + 1 + 1, 0, none⟩ (.int .i8 fx)).setCell ⟨w.heap.size + 1 + 1, 1, none⟩ (.int .i8 fy)).setCell ⟨w.heap.size + 1 + 1, 2, none⟩ (.int .i8 sd)).heap[w.heap.size + 1]? = some (.cells #[.int .i8 0, .int .i8 0, .int .i8 0, .int .i8 0, .int .i8 0, .int .i8 0] 45 (0, 0)) from blk_set (blk_set (blk_set r_1_.out (by simp; try omega)) (by simp; try omega)) (by simp; try omega))
  have T3 : Below w.heap.size w (((w1_.setCell ⟨w.heap.size + 1 + 1, 0, none⟩ (.int .i8 fx)).setCell ⟨w.heap.size + 1 + 1, 1, none⟩ (.int .i8 fy)).setCell ⟨w.heap.size + 1 + 1, 2, none⟩ (.int .i8 sd)) := kSet (kSet (kSet T1_ (by simp; try omega) _) (by simp; try omega) _) (by simp; try omega) _
  have lo := blk_lt o3.out
  clear a_1_ r_1_ o_1_
  go_wp2_with fail
  clear fo ca_0 ca_1 ca_2 ca_3 ca_4 ca_5 co_0 co_1 co_2 co_3 co_4 co_5
  generalize (((w1_.setCell ⟨w.heap.size + 1 + 1, 0, none⟩ (.int .i8 fx)).setCell ⟨w.heap.size + 1 + 1, 1, none⟩ (.int .i8 fy)).setCell ⟨w.heap.size + 1 + 1, 2, none⟩ (.int .i8 sd)) = W2 at *
  have ca_0 : W2.cell? ⟨w.heap.size, 0, none⟩ = some (.int .i8 fx) := cell_of_row _ _ 0 _ _ _ a3.out
  have ca_1 : W2.cell? ⟨w.heap.size, 1, none⟩ = some (.int .i8 fy) := cell_of_row _ _ 1 _ _ _ a3.out
  have ca_2 : W2.cell? ⟨w.heap.size, 2, none⟩ = some (.int .i8 sd) := cell_of_row _ _ 2 _ _ _ a3.out
  have ca_3 : W2.cell? ⟨w.heap.size, 3, none⟩ = some (.int .i8 tx) := cell_of_row _ _ 3 _ _ _ a3.out
  have ca_4 : W2.cell? ⟨w.heap.size, 4, none⟩ = some (.int .i8 ty) := cell_of_row _ _ 4 _ _ _ a3.out
  have ca_5 : W2.cell? ⟨w.heap.size, 5, none⟩ = some (.int .i8 ot) := cell_of_row _ _ 5 _ _ _ a3.out
  go_wp2_with fail
  refine (toCell_any tx ty _).mono ?_
  rintro e w2_ ⟨rfl, b2_⟩
  have n2_ : W2.heap.size ≤ w2_.heap.size := b2_.size
  have T2_ : Below w.heap.size w w2_ := kTrans T3 b2_
  have a_2_ := Lib.hid (blk_below a3.out b2_)
  have r_2_ := Lib.hid (blk_below r3.out b2_)
  have o_2_ := Lib.hid (blk_below o3.out b2_)
  clear ca_0 ca_1 ca_2 ca_3 ca_4 ca_5 a3 r3 o3 b2_ T3
  have ca_0 : w2_.cell? ⟨w.heap.size, 0, none⟩ = some (.int .i8 fx) := cell_of_row _ _ 0 _ _ _ a_2_.out
  have ca_1 : w2_.cell? ⟨w.heap.size, 1, none⟩ = some (.int .i8 fy) := cell_of_row _ _ 1 _ _ _ a_2_.out
  have ca_2 : w2_.cell? ⟨w.heap.size, 2, none⟩ = some (.int .i8 sd) := cell_of_row _ _ 2 _ _ _ a_2_.out
  have ca_3 : w2_.cell? ⟨w.heap.size, 3, none⟩ = some (.int .i8 tx) := cell_of_row _ _ 3 _ _ _ a_2_.out
  have ca_4 : w2_.cell? ⟨w.heap.size, 4, none⟩ = some (.int .i8 ty) := cell_of_row _ _ 4 _ _ _ a_2_.out
  have ca_5 : w2_.cell? ⟨w.heap.size, 5, none⟩ = some (.int .i8 ot) := cell_of_row _ _ 5 _ _ _ a_2_.out
  have co_0 : w2_.cell? ⟨w.heap.size + 1 + 1, 0, none⟩ = some (.int .i8 fx) := cell_of_row _ _ 0 _ _ _ o_2_.out
  have co_1 : w2_.cell? ⟨w.heap.size + 1 + 1, 1, none⟩ = some (.int .i8 fy) := cell_of_row _ _ 1 _ _ _ o_2_.out
  have co_2 : w2_.cell? ⟨w.heap.size + 1 + 1, 2, none⟩ = some (.int .i8 sd) := cell_of_row _ _ 2 _ _ _ o_2_.out
  have co_3 : w2_.cell? ⟨w.heap.size + 1 + 1, 3, none⟩ = some (.int .i8 0) := cell_of_row _ _ 3 _ _ _ o_2_.out
  have co_4 : w2_.cell? ⟨w.heap.size + 1 + 1, 4, none⟩ = some (.int .i8 0) := cell_of_row _ _ 4 _ _ _ o_2_.out
  have co_5 : w2_.cell? ⟨w.heap.size + 1 + 1, 5, none⟩ = some (.int .i8 0) := cell_of_row _ _ 5 _ _ _ o_2_.out
  have cr_0 : w2_.cell? ⟨w.heap.size + 1, 0, none⟩ = some (.int .i8 0) := cell_of_row _ _ 0 _ _ _ r_2_.out
  have cr_1 : w2_.cell? ⟨w.heap.size + 1, 1, none⟩ = some (.int .i8 0) := cell_of_row _ _ 1 _ _ _ r_2_.out
  have cr_2 : w2_.cell? ⟨w.heap.size + 1, 2, none⟩ = some (.int .i8 0) := cell_of_row _ _ 2 _ _ _ r_2_.out
  have cr_3 : w2_.cell? ⟨w.heap.size + 1, 3, none⟩ = some (.int .i8 0) := cell_of_row _ _ 3 _ _ _ r_2_.out
  have cr_4 : w2_.cell? ⟨w.heap.size + 1, 4, none⟩ = some (.int .i8 0) := cell_of_row _ _ 4 _ _ _ r_2_.out
  have cr_5 : w2_.cell? ⟨w.heap.size + 1, 5, none⟩ = some (.int .i8 0) := cell_of_row _ _ 5 _ _ _ r_2_.out
  have fo := fun j => frozen_of_row _ _ j _ _ o_2_.out
  have fr := fun j => frozen_of_row _ _ j _ _ r_2_.out
  go_wp2
  exact bodyPost_ret (v := .agg #[.int .i8 fx, .int .i8 fy, .int .i8 sd, .int .i8 tx, .int .i8 ty, .int .i8 ot]) (by simp [results, Try.results21, go_sem, co_0, co_1, co_2, co_3, co_4, co_5, cr_0, cr_1, cr_2, cr_3, cr_4, cr_5]) rfl ⟨rfl, by repeat (first | with_reducible exact Below.refl _ _ | (with_reducible refine kSet ?_ ?hB _; case hB => (simp; try omega)) | with_reducible refine kAlloc ?_ _ | with_reducible refine Below.drew ?_ | with_reducible refine kDrewN ?_ _ | with_reducible refine kTrans ?_ (by assumption))⟩
set_option maxRecDepth 100000 in
set_option maxHeartbeats 4000000 in
theorem specValidWay_any (b n cap : Nat) (wd hi : Int) (l : List Pc) (p : Wy) (w : World) (hn : l.length = n) (hp : PcsAt w b 0 l) (hb : b < w.heap.size) (hc : n ≤ cap) (h8 : All8 l) (hp8 : p.in8) (hw8 : i8 wd) (hh8 : i8 hi) (hmax : n ≤ 1048576) (R : Bool) (hR : R = (boardOk wd hi l && wayB wd hi l p)) :
    Calls Try.prog 20 #[.agg #[.int .i8 wd, .int .i8 hi, .slice (some ⟨b, 0, none⟩) n cap], .agg #[.int .i8 p.fx, .int .i8 p.fy, .int .i8 p.sd, .int .i8 p.tx, .int .i8 p.ty, .int .i8 p.ot]] w fun e w' => e = .returned (.bool R) ∧ Below w.heap.size w w' := by
  have Hn := Lib.hid hn
  have HR := Lib.hid hR
  have hP := Lib.hid hp
  clear hn hR hp
  have bE : Below w.heap.size w ((w.alloc (.cells #[.int .i8 wd, .int .i8 hi, .slice (some ⟨b, 0, none⟩) n cap] 30)).alloc (.cells #[.int .i8 p.fx, .int .i8 p.fy, .int .i8 p.sd, .int .i8 p.tx, .int .i8 p.ty, .int .i8 p.ot] 45)) := (kAlloc (kAlloc (Below.refl _ _) _) _)
  cases g1 : boardOk wd hi l with
  | false =>
    obtain rfl : R = false := by rw [HR.out, g1]; rfl
    have G1 := Lib.hid g1
    clear g1 HR
    go_enter Try.func20, Try.ntmps20
    go_wp2_with fail
    refine (l01Ok_any w.heap.size 0 b 0 n cap wd hi l _ Hn.out (BdAt.of ((Below.heap_alloc _ (.cells #[.int .i8 p.fx, .int .i8 p.fy, .int .i8 p.sd, .int .i8 p.tx, .int .i8 p.ty, .int .i8 p.ot] 45) _ (by simp; try omega)).trans (heap_alloc_new w (.cells #[.int .i8 wd, .int .i8 hi, .slice (some ⟨b, 0, none⟩) n cap] 30)))) (hP.out.below bE (by omega)) (by simp only [World.size_alloc]; omega) hc h8 hw8 hh8 hmax false G1.out.symm).mono ?_
    rintro e w1_ ⟨rfl, b1_⟩
    have B1_ : Below w.heap.size w w1_ := kTrans (kAlloc (kAlloc (Below.refl _ _) _) _) b1_
    have n1_ : w.heap.size + 2 ≤ w1_.heap.size := by have := b1_.size; simpa using this
    have T1_ : Below w.heap.size w w1_ := B1_
    have p_1_ := Lib.hid (hP.out.below B1_ (by omega))
    have b_1_ := Lib.hid (show w1_.heap[w.heap.size]? = some (.cells #[.int .i8 wd, .int .i8 hi, .slice (some ⟨b, 0, none⟩) n cap] 30 (0, 0)) from blk_below ((Below.heap_alloc _ (.cells #[.int .i8 p.fx, .int .i8 p.fy, .int .i8 p.sd, .int .i8 p.tx, .int .i8 p.ty, .int .i8 p.ot] 45) _ (by simp; try omega)).trans (heap_alloc_new w (.cells #[.int .i8 wd, .int .i8 hi, .slice (some ⟨b, 0, none⟩) n cap] 30))) b1_)
    have q_1_ := Lib.hid (show w1_.heap[w.heap.size + 1]? = some (.cells #[.int .i8 p.fx, .int .i8 p.fy, .int .i8 p.sd, .int .i8 p.tx, .int .i8 p.ty, .int .i8 p.ot] 45 (0, 0)) from blk_below (show ((w.alloc (.cells #[.int .i8 wd, .int .i8 hi, .slice (some ⟨b, 0, none⟩) n cap] 30)).alloc (.cells #[.int .i8 p.fx, .int .i8 p.fy, .int .i8 p.sd, .int .i8 p.tx, .int .i8 p.ty, .int .i8 p.ot] 45)).heap[w.heap.size + 1]? = some _ from by have h := heap_alloc_new (w.alloc (.cells #[.int .i8 wd, .int .i8 hi, .slice (some ⟨b, 0, none⟩) n cap] 30)) (.cells #[.int .i8 p.fx, .int .i8 p.fy, .int .i8 p.sd, .int .i8 p.tx, .int .i8 p.ty, .int .i8 p.ot] 45); simpa only [World.size_alloc] using h) b1_)
    clear bE hP b1_ B1_
    go_wp2
    go_ret
    exact ⟨rfl, T1_⟩
  | true =>
    have hq : R = wayB wd hi l p := by rw [HR.out, g1]; rfl
    have G1 := Lib.hid g1
    have Hq := Lib.hid hq
    clear g1 HR hq
    go_enter Try.func20, Try.ntmps20
    go_wp2_with fail
    refine (l01Ok_any w.heap.size 0 b 0 n cap wd hi l _ Hn.out (BdAt.of ((Below.heap_alloc _ (.cells #[.int .i8 p.fx, .int .i8 p.fy, .int .i8 p.sd, .int .i8 p.tx, .int .i8 p.ty, .int .i8 p.ot] 45) _ (by simp; try omega)).trans (heap_alloc_new w (.cells #[.int .i8 wd, .int .i8 hi, .slice (some ⟨b, 0, none⟩) n cap] 30)))) (hP.out.below bE (by omega)) (by simp only [World.size_alloc]; omega) hc h8 hw8 hh8 hmax true G1.out.symm).mono ?_
    rintro e w1_ ⟨rfl, b1_⟩
    have B1_ : Below w.heap.size w w1_ := kTrans (kAlloc (kAlloc (Below.refl _ _) _) _) b1_
    have n1_ : w.heap.size + 2 ≤ w1_.heap.size := by have := b1_.size; simpa using this
    have T1_ : Below w.heap.size w w1_ := B1_
    have p_1_ := Lib.hid (hP.out.below B1_ (by omega))
    have b_1_ := Lib.hid (show w1_.heap[w.heap.size]? = some (.cells #[.int .i8 wd, .int .i8 hi, .slice (some ⟨b, 0, none⟩) n cap] 30 (0, 0)) from blk_below ((Below.heap_alloc _ (.cells #[.int .i8 p.fx, .int .i8 p.fy, .int .i8 p.sd, .int .i8 p.tx, .int .i8 p.ty, .int .i8 p.ot] 45) _ (by simp; try omega)).trans (heap_alloc_new w (.cells #[.int .i8 wd, .int .i8 hi, .slice (some ⟨b, 0, none⟩) n cap] 30))) b1_)
    have q_1_ := Lib.hid (show w1_.heap[w.heap.size + 1]? = some (.cells #[.int .i8 p.fx, .int .i8 p.fy, .int .i8 p.sd, .int .i8 p.tx, .int .i8 p.ty, .int .i8 p.ot] 45 (0, 0)) from blk_below (show ((w.alloc (.cells #[.int .i8 wd, .int .i8 hi, .slice (some ⟨b, 0, none⟩) n cap] 30)).alloc (.cells #[.int .i8 p.fx, .int .i8 p.fy, .int .i8 p.sd, .int .i8 p.tx, .int .i8 p.ty, .int .i8 p.ot] 45)).heap[w.heap.size + 1]? = some _ from by have h := heap_alloc_new (w.alloc (.cells #[.int .i8 wd, .int .i8 hi, .slice (some ⟨b, 0, none⟩) n cap] 30)) (.cells #[.int .i8 p.fx, .int .i8 p.fy, .int .i8 p.sd, .int .i8 p.tx, .int .i8 p.ty, .int .i8 p.ot] 45); simpa only [World.size_alloc] using h) b1_)
    clear bE hP b1_ B1_
    have cb_0 : w1_.cell? ⟨w.heap.size, 0, none⟩ = some (.int .i8 wd) := cell_of_row _ _ 0 _ _ _ b_1_.out
    have cb_1 : w1_.cell? ⟨w.heap.size, 1, none⟩ = some (.int .i8 hi) := cell_of_row _ _ 1 _ _ _ b_1_.out
    have cb_2 : w1_.cell? ⟨w.heap.size, 2, none⟩ = some (.slice (some ⟨b, 0, none⟩) n cap) := cell_of_row _ _ 2 _ _ _ b_1_.out
    have cq_0 : w1_.cell? ⟨w.heap.size + 1, 0, none⟩ = some (.int .i8 p.fx) := cell_of_row _ _ 0 _ _ _ q_1_.out
    have cq_1 : w1_.cell? ⟨w.heap.size + 1, 1, none⟩ = some (.int .i8 p.fy) := cell_of_row _ _ 1 _ _ _ q_1_.out
    have cq_2 : w1_.cell? ⟨w.heap.size + 1, 2, none⟩ = some (.int .i8 p.sd) := cell_of_row _ _ 2 _ _ _ q_1_.out
    have cq_3 : w1_.cell? ⟨w.heap.size + 1, 3, none⟩ = some (.int .i8 p.tx) := cell_of_row _ _ 3 _ _ _ q_1_.out
    have cq_4 : w1_.cell? ⟨w.heap.size + 1, 4, none⟩ = some (.int .i8 p.ty) := cell_of_row _ _ 4 _ _ _ q_1_.out
    have cq_5 : w1_.cell? ⟨w.heap.size + 1, 5, none⟩ = some (.int .i8 p.ot) := cell_of_row _ _ 5 _ _ _ q_1_.out
    go_wp2_with fail
    refine (l05Ok_any w.heap.size b n cap (w.heap.size + 1) wd hi l p _ Hn.out (BdAt.of b_1_.out) p_1_.out (by omega) hc hmax (WyAt.of q_1_.out) (blk_lt q_1_.out) hp8 hw8 hh8 R Hq.out).mono ?_
    rintro e w2_ ⟨rfl, b2_⟩
    have n2_ : w1_.heap.size ≤ w2_.heap.size := b2_.size
    have T2_ : Below w.heap.size w w2_ := kTrans T1_ b2_
    have p_2_ := Lib.hid (p_1_.out.below b2_ (by omega))
    have b_2_ := Lib.hid (blk_below b_1_.out b2_)
    have q_2_ := Lib.hid (blk_below q_1_.out b2_)
    clear cb_0 cb_1 cb_2 cq_0 cq_1 cq_2 cq_3 cq_4 cq_5 p_1_ b_1_ q_1_ b2_ T1_
    go_wp2
    go_ret
    exact ⟨rfl, T2_⟩
set_option maxRecDepth 100000 in
set_option maxHeartbeats 4000000 in
theorem implValidWay_any (b n cap : Nat) (wd hi : Int) (l : List Pc) (p : Wy) (w : World) (hn : l.length = n) (hp : PcsAt w b 0 l) (hb : b < w.heap.size) (hc : n ≤ cap) (h8 : All8 l) (hp8 : p.in8) (hw8 : i8 wd) (hh8 : i8 hi) (hmax : n ≤ 1048576) (R : Bool) (hR : R = (boardOk wd hi l && wayB wd hi l p)) :
    Calls Try.prog 22 #[.agg #[.int .i8 wd, .int .i8 hi, .slice (some ⟨b, 0, none⟩) n cap], .agg #[.int .i8 p.fx, .int .i8 p.fy, .int .i8 p.sd, .int .i8 p.tx, .int .i8 p.ty, .int .i8 p.ot]] w fun e w' => e = .returned (.bool R) ∧ Below w.heap.size w w' := by
  have Hn := Lib.hid hn
  have HR := Lib.hid hR
  have hP := Lib.hid hp
  clear hn hR hp
  have bE : Below w.heap.size w ((w.alloc (.cells #[.int .i8 wd, .int .i8 hi, .slice (some ⟨b, 0, none⟩) n cap] 30)).alloc (.cells #[.int .i8 p.fx, .int .i8 p.fy, .int .i8 p.sd, .int .i8 p.tx, .int .i8 p.ty, .int .i8 p.ot] 45)) := (kAlloc (kAlloc (Below.refl _ _) _) _)
  obtain ⟨R1, g1⟩ : ∃ R1, R1 = boardOk wd hi l := ⟨_, rfl⟩
  have hq := HR.out
  rw [← g1] at hq
  have HQ := Lib.hid hq
  clear hq HR
  have HL := Lib.hid (groundOf_any b n cap wd hi l _ Hn.out (hP.out.below bE (by omega)) (by simp only [World.size_alloc]; omega) hc h8 hmax R1 g1)
  go_enter Try.func22, Try.ntmps22
  clear g1
  go_wp2_with fail
  refine HL.out.mono ?_
  clear HL
  cases R1 with
  | false =>
    rintro e w1_ ⟨_, h1_, b1_⟩
    obtain rfl := h1_ rfl
    clear h1_
    obtain rfl : R = false := by rw [HQ.out]; rfl
    clear HQ
    have B1_ : Below w.heap.size w w1_ := kTrans (kAlloc (kAlloc (Below.refl _ _) _) _) b1_
    have n1_ : w.heap.size + 2 ≤ w1_.heap.size := by have := b1_.size; simpa using this
    have T1_ : Below w.heap.size w w1_ := B1_
    have p_1_ := Lib.hid (hP.out.below B1_ (by omega))
    have b_1_ := Lib.hid (show w1_.heap[w.heap.size]? = some (.cells #[.int .i8 wd, .int .i8 hi, .slice (some ⟨b, 0, none⟩) n cap] 30 (0, 0)) from blk_below ((Below.heap_alloc _ (.cells #[.int .i8 p.fx, .int .i8 p.fy, .int .i8 p.sd, .int .i8 p.tx, .int .i8 p.ty, .int .i8 p.ot] 45) _ (by simp; try omega)).trans (heap_alloc_new w (.cells #[.int .i8 wd, .int .i8 hi, .slice (some ⟨b, 0, none⟩) n cap] 30))) b1_)
    have q_1_ := Lib.hid (show w1_.heap[w.heap.size + 1]? = some (.cells #[.int .i8 p.fx, .int .i8 p.fy, .int .i8 p.sd, .int .i8 p.tx, .int .i8 p.ty, .int .i8 p.ot] 45 (0, 0)) from blk_below (show ((w.alloc (.cells #[.int .i8 wd, .int .i8 hi, .slice (some ⟨b, 0, none⟩) n cap] 30)).alloc (.cells #[.int .i8 p.fx, .int .i8 p.fy, .int .i8 p.sd, .int .i8 p.tx, .int .i8 p.ty, .int .i8 p.ot] 45)).heap[w.heap.size + 1]? = some _ from by have h := heap_alloc_new (w.alloc (.cells #[.int .i8 wd, .int .i8 hi, .slice (some ⟨b, 0, none⟩) n cap] 30)) (.cells #[.int .i8 p.fx, .int .i8 p.fy, .int .i8 p.sd, .int .i8 p.tx, .int .i8 p.ty, .int .i8 p.ot] 45); simpa only [World.size_alloc] using h) b1_)
    clear bE hP b1_ B1_
    have bE : Below w1_.heap.size w1_ (w1_.alloc (.cells #[.int .i8 0, .int .i8 0, .map none, .int .i8 wd, .int .i8 hi, .slice (some ⟨b, 0, none⟩) n cap] 91)) := (kAlloc (Below.refl _ _) _)
    have cb_0 : (w1_.alloc (.cells #[.int .i8 0, .int .i8 0, .map none, .int .i8 wd, .int .i8 hi, .slice (some ⟨b, 0, none⟩) n cap] 91)).cell? ⟨w.heap.size, 0, none⟩ = some (.int .i8 wd) := cell_of_row _ _ 0 _ _ _ (blk_below b_1_.out bE)
    have cb_1 : (w1_.alloc (.cells #[.int .i8 0, .int .i8 0, .map none, .int .i8 wd, .int .i8 hi, .slice (some ⟨b, 0, none⟩) n cap] 91)).cell? ⟨w.heap.size, 1, none⟩ = some (.int .i8 hi) := cell_of_row _ _ 1 _ _ _ (blk_below b_1_.out bE)
    have cb_2 : (w1_.alloc (.cells #[.int .i8 0, .int .i8 0, .map none, .int .i8 wd, .int .i8 hi, .slice (some ⟨b, 0, none⟩) n cap] 91)).cell? ⟨w.heap.size, 2, none⟩ = some (.slice (some ⟨b, 0, none⟩) n cap) := cell_of_row _ _ 2 _ _ _ (blk_below b_1_.out bE)
    have cq_0 : (w1_.alloc (.cells #[.int .i8 0, .int .i8 0, .map none, .int .i8 wd, .int .i8 hi, .slice (some ⟨b, 0, none⟩) n cap] 91)).cell? ⟨w.heap.size + 1, 0, none⟩ = some (.int .i8 p.fx) := cell_of_row _ _ 0 _ _ _ (blk_below q_1_.out bE)
    have cq_1 : (w1_.alloc (.cells #[.int .i8 0, .int .i8 0, .map none, .int .i8 wd, .int .i8 hi, .slice (some ⟨b, 0, none⟩) n cap] 91)).cell? ⟨w.heap.size + 1, 1, none⟩ = some (.int .i8 p.fy) := cell_of_row _ _ 1 _ _ _ (blk_below q_1_.out bE)
    have cq_2 : (w1_.alloc (.cells #[.int .i8 0, .int .i8 0, .map none, .int .i8 wd, .int .i8 hi, .slice (some ⟨b, 0, none⟩) n cap] 91)).cell? ⟨w.heap.size + 1, 2, none⟩ = some (.int .i8 p.sd) := cell_of_row _ _ 2 _ _ _ (blk_below q_1_.out bE)
    have cq_3 : (w1_.alloc (.cells #[.int .i8 0, .int .i8 0, .map none, .int .i8 wd, .int .i8 hi, .slice (some ⟨b, 0, none⟩) n cap] 91)).cell? ⟨w.heap.size + 1, 3, none⟩ = some (.int .i8 p.tx) := cell_of_row _ _ 3 _ _ _ (blk_below q_1_.out bE)
    have cq_4 : (w1_.alloc (.cells #[.int .i8 0, .int .i8 0, .map none, .int .i8 wd, .int .i8 hi, .slice (some ⟨b, 0, none⟩) n cap] 91)).cell? ⟨w.heap.size + 1, 4, none⟩ = some (.int .i8 p.ty) := cell_of_row _ _ 4 _ _ _ (blk_below q_1_.out bE)
    have cq_5 : (w1_.alloc (.cells #[.int .i8 0, .int .i8 0, .map none, .int .i8 wd, .int .i8 hi, .slice (some ⟨b, 0, none⟩) n cap] 91)).cell? ⟨w.heap.size + 1, 5, none⟩ = some (.int .i8 p.ot) := cell_of_row _ _ 5 _ _ _ (blk_below q_1_.out bE)
    go_wp2
    go_ret
    exact ⟨rfl, (kTrans T1_ bE)⟩
  | true =>
    rintro e w1_ ⟨h1_, _, b1_⟩
    obtain ⟨B, rfl, hm_⟩ := h1_ rfl
    have hm1 := Lib.hid hm_
    clear h1_ hm_
    have Hq := Lib.hid (show R = wayB wd hi l p by rw [HQ.out]; rfl)
    clear HQ
    have B1_ : Below w.heap.size w w1_ := kTrans (kAlloc (kAlloc (Below.refl _ _) _) _) b1_
    have n1_ : w.heap.size + 2 ≤ w1_.heap.size := by have := b1_.size; simpa using this
    have T1_ : Below w.heap.size w w1_ := B1_
    have p_1_ := Lib.hid (hP.out.below B1_ (by omega))
    have b_1_ := Lib.hid (show w1_.heap[w.heap.size]? = some (.cells #[.int .i8 wd, .int .i8 hi, .slice (some ⟨b, 0, none⟩) n cap] 30 (0, 0)) from blk_below ((Below.heap_alloc _ (.cells #[.int .i8 p.fx, .int .i8 p.fy, .int .i8 p.sd, .int .i8 p.tx, .int .i8 p.ty, .int .i8 p.ot] 45) _ (by simp; try omega)).trans (heap_alloc_new w (.cells #[.int .i8 wd, .int .i8 hi, .slice (some ⟨b, 0, none⟩) n cap] 30))) b1_)
    have q_1_ := Lib.hid (show w1_.heap[w.heap.size + 1]? = some (.cells #[.int .i8 p.fx, .int .i8 p.fy, .int .i8 p.sd, .int .i8 p.tx, .int .i8 p.ty, .int .i8 p.ot] 45 (0, 0)) from blk_below (show ((w.alloc (.cells #[.int .i8 wd, .int .i8 hi, .slice (some ⟨b, 0, none⟩) n cap] 30)).alloc (.cells #[.int .i8 p.fx, .int .i8 p.fy, .int .i8 p.sd, .int .i8 p.tx, .int .i8 p.ty, .int .i8 p.ot] 45)).heap[w.heap.size + 1]? = some _ from by have h := heap_alloc_new (w.alloc (.cells #[.int .i8 wd, .int .i8 hi, .slice (some ⟨b, 0, none⟩) n cap] 30)) (.cells #[.int .i8 p.fx, .int .i8 p.fy, .int .i8 p.sd, .int .i8 p.tx, .int .i8 p.ty, .int .i8 p.ot] 45); simpa only [World.size_alloc] using h) b1_)
    clear bE hP b1_ B1_
    have bE : Below w1_.heap.size w1_ (w1_.alloc (.cells #[.int .i8 wd, .int .i8 hi, .map (some B), .int .i8 wd, .int .i8 hi, .slice (some ⟨b, 0, none⟩) n cap] 91)) := (kAlloc (Below.refl _ _) _)
    have cb_0 : (w1_.alloc (.cells #[.int .i8 wd, .int .i8 hi, .map (some B), .int .i8 wd, .int .i8 hi, .slice (some ⟨b, 0, none⟩) n cap] 91)).cell? ⟨w.heap.size, 0, none⟩ = some (.int .i8 wd) := cell_of_row _ _ 0 _ _ _ (blk_below b_1_.out bE)
    have cb_1 : (w1_.alloc (.cells #[.int .i8 wd, .int .i8 hi, .map (some B), .int .i8 wd, .int .i8 hi, .slice (some ⟨b, 0, none⟩) n cap] 91)).cell? ⟨w.heap.size, 1, none⟩ = some (.int .i8 hi) := cell_of_row _ _ 1 _ _ _ (blk_below b_1_.out bE)
    have cb_2 : (w1_.alloc (.cells #[.int .i8 wd, .int .i8 hi, .map (some B), .int .i8 wd, .int .i8 hi, .slice (some ⟨b, 0, none⟩) n cap] 91)).cell? ⟨w.heap.size, 2, none⟩ = some (.slice (some ⟨b, 0, none⟩) n cap) := cell_of_row _ _ 2 _ _ _ (blk_below b_1_.out bE)
    have cq_0 : (w1_.alloc (.cells #[.int .i8 wd, .int .i8 hi, .map (some B), .int .i8 wd, .int .i8 hi, .slice (some ⟨b, 0, none⟩) n cap] 91)).cell? ⟨w.heap.size + 1, 0, none⟩ = some (.int .i8 p.fx) := cell_of_row _ _ 0 _ _ _ (blk_below q_1_.out bE)
    have cq_1 : (w1_.alloc (.cells #[.int .i8 wd, .int .i8 hi, .map (some B), .int .i8 wd, .int .i8 hi, .slice (some ⟨b, 0, none⟩) n cap] 91)).cell? ⟨w.heap.size + 1, 1, none⟩ = some (.int .i8 p.fy) := cell_of_row _ _ 1 _ _ _ (blk_below q_1_.out bE)
    have cq_2 : (w1_.alloc (.cells #[.int .i8 wd, .int .i8 hi, .map (some B), .int .i8 wd, .int .i8 hi, .slice (some ⟨b, 0, none⟩) n cap] 91)).cell? ⟨w.heap.size + 1, 2, none⟩ = some (.int .i8 p.sd) := cell_of_row _ _ 2 _ _ _ (blk_below q_1_.out bE)
    have cq_3 : (w1_.alloc (.cells #[.int .i8 wd, .int .i8 hi, .map (some B), .int .i8 wd, .int .i8 hi, .slice (some ⟨b, 0, none⟩) n cap] 91)).cell? ⟨w.heap.size + 1, 3, none⟩ = some (.int .i8 p.tx) := cell_of_row _ _ 3 _ _ _ (blk_below q_1_.out bE)
    have cq_4 : (w1_.alloc (.cells #[.int .i8 wd, .int .i8 hi, .map (some B), .int .i8 wd, .int .i8 hi, .slice (some ⟨b, 0, none⟩) n cap] 91)).cell? ⟨w.heap.size + 1, 4, none⟩ = some (.int .i8 p.ty) := cell_of_row _ _ 4 _ _ _ (blk_below q_1_.out bE)
    have cq_5 : (w1_.alloc (.cells #[.int .i8 wd, .int .i8 hi, .map (some B), .int .i8 wd, .int .i8 hi, .slice (some ⟨b, 0, none⟩) n cap] 91)).cell? ⟨w.heap.size + 1, 5, none⟩ = some (.int .i8 p.ot) := cell_of_row _ _ 5 _ _ _ (blk_below q_1_.out bE)
    go_wp2_with fail
    refine (allows_any wd hi p B _ l _ (hm1.out.below bE) hp8 hw8 hh8 R Hq.out).mono ?_
    rintro e w2_ ⟨rfl, b2_⟩
    have B2_ : Below w1_.heap.size w1_ w2_ := kTrans (kAlloc (Below.refl _ _) _) b2_
    have n2_ : w1_.heap.size + 1 ≤ w2_.heap.size := by have := b2_.size; simpa using this
    have T2_ : Below w.heap.size w w2_ := kTrans T1_ B2_
    have p_2_ := Lib.hid (p_1_.out.below B2_ (by omega))
    have b_2_ := Lib.hid (blk_below b_1_.out B2_)
    have q_2_ := Lib.hid (blk_below q_1_.out B2_)
    have m_2_ := Lib.hid (hm1.out.below B2_)
    have y_2_ := Lib.hid (show w2_.heap[w1_.heap.size]? = some (.cells #[.int .i8 wd, .int .i8 hi, .map (some B), .int .i8 wd, .int .i8 hi, .slice (some ⟨b, 0, none⟩) n cap] 91 (0, 0)) from blk_below (heap_alloc_new w1_ (.cells #[.int .i8 wd, .int .i8 hi, .map (some B), .int .i8 wd, .int .i8 hi, .slice (some ⟨b, 0, none⟩) n cap] 91)) b2_)
    clear bE cb_0 cb_1 cb_2 cq_0 cq_1 cq_2 cq_3 cq_4 cq_5 p_1_ b_1_ q_1_ hm1 b2_ B2_ T1_
    go_wp2
    go_ret
    exact ⟨rfl, T2_⟩
end Go.Proofs.Ytlfdoibmejbdcaa
