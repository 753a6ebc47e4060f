/- 'CarriesPush' answers as its model at every argument. No conditions. -/
import Derived.Test.YtflkfkbdgekpkaaDoorG11
import Derived.Test.YtflkfkbdgekpkaaDoorCys
import Derived.Test.YtflkfkbdgekpkaaDoorVw
import Derived.Test.YtflkfkbdgekpkaaDoorG4
import Derived.Deep.RegionHeld3
import Derived.Deep.DeepCutAuto
namespace Go.Proofs.YtflkfkbdgekpkaaDoor.CarriesPush
open Go.ChangeShapes Go.WideShapes Go.ChangeAt Go.RowKit
set_option linter.unusedVariables false

set_option maxRecDepth 100000 in
set_option maxHeartbeats 16000000 in
theorem walk {w : World} (hst_ : StayAt w) (wd0 hi0 : Int) (v0 : Value) (l0 : List Pc) (bw0 : i8 wd0) (bh0 : i8 hi0) (s0 : Sl w l0 v0) (a0 : All8 l0) (e0 : l0.length ≤ 9223372036854775807) (p1 : Wy) (bp1 : p1.in8) :
    Calls Tryd.prog 3 #[.agg #[.int .i8 wd0, .int .i8 hi0, v0], .agg #[.int .i8 p1.fx, .int .i8 p1.fy, .int .i8 p1.sd, .int .i8 p1.tx, .int .i8 p1.ty, .int .i8 p1.ot]] w fun e w' => e = .returned (.bool true) ∧ Below w.heap.size w w' := by
  have S0_ := Lib.hid (SlO.start s0)
  clear s0
  have ST_ := Lib.hid hst_
  have st0_ : 0 < w.heap.size := hst_.2
  clear hst_
  by_cases h0 : 1048576 - (l0.length : Int) < 0
  · skip
    have bE : Below w.heap.size w ((w.alloc (.cells #[.int .i8 wd0, .int .i8 hi0, v0] 25)).alloc (.cells #[.int .i8 p1.fx, .int .i8 p1.fy, .int .i8 p1.sd, .int .i8 p1.tx, .int .i8 p1.ty, .int .i8 p1.ot] 28)) := (kAlloc (kAlloc (Below.refl _ _) _) _)
    go_enter Tryd.func3, Tryd.ntmps3
    go_wp2_with fail
    refine (szBoard_any wd0 hi0 v0 l0 _ (S0_.out.below bE).sl (1048576) e0 (by omega) (by omega)).mono ?_
    rw [if_pos (by omega)]
    rintro e w1_ ⟨rfl, b1_⟩
    have B1_ : Below w.heap.size w w1_ := kTrans (kAlloc (kAlloc (Below.refl _ _) _) _) b1_
    have n1_ : w.heap.size + 2 ≤ w1_.heap.size := by have := b1_.size; simpa using this
    have T1_ : Below w.heap.size w w1_ := B1_
    have ST_1_ := Lib.hid (ST_.out.below B1_)
    have S0_1_ := Lib.hid (S0_.out.below B1_)
    have A0_1_ := Lib.hid (blk_below ((Below.heap_alloc (w.alloc (.cells #[.int .i8 wd0, .int .i8 hi0, v0] 25)) (.cells #[.int .i8 p1.fx, .int .i8 p1.fy, .int .i8 p1.sd, .int .i8 p1.tx, .int .i8 p1.ty, .int .i8 p1.ot] 28) _ (by simp)).trans (heap_alloc_new w (.cells #[.int .i8 wd0, .int .i8 hi0, v0] 25))) b1_)
    have E1_1_ := Lib.hid (blk_below (heap_two w (.cells #[.int .i8 wd0, .int .i8 hi0, v0] 25) (.cells #[.int .i8 p1.fx, .int .i8 p1.fy, .int .i8 p1.sd, .int .i8 p1.tx, .int .i8 p1.ty, .int .i8 p1.ot] 28)) b1_)
    clear bE ST_ S0_ b1_ B1_
    go_wp2
    go_ret
    exact ⟨rfl, T1_⟩
  · skip
    have h0' : ¬ 1048576 < (l0.length : Int) := by omega
    have m0 : l0.length ≤ 1048576 := by omega
    have q0 : (5 : Int) * l0.length ≤ 5242880 := by omega
    obtain ⟨R, hR⟩ : ∃ R, R = boardOk wd0 hi0 l0 := ⟨_, rfl⟩
    obtain ⟨lr, hlr⟩ := cp_runs p1 hR
    obtain ⟨T, C, hQ⟩ : ∃ T C, cpQ R l0 p1 lr = (T, C) := ⟨_, _, rfl⟩
    have Hs := Lib.hid (fun b0 w2 hp0 hb0 => specCarriesPush_any b0 _ _ wd0 hi0 l0 p1 w2 rfl hp0 hb0 (Nat.le_refl _) a0 bp1 bw0 bh0 m0 R hR lr hlr T C hQ)
    have Hi := Lib.hid (fun b0 w2 hp0 hb0 hs2 => implCarriesPush_any b0 _ _ wd0 hi0 l0 p1 w2 rfl hp0 hb0 (Nat.le_refl _) a0 bp1 m0 R hR hs2 lr hlr T C hQ)
    clear hR hlr hQ
    have bE : Below w.heap.size w ((w.alloc (.cells #[.int .i8 wd0, .int .i8 hi0, v0] 25)).alloc (.cells #[.int .i8 p1.fx, .int .i8 p1.fy, .int .i8 p1.sd, .int .i8 p1.tx, .int .i8 p1.ty, .int .i8 p1.ot] 28)) := (kAlloc (kAlloc (Below.refl _ _) _) _)
    go_enter Tryd.func3, Tryd.ntmps3
    go_wp2_with fail
    refine (szBoard_any wd0 hi0 v0 l0 _ (S0_.out.below bE).sl (1048576) e0 (by omega) (by omega)).mono ?_
    rw [if_neg (by omega)]
    rintro e w1_ ⟨rfl, b1_⟩
    have B1_ : Below w.heap.size w w1_ := kTrans (kAlloc (kAlloc (Below.refl _ _) _) _) b1_
    have n1_ : w.heap.size + 2 ≤ w1_.heap.size := by have := b1_.size; simpa using this
    have T1_ : Below w.heap.size w w1_ := B1_
    have ST_1_ := Lib.hid (ST_.out.below B1_)
    have S0_1_ := Lib.hid (S0_.out.below B1_)
    have A0_1_ := Lib.hid (blk_below ((Below.heap_alloc (w.alloc (.cells #[.int .i8 wd0, .int .i8 hi0, v0] 25)) (.cells #[.int .i8 p1.fx, .int .i8 p1.fy, .int .i8 p1.sd, .int .i8 p1.tx, .int .i8 p1.ty, .int .i8 p1.ot] 28) _ (by simp)).trans (heap_alloc_new w (.cells #[.int .i8 wd0, .int .i8 hi0, v0] 25))) b1_)
    have E1_1_ := Lib.hid (blk_below (heap_two w (.cells #[.int .i8 wd0, .int .i8 hi0, v0] 25) (.cells #[.int .i8 p1.fx, .int .i8 p1.fy, .int .i8 p1.sd, .int .i8 p1.tx, .int .i8 p1.ty, .int .i8 p1.ot] 28)) b1_)
    clear bE ST_ S0_ b1_ B1_
    go_upto_region 5 with fail
    have cw0_0 : w1_.cell? ⟨w.heap.size, 0, none⟩ = some (.int .i8 wd0) := cell_of_row _ _ 0 _ _ _ A0_1_.out
    have cw0_1 : w1_.cell? ⟨w.heap.size, 1, none⟩ = some (.int .i8 hi0) := cell_of_row _ _ 1 _ _ _ A0_1_.out
    have cw0_2 : w1_.cell? ⟨w.heap.size, 2, none⟩ = some (v0) := cell_of_row _ _ 2 _ _ _ A0_1_.out
    have lbw0_0 : w.heap.size < w1_.heap.size := blk_lt A0_1_.out
    have cw1_0 : w1_.cell? ⟨w.heap.size + 1, 0, none⟩ = some (.int .i8 p1.fx) := cell_of_row _ _ 0 _ _ _ E1_1_.out
    have cw1_1 : w1_.cell? ⟨w.heap.size + 1, 1, none⟩ = some (.int .i8 p1.fy) := cell_of_row _ _ 1 _ _ _ E1_1_.out
    have cw1_2 : w1_.cell? ⟨w.heap.size + 1, 2, none⟩ = some (.int .i8 p1.sd) := cell_of_row _ _ 2 _ _ _ E1_1_.out
    have cw1_3 : w1_.cell? ⟨w.heap.size + 1, 3, none⟩ = some (.int .i8 p1.tx) := cell_of_row _ _ 3 _ _ _ E1_1_.out
    have cw1_4 : w1_.cell? ⟨w.heap.size + 1, 4, none⟩ = some (.int .i8 p1.ty) := cell_of_row _ _ 4 _ _ _ E1_1_.out
    have cw1_5 : w1_.cell? ⟨w.heap.size + 1, 5, none⟩ = some (.int .i8 p1.ot) := cell_of_row _ _ 5 _ _ _ E1_1_.out
    have lbw1_0 : w.heap.size + 1 < w1_.heap.size := blk_lt E1_1_.out
    go_region_held3 (fun w' => w'.cell? ⟨w.heap.size, 0, none⟩ = some (.int .i8 wd0) ∧ w'.cell? ⟨w.heap.size, 1, none⟩ = some (.int .i8 hi0) ∧ w'.cell? ⟨w.heap.size, 2, none⟩ = some (v0) ∧ w'.cell? ⟨w.heap.size + 1, 0, none⟩ = some (.int .i8 p1.fx) ∧ w'.cell? ⟨w.heap.size + 1, 1, none⟩ = some (.int .i8 p1.fy) ∧ w'.cell? ⟨w.heap.size + 1, 2, none⟩ = some (.int .i8 p1.sd) ∧ w'.cell? ⟨w.heap.size + 1, 3, none⟩ = some (.int .i8 p1.tx) ∧ w'.cell? ⟨w.heap.size + 1, 4, none⟩ = some (.int .i8 p1.ty) ∧ w'.cell? ⟨w.heap.size + 1, 5, none⟩ = some (.int .i8 p1.ot)) (go_keep)
      (first
      | (go_at_call 8
         refine (Hs.out kkw1 _ (hpw1.out.below bw2 zzw1) (Nat.lt_of_lt_of_le zzw1 bw2.size)).mono ?_
         rintro e hvw3 ⟨rfl, bw3⟩
         have kvw3 : Below w1_.heap.size w1_ hvw3 := kTrans kvw2 bw3
         have lbw0_3 : w.heap.size < hvw3.heap.size := Nat.lt_of_lt_of_le lbw0_2 bw3.size
         have cw0_0 := (bw3.cell (p := ⟨w.heap.size, 0, none⟩) lbw0_2).trans cw0_0
         have cw0_1 := (bw3.cell (p := ⟨w.heap.size, 1, none⟩) lbw0_2).trans cw0_1
         have cw0_2 := (bw3.cell (p := ⟨w.heap.size, 2, none⟩) lbw0_2).trans cw0_2
         have lbw1_3 : w.heap.size + 1 < hvw3.heap.size := Nat.lt_of_lt_of_le lbw1_2 bw3.size
         have cw1_0 := (bw3.cell (p := ⟨w.heap.size + 1, 0, none⟩) lbw1_2).trans cw1_0
         have cw1_1 := (bw3.cell (p := ⟨w.heap.size + 1, 1, none⟩) lbw1_2).trans cw1_1
         have cw1_2 := (bw3.cell (p := ⟨w.heap.size + 1, 2, none⟩) lbw1_2).trans cw1_2
         have cw1_3 := (bw3.cell (p := ⟨w.heap.size + 1, 3, none⟩) lbw1_2).trans cw1_3
         have cw1_4 := (bw3.cell (p := ⟨w.heap.size + 1, 4, none⟩) lbw1_2).trans cw1_4
         have cw1_5 := (bw3.cell (p := ⟨w.heap.size + 1, 5, none⟩) lbw1_2).trans cw1_5)
      | (go_at_call 10
         refine (toWay_any p1 _).mono ?_
         rintro e hvw2 ⟨rfl, bw2⟩
         have kvw2 : Below w1_.heap.size w1_ hvw2 := kTrans kvw1 bw2
         have lbw0_2 : w.heap.size < hvw2.heap.size := Nat.lt_of_lt_of_le lbw0_1 bw2.size
         have cw0_0 := (bw2.cell (p := ⟨w.heap.size, 0, none⟩) lbw0_1).trans cw0_0
         have cw0_1 := (bw2.cell (p := ⟨w.heap.size, 1, none⟩) lbw0_1).trans cw0_1
         have cw0_2 := (bw2.cell (p := ⟨w.heap.size, 2, none⟩) lbw0_1).trans cw0_2
         have lbw1_2 : w.heap.size + 1 < hvw2.heap.size := Nat.lt_of_lt_of_le lbw1_1 bw2.size
         have cw1_0 := (bw2.cell (p := ⟨w.heap.size + 1, 0, none⟩) lbw1_1).trans cw1_0
         have cw1_1 := (bw2.cell (p := ⟨w.heap.size + 1, 1, none⟩) lbw1_1).trans cw1_1
         have cw1_2 := (bw2.cell (p := ⟨w.heap.size + 1, 2, none⟩) lbw1_1).trans cw1_2
         have cw1_3 := (bw2.cell (p := ⟨w.heap.size + 1, 3, none⟩) lbw1_1).trans cw1_3
         have cw1_4 := (bw2.cell (p := ⟨w.heap.size + 1, 4, none⟩) lbw1_1).trans cw1_4
         have cw1_5 := (bw2.cell (p := ⟨w.heap.size + 1, 5, none⟩) lbw1_1).trans cw1_5)
      | (go_at_call 9
         refine (toBoard_any wd0 hi0 v0 l0 _ (S0_1_.out.below (Below.drew (Below.refl _ _))).sl m0).mono ?_
         rintro e hvw1 ⟨kkw1, rfl, yyw1, zzw1, ppw1, bw1⟩
         have hpw1 := Lib.hid ppw1
         clear ppw1 yyw1
         have kvw1 : Below w1_.heap.size w1_ hvw1 := kTrans (Below.drew (Below.refl _ _)) bw1
         have lbw0_1 : w.heap.size < hvw1.heap.size := Nat.lt_of_lt_of_le lbw0_0 bw1.size
         have cw0_0 := (bw1.cell (p := ⟨w.heap.size, 0, none⟩) lbw0_0).trans cw0_0
         have cw0_1 := (bw1.cell (p := ⟨w.heap.size, 1, none⟩) lbw0_0).trans cw0_1
         have cw0_2 := (bw1.cell (p := ⟨w.heap.size, 2, none⟩) lbw0_0).trans cw0_2
         have lbw1_1 : w.heap.size + 1 < hvw1.heap.size := Nat.lt_of_lt_of_le lbw1_0 bw1.size
         have cw1_0 := (bw1.cell (p := ⟨w.heap.size + 1, 0, none⟩) lbw1_0).trans cw1_0
         have cw1_1 := (bw1.cell (p := ⟨w.heap.size + 1, 1, none⟩) lbw1_0).trans cw1_1
         have cw1_2 := (bw1.cell (p := ⟨w.heap.size + 1, 2, none⟩) lbw1_0).trans cw1_2
         have cw1_3 := (bw1.cell (p := ⟨w.heap.size + 1, 3, none⟩) lbw1_0).trans cw1_3
         have cw1_4 := (bw1.cell (p := ⟨w.heap.size + 1, 4, none⟩) lbw1_0).trans cw1_4
         have cw1_5 := (bw1.cell (p := ⟨w.heap.size + 1, 5, none⟩) lbw1_0).trans cw1_5))
    have n2_ : w1_.heap.size ≤ hvw3.heap.size := kvw3.size
    have T2_ : Below w.heap.size w hvw3 := kTrans T1_ kvw3
    have ST_2_ := Lib.hid (ST_1_.out.below kvw3)
    have S0_2_ := Lib.hid (S0_1_.out.below kvw3)
    have A0_2_ := Lib.hid (blk_below A0_1_.out kvw3)
    have E1_2_ := Lib.hid (blk_below E1_1_.out kvw3)
    clear cw0_0 cw0_1 cw0_2 lbw0_0 cw1_0 cw1_1 cw1_2 cw1_3 cw1_4 cw1_5 lbw1_0 hpw1 zzw1 bw1 kvw1 lbw0_1 lbw1_1 bw2 kvw2 lbw0_2 lbw1_2 bw3 lbw0_3 lbw1_3 ST_1_ S0_1_ A0_1_ E1_1_ kvw3 T1_
    have c0_0 : hvw3.cell? ⟨w.heap.size, 0, none⟩ = some (.int .i8 wd0) := cell_of_row _ _ 0 _ _ _ A0_2_.out
    have c0_1 : hvw3.cell? ⟨w.heap.size, 1, none⟩ = some (.int .i8 hi0) := cell_of_row _ _ 1 _ _ _ A0_2_.out
    have c0_2 : hvw3.cell? ⟨w.heap.size, 2, none⟩ = some (v0) := cell_of_row _ _ 2 _ _ _ A0_2_.out
    go_wp2_with fail
    refine (toBoard_own wd0 hi0 v0 l0 _ S0_2_.out.sl m0).mono ?_
    rintro e w3_ ⟨k3_, rfl, vx3_, z3_, p3_, y3_, b3_⟩
    have n3_ : hvw3.heap.size ≤ w3_.heap.size := b3_.size
    have T3_ : Below w.heap.size w w3_ := kTrans T2_ b3_
    have P0i_3_ := Lib.hid p3_
    have V0_3_ := Lib.hid vx3_
    clear p3_ vx3_ y3_
    have ST_3_ := Lib.hid (ST_2_.out.below b3_)
    have S0_3_ := Lib.hid (S0_2_.out.below b3_)
    have A0_3_ := Lib.hid (blk_below A0_2_.out b3_)
    have E1_3_ := Lib.hid (blk_below E1_2_.out b3_)
    clear c0_0 c0_1 c0_2 ST_2_ S0_2_ A0_2_ E1_2_ b3_ T2_
    have bE : Below w3_.heap.size w3_ (w3_.alloc (.cells #[.int .i8 wd0, .int .i8 hi0, .slice (some ⟨k3_, 0, none⟩) l0.length l0.length] 34)) := (kAlloc (Below.refl _ _) _)
    have ST_4_ := Lib.hid ((ST_3_.out.below bE))
    have S0_4_ := Lib.hid ((S0_3_.out.below bE))
    have A0_4_ := Lib.hid ((blk_below A0_3_.out bE))
    have E1_4_ := Lib.hid ((blk_below E1_3_.out bE))
    have P0i_4_ := Lib.hid ((P0i_3_.out.below bE (by omega)))
    have V0_4_ := Lib.hid ((V0_3_.out.below bE))
    have X0_4_ := Lib.hid (heap_alloc_new w3_ (.cells #[.int .i8 wd0, .int .i8 hi0, .slice (some ⟨k3_, 0, none⟩) l0.length l0.length] 34))
    have T4_ := kTrans T3_ bE
    have n4_ : w3_.heap.size + 1 ≤ (w3_.alloc (.cells #[.int .i8 wd0, .int .i8 hi0, .slice (some ⟨k3_, 0, none⟩) l0.length l0.length] 34)).heap.size := by simp
    clear bE ST_3_ S0_3_ A0_3_ E1_3_ P0i_3_ V0_3_ T3_
    go_upto_region 7 with fail
    generalize (w3_.alloc (.cells #[.int .i8 wd0, .int .i8 hi0, .slice (some ⟨k3_, 0, none⟩) l0.length l0.length] 34)) = w4_ at *
    have cg0_0 : w4_.cell? ⟨w3_.heap.size, 0, none⟩ = some (.int .i8 wd0) := cell_of_row _ _ 0 _ _ _ X0_4_.out
    have cg0_1 : w4_.cell? ⟨w3_.heap.size, 1, none⟩ = some (.int .i8 hi0) := cell_of_row _ _ 1 _ _ _ X0_4_.out
    have cg0_2 : w4_.cell? ⟨w3_.heap.size, 2, none⟩ = some (.slice (some ⟨k3_, 0, none⟩) l0.length l0.length) := cell_of_row _ _ 2 _ _ _ X0_4_.out
    have lbg0_0 : w3_.heap.size < w4_.heap.size := blk_lt X0_4_.out
    have cg1_0 : w4_.cell? ⟨w.heap.size + 1, 0, none⟩ = some (.int .i8 p1.fx) := cell_of_row _ _ 0 _ _ _ E1_4_.out
    have cg1_1 : w4_.cell? ⟨w.heap.size + 1, 1, none⟩ = some (.int .i8 p1.fy) := cell_of_row _ _ 1 _ _ _ E1_4_.out
    have cg1_2 : w4_.cell? ⟨w.heap.size + 1, 2, none⟩ = some (.int .i8 p1.sd) := cell_of_row _ _ 2 _ _ _ E1_4_.out
    have cg1_3 : w4_.cell? ⟨w.heap.size + 1, 3, none⟩ = some (.int .i8 p1.tx) := cell_of_row _ _ 3 _ _ _ E1_4_.out
    have cg1_4 : w4_.cell? ⟨w.heap.size + 1, 4, none⟩ = some (.int .i8 p1.ty) := cell_of_row _ _ 4 _ _ _ E1_4_.out
    have cg1_5 : w4_.cell? ⟨w.heap.size + 1, 5, none⟩ = some (.int .i8 p1.ot) := cell_of_row _ _ 5 _ _ _ E1_4_.out
    have lbg1_0 : w.heap.size + 1 < w4_.heap.size := blk_lt E1_4_.out
    go_region_held3 (fun w' => w'.cell? ⟨w3_.heap.size, 0, none⟩ = some (.int .i8 wd0) ∧ w'.cell? ⟨w3_.heap.size, 1, none⟩ = some (.int .i8 hi0) ∧ w'.cell? ⟨w3_.heap.size, 2, none⟩ = some (.slice (some ⟨k3_, 0, none⟩) l0.length l0.length) ∧ w'.cell? ⟨w.heap.size + 1, 0, none⟩ = some (.int .i8 p1.fx) ∧ w'.cell? ⟨w.heap.size + 1, 1, none⟩ = some (.int .i8 p1.fy) ∧ w'.cell? ⟨w.heap.size + 1, 2, none⟩ = some (.int .i8 p1.sd) ∧ w'.cell? ⟨w.heap.size + 1, 3, none⟩ = some (.int .i8 p1.tx) ∧ w'.cell? ⟨w.heap.size + 1, 4, none⟩ = some (.int .i8 p1.ty) ∧ w'.cell? ⟨w.heap.size + 1, 5, none⟩ = some (.int .i8 p1.ot)) (go_keep)
      (first
      | (go_at_call 11
         refine (Hi.out k3_ _ (P0i_4_.out.below kvg1 (by omega)) (Nat.lt_of_lt_of_le (by omega) kvg1.size) (ST_4_.out.below kvg1)).mono ?_
         rintro e hvg2 ⟨rfl, bg2⟩
         have kvg2 : Below w4_.heap.size w4_ hvg2 := kTrans kvg1 bg2
         have lbg0_2 : w3_.heap.size < hvg2.heap.size := Nat.lt_of_lt_of_le lbg0_1 bg2.size
         have cg0_0 := (bg2.cell (p := ⟨w3_.heap.size, 0, none⟩) lbg0_1).trans cg0_0
         have cg0_1 := (bg2.cell (p := ⟨w3_.heap.size, 1, none⟩) lbg0_1).trans cg0_1
         have cg0_2 := (bg2.cell (p := ⟨w3_.heap.size, 2, none⟩) lbg0_1).trans cg0_2
         have lbg1_2 : w.heap.size + 1 < hvg2.heap.size := Nat.lt_of_lt_of_le lbg1_1 bg2.size
         have cg1_0 := (bg2.cell (p := ⟨w.heap.size + 1, 0, none⟩) lbg1_1).trans cg1_0
         have cg1_1 := (bg2.cell (p := ⟨w.heap.size + 1, 1, none⟩) lbg1_1).trans cg1_1
         have cg1_2 := (bg2.cell (p := ⟨w.heap.size + 1, 2, none⟩) lbg1_1).trans cg1_2
         have cg1_3 := (bg2.cell (p := ⟨w.heap.size + 1, 3, none⟩) lbg1_1).trans cg1_3
         have cg1_4 := (bg2.cell (p := ⟨w.heap.size + 1, 4, none⟩) lbg1_1).trans cg1_4
         have cg1_5 := (bg2.cell (p := ⟨w.heap.size + 1, 5, none⟩) lbg1_1).trans cg1_5)
      | (go_at_call 10
         refine (toWay_any p1 _).mono ?_
         rintro e hvg1 ⟨rfl, bg1⟩
         have kvg1 : Below w4_.heap.size w4_ hvg1 := kTrans (Below.drew (Below.refl _ _)) bg1
         have lbg0_1 : w3_.heap.size < hvg1.heap.size := Nat.lt_of_lt_of_le lbg0_0 bg1.size
         have cg0_0 := (bg1.cell (p := ⟨w3_.heap.size, 0, none⟩) lbg0_0).trans cg0_0
         have cg0_1 := (bg1.cell (p := ⟨w3_.heap.size, 1, none⟩) lbg0_0).trans cg0_1
         have cg0_2 := (bg1.cell (p := ⟨w3_.heap.size, 2, none⟩) lbg0_0).trans cg0_2
         have lbg1_1 : w.heap.size + 1 < hvg1.heap.size := Nat.lt_of_lt_of_le lbg1_0 bg1.size
         have cg1_0 := (bg1.cell (p := ⟨w.heap.size + 1, 0, none⟩) lbg1_0).trans cg1_0
         have cg1_1 := (bg1.cell (p := ⟨w.heap.size + 1, 1, none⟩) lbg1_0).trans cg1_1
         have cg1_2 := (bg1.cell (p := ⟨w.heap.size + 1, 2, none⟩) lbg1_0).trans cg1_2
         have cg1_3 := (bg1.cell (p := ⟨w.heap.size + 1, 3, none⟩) lbg1_0).trans cg1_3
         have cg1_4 := (bg1.cell (p := ⟨w.heap.size + 1, 4, none⟩) lbg1_0).trans cg1_4
         have cg1_5 := (bg1.cell (p := ⟨w.heap.size + 1, 5, none⟩) lbg1_0).trans cg1_5))
    have n5_ : w4_.heap.size ≤ hvg2.heap.size := kvg2.size
    have T5_ : Below w.heap.size w hvg2 := kTrans T4_ kvg2
    have ST_5_ := Lib.hid (ST_4_.out.below kvg2)
    have S0_5_ := Lib.hid (S0_4_.out.below kvg2)
    have A0_5_ := Lib.hid (blk_below A0_4_.out kvg2)
    have E1_5_ := Lib.hid (blk_below E1_4_.out kvg2)
    have V0_5_ := Lib.hid (V0_4_.out.below kvg2)
    have X0_5_ := Lib.hid (blk_below X0_4_.out kvg2)
    clear cg0_0 cg0_1 cg0_2 lbg0_0 cg1_0 cg1_1 cg1_2 cg1_3 cg1_4 cg1_5 lbg1_0 bg1 kvg1 lbg0_1 lbg1_1 bg2 lbg0_2 lbg1_2 ST_4_ S0_4_ A0_4_ E1_4_ P0i_4_ V0_4_ X0_4_ kvg2 T4_
    have c0_0 : hvg2.cell? ⟨w.heap.size, 0, none⟩ = some (.int .i8 wd0) := cell_of_row _ _ 0 _ _ _ A0_5_.out
    have c0_1 : hvg2.cell? ⟨w.heap.size, 1, none⟩ = some (.int .i8 hi0) := cell_of_row _ _ 1 _ _ _ A0_5_.out
    have c0_2 : hvg2.cell? ⟨w.heap.size, 2, none⟩ = some (v0) := cell_of_row _ _ 2 _ _ _ A0_5_.out
    have c1_0 : hvg2.cell? ⟨w3_.heap.size, 0, none⟩ = some (.int .i8 wd0) := cell_of_row _ _ 0 _ _ _ X0_5_.out
    have c1_1 : hvg2.cell? ⟨w3_.heap.size, 1, none⟩ = some (.int .i8 hi0) := cell_of_row _ _ 1 _ _ _ X0_5_.out
    have c1_2 : hvg2.cell? ⟨w3_.heap.size, 2, none⟩ = some (.slice (some ⟨k3_, 0, none⟩) l0.length l0.length) := cell_of_row _ _ 2 _ _ _ X0_5_.out
    have la_ : w.heap.size < hvg2.heap.size := blk_lt A0_5_.out
    have lx_ : w3_.heap.size < hvg2.heap.size := blk_lt X0_5_.out
    go_wp2_with fail
    go_region_held3 (fun w' => w'.cell? ⟨w.heap.size, 0, none⟩ = some (.int .i8 wd0) ∧ w'.cell? ⟨w.heap.size, 1, none⟩ = some (.int .i8 hi0) ∧ w'.cell? ⟨w.heap.size, 2, none⟩ = some (v0) ∧ w'.cell? ⟨w3_.heap.size, 0, none⟩ = some (.int .i8 wd0) ∧ w'.cell? ⟨w3_.heap.size, 1, none⟩ = some (.int .i8 hi0) ∧ w'.cell? ⟨w3_.heap.size, 2, none⟩ = some (.slice (some ⟨k3_, 0, none⟩) l0.length l0.length)) (go_keep)
      (first
      | (go_at_call 12
         refine (eqBoard_any wd0 hi0 _ _ l0 _ (V0_5_.out.below (kTrans (Below.drew (Below.refl _ _)) b6_)).sl (Sl.mk k6_ 0 _ p6_ z6_ (Nat.le_refl _)) a0 m0).mono ?_
         rintro e w7_ ⟨rfl, b7_⟩
         have c0_0 := (b7_.cell (p := ⟨w.heap.size, 0, none⟩) (Nat.lt_of_lt_of_le la_ b6_.size)).trans c0_0
         have c0_1 := (b7_.cell (p := ⟨w.heap.size, 1, none⟩) (Nat.lt_of_lt_of_le la_ b6_.size)).trans c0_1
         have c0_2 := (b7_.cell (p := ⟨w.heap.size, 2, none⟩) (Nat.lt_of_lt_of_le la_ b6_.size)).trans c0_2
         have c1_0 := (b7_.cell (p := ⟨w3_.heap.size, 0, none⟩) (Nat.lt_of_lt_of_le lx_ b6_.size)).trans c1_0
         have c1_1 := (b7_.cell (p := ⟨w3_.heap.size, 1, none⟩) (Nat.lt_of_lt_of_le lx_ b6_.size)).trans c1_1
         have c1_2 := (b7_.cell (p := ⟨w3_.heap.size, 2, none⟩) (Nat.lt_of_lt_of_le lx_ b6_.size)).trans c1_2)
      | (go_at_call 9
         refine (toBoard_any wd0 hi0 v0 l0 _ (S0_5_.out.below (Below.drew (Below.refl _ _))).sl m0).mono ?_
         rintro e w6_ ⟨k6_, rfl, y6_, z6_, p6_, b6_⟩
         have c0_0 := (b6_.cell (p := ⟨w.heap.size, 0, none⟩) la_).trans c0_0
         have c0_1 := (b6_.cell (p := ⟨w.heap.size, 1, none⟩) la_).trans c0_1
         have c0_2 := (b6_.cell (p := ⟨w.heap.size, 2, none⟩) la_).trans c0_2
         have c1_0 := (b6_.cell (p := ⟨w3_.heap.size, 0, none⟩) lx_).trans c1_0
         have c1_1 := (b6_.cell (p := ⟨w3_.heap.size, 1, none⟩) lx_).trans c1_1
         have c1_2 := (b6_.cell (p := ⟨w3_.heap.size, 2, none⟩) lx_).trans c1_2))
    have bb_ : Below hvg2.heap.size hvg2 w7_ := kTrans (kTrans (Below.drew (Below.refl _ _)) b6_) b7_
    clear b6_ b7_ y6_ z6_ p6_ la_ lx_
    have n7_ : hvg2.heap.size ≤ w7_.heap.size := bb_.size
    have T7_ : Below w.heap.size w w7_ := kTrans T5_ bb_
    have ST_7_ := Lib.hid (ST_5_.out.below bb_)
    have S0_7_ := Lib.hid (S0_5_.out.below bb_)
    have A0_7_ := Lib.hid (blk_below A0_5_.out bb_)
    have E1_7_ := Lib.hid (blk_below E1_5_.out bb_)
    have V0_7_ := Lib.hid (V0_5_.out.below bb_)
    have X0_7_ := Lib.hid (blk_below X0_5_.out bb_)
    clear c0_0 c0_1 c0_2 c1_0 c1_1 c1_2 ST_5_ S0_5_ A0_5_ E1_5_ V0_5_ X0_5_ bb_ T5_
    go_wp2
    go_ret
    exact ⟨rfl, T7_⟩
end Go.Proofs.YtflkfkbdgekpkaaDoor.CarriesPush
