/- 'SortBoard' answers as its model at every argument. No conditions. -/
import Derived.Test.YtlmnoopoohdbkaaSoS
import Derived.Test.YtlmnoopoohdbkaaSoI
import Derived.Deep.RegionHeld3
import Derived.Deep.DeepCutAuto
namespace Go.Proofs.Ytlmnoopoohdbkaa.SortBoard
open Go.ChangeShapes Go.WideShapes Go.ChangeAt Go.RowKit
set_option linter.unusedVariables false

set_option maxRecDepth 100000 in
set_option maxHeartbeats 16000000 in
theorem walk {w : World} (wd0 hi0 : Int) (v0 : Value) (l0 : List Pc) (bw0 : i8 wd0) (bh0 : i8 hi0) (s0 : Sl w l0 v0) (a0 : All8 l0) (e0 : l0.length ≤ 9223372036854775807) :
    Calls Try.prog 5 #[.agg #[.int .i8 wd0, .int .i8 hi0, v0]] w fun e w' => e = .returned (.bool true) ∧ Below w.heap.size w w' := by
  have S0_ := Lib.hid (SlO.start s0)
  clear s0
  by_cases h0 : 1048576 - (l0.length : Int) < 0
  · skip
    have bE : Below w.heap.size w (w.alloc (.cells #[.int .i8 wd0, .int .i8 hi0, v0] 25)) := (kAlloc (Below.refl _ _) _)
    go_enter Try.func5, Try.ntmps5
    go_wp2_with fail
    refine (szBoard_any wd0 hi0 v0 l0 _ (S0_.out.below bE).sl (1048576) e0 (by omega) (by omega)).mono ?_
    rw [if_pos (by omega)]
    rintro e w1_ ⟨rfl, b1_⟩
    have B1_ : Below w.heap.size w w1_ := kTrans (kAlloc (Below.refl _ _) _) b1_
    have n1_ : w.heap.size + 1 ≤ w1_.heap.size := by have := b1_.size; simpa using this
    have T1_ : Below w.heap.size w w1_ := B1_
    have S0_1_ := Lib.hid (S0_.out.below B1_)
    have A0_1_ := Lib.hid (blk_below (heap_alloc_new w (.cells #[.int .i8 wd0, .int .i8 hi0, v0] 25)) b1_)
    clear bE S0_ b1_ B1_
    go_wp2
    go_ret
    exact ⟨rfl, T1_⟩
  · skip
    have h0' : ¬ 1048576 < (l0.length : Int) := by omega
    have m0 : l0.length ≤ 1048576 := by omega
    have q0 : (5 : Int) * l0.length ≤ 5242880 := by omega
    obtain ⟨Wr, Hr, lr, C, hQ⟩ : ∃ Wr Hr lr C, sortQ (boardOk wd0 hi0 l0) wd0 hi0 l0 = (Wr, Hr, lr, C) := ⟨_, _, _, _, rfl⟩
    obtain ⟨al0, hr0⟩ := sortQ_ok a0 rfl hQ
    have Hs := Lib.hid (fun b0 w2 hp0 hb0 => specSortBoard_any b0 _ wd0 hi0 l0 w2 rfl hp0 hb0 a0 bw0 bh0 m0 _ rfl Wr Hr lr C hQ)
    have Hi := Lib.hid (fun b0 w2 hp0 hb0 => implSortBoard_any b0 _ wd0 hi0 l0 w2 rfl hp0 hb0 a0 bw0 bh0 m0 _ rfl Wr Hr lr C hQ)
    clear hQ
    have qr0 : (5 : Int) * lr.length ≤ 5242880 := by omega
    have bE : Below w.heap.size w (w.alloc (.cells #[.int .i8 wd0, .int .i8 hi0, v0] 25)) := (kAlloc (Below.refl _ _) _)
    go_enter Try.func5, Try.ntmps5
    go_wp2_with fail
    refine (szBoard_any wd0 hi0 v0 l0 _ (S0_.out.below bE).sl (1048576) e0 (by omega) (by omega)).mono ?_
    rw [if_neg (by omega)]
    rintro e w1_ ⟨rfl, b1_⟩
    have B1_ : Below w.heap.size w w1_ := kTrans (kAlloc (Below.refl _ _) _) b1_
    have n1_ : w.heap.size + 1 ≤ w1_.heap.size := by have := b1_.size; simpa using this
    have T1_ : Below w.heap.size w w1_ := B1_
    have S0_1_ := Lib.hid (S0_.out.below B1_)
    have A0_1_ := Lib.hid (blk_below (heap_alloc_new w (.cells #[.int .i8 wd0, .int .i8 hi0, v0] 25)) b1_)
    clear bE S0_ b1_ B1_
    have c0_0 : w1_.cell? ⟨w.heap.size, 0, none⟩ = some (.int .i8 wd0) := cell_of_row _ _ 0 _ _ _ A0_1_.out
    have c0_1 : w1_.cell? ⟨w.heap.size, 1, none⟩ = some (.int .i8 hi0) := cell_of_row _ _ 1 _ _ _ A0_1_.out
    have c0_2 : w1_.cell? ⟨w.heap.size, 2, none⟩ = some (v0) := cell_of_row _ _ 2 _ _ _ A0_1_.out
    go_wp2_with fail
    refine (toBoard_any wd0 hi0 v0 l0 _ S0_1_.out.sl m0).mono ?_
    rintro e w2_ ⟨k2_, rfl, y2_, z2_, p2_, b2_⟩
    have n2_ : w1_.heap.size ≤ w2_.heap.size := b2_.size
    have T2_ : Below w.heap.size w w2_ := kTrans T1_ b2_
    have P0s_2_ := Lib.hid p2_
    clear p2_ y2_
    have S0_2_ := Lib.hid (S0_1_.out.below b2_)
    have A0_2_ := Lib.hid (blk_below A0_1_.out b2_)
    clear c0_0 c0_1 c0_2 S0_1_ A0_1_ b2_ T1_
    go_wp2_with fail
    refine (Hs.out k2_ _ P0s_2_.out (by omega)).mono ?_
    rintro e w3_ ⟨uw0_, rfl, yw0_, b3_⟩
    have n3_ : w2_.heap.size ≤ w3_.heap.size := b3_.size
    have T3_ : Below w.heap.size w w3_ := kTrans T2_ b3_
    obtain ⟨uaw0, ucw0, rfl⟩ := yw0_.form
    have Rw0_3_ := Lib.hid yw0_
    clear yw0_
    have S0_3_ := Lib.hid (S0_2_.out.below b3_)
    have A0_3_ := Lib.hid (blk_below A0_2_.out b3_)
    clear S0_2_ A0_2_ P0s_2_ b3_ T2_
    have bE : Below w3_.heap.size w3_ (w3_.alloc (.cells #[.int .i8 Wr, .int .i8 Hr, .slice uaw0 lr.length ucw0] 30)) := (kAlloc (Below.refl _ _) _)
    have c0_0 : (w3_.alloc (.cells #[.int .i8 Wr, .int .i8 Hr, .slice uaw0 lr.length ucw0] 30)).cell? ⟨w.heap.size, 0, none⟩ = some (.int .i8 wd0) := cell_of_row _ _ 0 _ _ _ (blk_below A0_3_.out bE)
    have c0_1 : (w3_.alloc (.cells #[.int .i8 Wr, .int .i8 Hr, .slice uaw0 lr.length ucw0] 30)).cell? ⟨w.heap.size, 1, none⟩ = some (.int .i8 hi0) := cell_of_row _ _ 1 _ _ _ (blk_below A0_3_.out bE)
    have c0_2 : (w3_.alloc (.cells #[.int .i8 Wr, .int .i8 Hr, .slice uaw0 lr.length ucw0] 30)).cell? ⟨w.heap.size, 2, none⟩ = some (v0) := cell_of_row _ _ 2 _ _ _ (blk_below A0_3_.out bE)
    go_wp2_with fail
    refine (toBoard_own wd0 hi0 v0 l0 _ (S0_3_.out.below bE).sl m0).mono ?_
    rintro e w4_ ⟨k4_, rfl, vx4_, z4_, p4_, y4_, b4_⟩
    have B4_ : Below w3_.heap.size w3_ w4_ := kTrans (kAlloc (Below.refl _ _) _) b4_
    have n4_ : w3_.heap.size + 1 ≤ w4_.heap.size := by have := b4_.size; simpa using this
    have T4_ : Below w.heap.size w w4_ := kTrans T3_ B4_
    simp only [World.size_alloc] at vx4_ y4_
    have P0i_4_ := Lib.hid p4_
    have V0_4_ := Lib.hid vx4_
    clear p4_ vx4_ y4_
    have S0_4_ := Lib.hid (S0_3_.out.below B4_)
    have A0_4_ := Lib.hid (blk_below A0_3_.out B4_)
    have Rw0_4_ := Lib.hid (Rw0_3_.out.below B4_)
    have Xw0_4_ := Lib.hid (blk_below (heap_alloc_new w3_ (.cells #[.int .i8 Wr, .int .i8 Hr, .slice uaw0 lr.length ucw0] 30)) b4_)
    clear bE c0_0 c0_1 c0_2 S0_3_ A0_3_ Rw0_3_ b4_ B4_ T3_
    have bE : Below w4_.heap.size w4_ (w4_.alloc (.cells #[.int .i8 wd0, .int .i8 hi0, .slice (some ⟨k4_, 0, none⟩) l0.length l0.length] 30)) := (kAlloc (Below.refl _ _) _)
    go_wp2_with fail
    refine (Hi.out k4_ _ (P0i_4_.out.below bE (by omega)) (by simp only [World.size_alloc]; omega)).mono ?_
    rintro e w5_ ⟨ug0_, rfl, yg0_, b5_⟩
    have B5_ : Below w4_.heap.size w4_ w5_ := kTrans (kAlloc (Below.refl _ _) _) b5_
    have n5_ : w4_.heap.size + 1 ≤ w5_.heap.size := by have := b5_.size; simpa using this
    have T5_ : Below w.heap.size w w5_ := kTrans T4_ B5_
    simp only [World.size_alloc] at yg0_
    obtain ⟨uag0, ucg0, rfl⟩ := yg0_.form
    have Rg0_5_ := Lib.hid yg0_
    clear yg0_
    have S0_5_ := Lib.hid (S0_4_.out.below B5_)
    have A0_5_ := Lib.hid (blk_below A0_4_.out B5_)
    have Rw0_5_ := Lib.hid (Rw0_4_.out.below B5_)
    have V0_5_ := Lib.hid (V0_4_.out.below B5_)
    have Xw0_5_ := Lib.hid (blk_below Xw0_4_.out B5_)
    have X0_5_ := Lib.hid (blk_below (heap_alloc_new w4_ (.cells #[.int .i8 wd0, .int .i8 hi0, .slice (some ⟨k4_, 0, none⟩) l0.length l0.length] 30)) b5_)
    clear bE S0_4_ A0_4_ Rw0_4_ P0i_4_ V0_4_ Xw0_4_ b5_ B5_ T4_
    have bE : Below w5_.heap.size w5_ (w5_.alloc (.cells #[.int .i8 Wr, .int .i8 Hr, .slice uag0 lr.length ucg0] 30)) := (kAlloc (Below.refl _ _) _)
    have c1_0 : (w5_.alloc (.cells #[.int .i8 Wr, .int .i8 Hr, .slice uag0 lr.length ucg0] 30)).cell? ⟨w3_.heap.size, 0, none⟩ = some (.int .i8 Wr) := cell_of_row _ _ 0 _ _ _ (blk_below Xw0_5_.out bE)
    have c1_1 : (w5_.alloc (.cells #[.int .i8 Wr, .int .i8 Hr, .slice uag0 lr.length ucg0] 30)).cell? ⟨w3_.heap.size, 1, none⟩ = some (.int .i8 Hr) := cell_of_row _ _ 1 _ _ _ (blk_below Xw0_5_.out bE)
    have c1_2 : (w5_.alloc (.cells #[.int .i8 Wr, .int .i8 Hr, .slice uag0 lr.length ucg0] 30)).cell? ⟨w3_.heap.size, 2, none⟩ = some (.slice uaw0 lr.length ucw0) := cell_of_row _ _ 2 _ _ _ (blk_below Xw0_5_.out bE)
    go_wp2_with fail
    refine (eqBoard_any Wr Hr _ _ lr _ (Rg0_5_.out.below bE).sl (Rw0_5_.out.below bE).sl al0 hr0).mono ?_
    rintro e w6_ ⟨rfl, b6_⟩
    have B6_ : Below w5_.heap.size w5_ w6_ := kTrans (kAlloc (Below.refl _ _) _) b6_
    have n6_ : w5_.heap.size + 1 ≤ w6_.heap.size := by have := b6_.size; simpa using this
    have T6_ : Below w.heap.size w w6_ := kTrans T5_ B6_
    have S0_6_ := Lib.hid (S0_5_.out.below B6_)
    have A0_6_ := Lib.hid (blk_below A0_5_.out B6_)
    have Rw0_6_ := Lib.hid (Rw0_5_.out.below B6_)
    have V0_6_ := Lib.hid (V0_5_.out.below B6_)
    have Xw0_6_ := Lib.hid (blk_below Xw0_5_.out B6_)
    have Rg0_6_ := Lib.hid (Rg0_5_.out.below B6_)
    have X0_6_ := Lib.hid (blk_below X0_5_.out B6_)
    have Xg0_6_ := Lib.hid (blk_below (heap_alloc_new w5_ (.cells #[.int .i8 Wr, .int .i8 Hr, .slice uag0 lr.length ucg0] 30)) b6_)
    clear bE c1_0 c1_1 c1_2 S0_5_ A0_5_ Rw0_5_ V0_5_ Xw0_5_ Rg0_5_ X0_5_ b6_ B6_ T5_
    have c0_0 : w6_.cell? ⟨w.heap.size, 0, none⟩ = some (.int .i8 wd0) := cell_of_row _ _ 0 _ _ _ A0_6_.out
    have c0_1 : w6_.cell? ⟨w.heap.size, 1, none⟩ = some (.int .i8 hi0) := cell_of_row _ _ 1 _ _ _ A0_6_.out
    have c0_2 : w6_.cell? ⟨w.heap.size, 2, none⟩ = some (v0) := cell_of_row _ _ 2 _ _ _ A0_6_.out
    have c1_0 : w6_.cell? ⟨w4_.heap.size, 0, none⟩ = some (.int .i8 wd0) := cell_of_row _ _ 0 _ _ _ X0_6_.out
    have c1_1 : w6_.cell? ⟨w4_.heap.size, 1, none⟩ = some (.int .i8 hi0) := cell_of_row _ _ 1 _ _ _ X0_6_.out
    have c1_2 : w6_.cell? ⟨w4_.heap.size, 2, none⟩ = some (.slice (some ⟨k4_, 0, none⟩) l0.length l0.length) := cell_of_row _ _ 2 _ _ _ X0_6_.out
    have la_ : w.heap.size < w6_.heap.size := blk_lt A0_6_.out
    have lx_ : w4_.heap.size < w6_.heap.size := blk_lt X0_6_.out
    go_wp2_with fail
    go_region_held3 (fun w' => w'.cell? ⟨w.heap.size, 0, none⟩ = some (.int .i8 wd0) ∧ w'.cell? ⟨w.heap.size, 1, none⟩ = some (.int .i8 hi0) ∧ w'.cell? ⟨w.heap.size, 2, none⟩ = some (v0) ∧ w'.cell? ⟨w4_.heap.size, 0, none⟩ = some (.int .i8 wd0) ∧ w'.cell? ⟨w4_.heap.size, 1, none⟩ = some (.int .i8 hi0) ∧ w'.cell? ⟨w4_.heap.size, 2, none⟩ = some (.slice (some ⟨k4_, 0, none⟩) l0.length l0.length)) (go_keep)
      (first
      | (go_at_call 14
         refine (eqBoard_any wd0 hi0 _ _ l0 _ (V0_6_.out.below (kTrans (Below.drew (Below.refl _ _)) b7_)).sl (Sl.mk k7_ 0 _ p7_ z7_ (Nat.le_refl _)) a0 m0).mono ?_
         rintro e w8_ ⟨rfl, b8_⟩
         have c0_0 := (b8_.cell (p := ⟨w.heap.size, 0, none⟩) (Nat.lt_of_lt_of_le la_ b7_.size)).trans c0_0
         have c0_1 := (b8_.cell (p := ⟨w.heap.size, 1, none⟩) (Nat.lt_of_lt_of_le la_ b7_.size)).trans c0_1
         have c0_2 := (b8_.cell (p := ⟨w.heap.size, 2, none⟩) (Nat.lt_of_lt_of_le la_ b7_.size)).trans c0_2
         have c1_0 := (b8_.cell (p := ⟨w4_.heap.size, 0, none⟩) (Nat.lt_of_lt_of_le lx_ b7_.size)).trans c1_0
         have c1_1 := (b8_.cell (p := ⟨w4_.heap.size, 1, none⟩) (Nat.lt_of_lt_of_le lx_ b7_.size)).trans c1_1
         have c1_2 := (b8_.cell (p := ⟨w4_.heap.size, 2, none⟩) (Nat.lt_of_lt_of_le lx_ b7_.size)).trans c1_2)
      | (go_at_call 11
         refine (toBoard_any wd0 hi0 v0 l0 _ (S0_6_.out.below (Below.drew (Below.refl _ _))).sl m0).mono ?_
         rintro e w7_ ⟨k7_, rfl, y7_, z7_, p7_, b7_⟩
         have c0_0 := (b7_.cell (p := ⟨w.heap.size, 0, none⟩) la_).trans c0_0
         have c0_1 := (b7_.cell (p := ⟨w.heap.size, 1, none⟩) la_).trans c0_1
         have c0_2 := (b7_.cell (p := ⟨w.heap.size, 2, none⟩) la_).trans c0_2
         have c1_0 := (b7_.cell (p := ⟨w4_.heap.size, 0, none⟩) lx_).trans c1_0
         have c1_1 := (b7_.cell (p := ⟨w4_.heap.size, 1, none⟩) lx_).trans c1_1
         have c1_2 := (b7_.cell (p := ⟨w4_.heap.size, 2, none⟩) lx_).trans c1_2))
    have bb_ : Below w6_.heap.size w6_ w8_ := kTrans (kTrans (Below.drew (Below.refl _ _)) b7_) b8_
    clear b7_ b8_ y7_ z7_ p7_ la_ lx_
    have n8_ : w6_.heap.size ≤ w8_.heap.size := bb_.size
    have T8_ : Below w.heap.size w w8_ := kTrans T6_ bb_
    have S0_8_ := Lib.hid (S0_6_.out.below bb_)
    have A0_8_ := Lib.hid (blk_below A0_6_.out bb_)
    have Rw0_8_ := Lib.hid (Rw0_6_.out.below bb_)
    have V0_8_ := Lib.hid (V0_6_.out.below bb_)
    have Xw0_8_ := Lib.hid (blk_below Xw0_6_.out bb_)
    have Rg0_8_ := Lib.hid (Rg0_6_.out.below bb_)
    have X0_8_ := Lib.hid (blk_below X0_6_.out bb_)
    have Xg0_8_ := Lib.hid (blk_below Xg0_6_.out bb_)
    clear c0_0 c0_1 c0_2 c1_0 c1_1 c1_2 S0_6_ A0_6_ Rw0_6_ V0_6_ Xw0_6_ Rg0_6_ X0_6_ Xg0_6_ bb_ T6_
    have c0_0 : w8_.cell? ⟨w4_.heap.size, 0, none⟩ = some (.int .i8 wd0) := cell_of_row _ _ 0 _ _ _ X0_8_.out
    have c0_1 : w8_.cell? ⟨w4_.heap.size, 1, none⟩ = some (.int .i8 hi0) := cell_of_row _ _ 1 _ _ _ X0_8_.out
    have c0_2 : w8_.cell? ⟨w4_.heap.size, 2, none⟩ = some (.slice (some ⟨k4_, 0, none⟩) l0.length l0.length) := cell_of_row _ _ 2 _ _ _ X0_8_.out
    go_wp2_with fail
    refine (markBoard_any _ _ wd0 hi0 _ l0 (1) _ V0_8_.out (by omega) (by omega) (by omega) m0).mono ?_
    rintro e w9_ ⟨rfl, _, b9_⟩
    have n9_ : w8_.heap.size ≤ w9_.heap.size := b9_.size
    have T9_ := kOut T8_ b9_ (by omega)
    have S0_9_ := Lib.hid (S0_8_.out.out b9_ (by omega))
    have A0_9_ := Lib.hid (blk_out A0_8_.out b9_ (by omega))
    have Rw0_9_ := Lib.hid (Rw0_8_.out.out b9_ (by omega))
    have Xw0_9_ := Lib.hid (blk_out Xw0_8_.out b9_ (by omega))
    have Rg0_9_ := Lib.hid (Rg0_8_.out.out b9_ (by omega))
    have Xg0_9_ := Lib.hid (blk_out Xg0_8_.out b9_ (by omega))
    clear c0_0 c0_1 c0_2 S0_8_ A0_8_ Rw0_8_ V0_8_ Xw0_8_ Rg0_8_ X0_8_ Xg0_8_ b9_ T8_
    have c0_0 : w9_.cell? ⟨w5_.heap.size, 0, none⟩ = some (.int .i8 Wr) := cell_of_row _ _ 0 _ _ _ Xg0_9_.out
    have c0_1 : w9_.cell? ⟨w5_.heap.size, 1, none⟩ = some (.int .i8 Hr) := cell_of_row _ _ 1 _ _ _ Xg0_9_.out
    have c0_2 : w9_.cell? ⟨w5_.heap.size, 2, none⟩ = some (.slice uag0 lr.length ucg0) := cell_of_row _ _ 2 _ _ _ Xg0_9_.out
    have c1_0 : w9_.cell? ⟨w3_.heap.size, 0, none⟩ = some (.int .i8 Wr) := cell_of_row _ _ 0 _ _ _ Xw0_9_.out
    have c1_1 : w9_.cell? ⟨w3_.heap.size, 1, none⟩ = some (.int .i8 Hr) := cell_of_row _ _ 1 _ _ _ Xw0_9_.out
    have c1_2 : w9_.cell? ⟨w3_.heap.size, 2, none⟩ = some (.slice uaw0 lr.length ucw0) := cell_of_row _ _ 2 _ _ _ Xw0_9_.out
    go_wp2_with fail
    refine (eqBoard_any Wr Hr _ _ lr _ Rg0_9_.out.sl Rw0_9_.out.sl al0 hr0).mono ?_
    rintro e w10_ ⟨rfl, b10_⟩
    have n10_ : w9_.heap.size ≤ w10_.heap.size := b10_.size
    have T10_ : Below w.heap.size w w10_ := kTrans T9_ b10_
    have S0_10_ := Lib.hid (S0_9_.out.below b10_)
    have A0_10_ := Lib.hid (blk_below A0_9_.out b10_)
    have Rw0_10_ := Lib.hid (Rw0_9_.out.below b10_)
    have Xw0_10_ := Lib.hid (blk_below Xw0_9_.out b10_)
    have Rg0_10_ := Lib.hid (Rg0_9_.out.below b10_)
    have Xg0_10_ := Lib.hid (blk_below Xg0_9_.out b10_)
    clear c0_0 c0_1 c0_2 c1_0 c1_1 c1_2 S0_9_ A0_9_ Rw0_9_ Xw0_9_ Rg0_9_ Xg0_9_ b10_ T9_
    have c0_0 : w10_.cell? ⟨w5_.heap.size, 0, none⟩ = some (.int .i8 Wr) := cell_of_row _ _ 0 _ _ _ Xg0_10_.out
    have c0_1 : w10_.cell? ⟨w5_.heap.size, 1, none⟩ = some (.int .i8 Hr) := cell_of_row _ _ 1 _ _ _ Xg0_10_.out
    have c0_2 : w10_.cell? ⟨w5_.heap.size, 2, none⟩ = some (.slice uag0 lr.length ucg0) := cell_of_row _ _ 2 _ _ _ Xg0_10_.out
    go_wp2_with fail
    refine (markBoard_any _ _ Wr Hr _ lr (1) _ Rg0_10_.out (by omega) (by omega) (by omega) hr0).mono ?_
    rintro e w11_ ⟨rfl, vm_, b11_⟩
    have n11_ : w10_.heap.size ≤ w11_.heap.size := b11_.size
    have T11_ := kOut T10_ b11_ (by omega)
    have Rg0_11_ := Lib.hid vm_
    clear vm_
    have S0_11_ := Lib.hid (S0_10_.out.out b11_ (by omega))
    have A0_11_ := Lib.hid (blk_out A0_10_.out b11_ (by omega))
    have Rw0_11_ := Lib.hid (Rw0_10_.out.out b11_ (by omega))
    have Xw0_11_ := Lib.hid (blk_out Xw0_10_.out b11_ (by omega))
    have Xg0_11_ := Lib.hid (blk_out Xg0_10_.out b11_ (by omega))
    clear c0_0 c0_1 c0_2 S0_10_ A0_10_ Rw0_10_ Xw0_10_ Rg0_10_ Xg0_10_ b11_ T10_
    have c0_0 : w11_.cell? ⟨w5_.heap.size, 0, none⟩ = some (.int .i8 Wr) := cell_of_row _ _ 0 _ _ _ Xg0_11_.out
    have c0_1 : w11_.cell? ⟨w5_.heap.size, 1, none⟩ = some (.int .i8 Hr) := cell_of_row _ _ 1 _ _ _ Xg0_11_.out
    have c0_2 : w11_.cell? ⟨w5_.heap.size, 2, none⟩ = some (.slice uag0 lr.length ucg0) := cell_of_row _ _ 2 _ _ _ Xg0_11_.out
    go_wp2_with fail
    refine (heldBoard_any _ _ lr.length Wr Hr _ (1) _ Rg0_11_.out (by omega) (by omega) hr0).mono ?_
    rintro e w12_ ⟨rfl, b12_⟩
    have n12_ : w11_.heap.size ≤ w12_.heap.size := b12_.size
    have T12_ : Below w.heap.size w w12_ := kTrans T11_ b12_
    have S0_12_ := Lib.hid (S0_11_.out.below b12_)
    have A0_12_ := Lib.hid (blk_below A0_11_.out b12_)
    have Rw0_12_ := Lib.hid (Rw0_11_.out.below b12_)
    have Xw0_12_ := Lib.hid (blk_below Xw0_11_.out b12_)
    have Rg0_12_ := Lib.hid (Rg0_11_.out.below b12_)
    have Xg0_12_ := Lib.hid (blk_below Xg0_11_.out b12_)
    clear c0_0 c0_1 c0_2 S0_11_ A0_11_ Rw0_11_ Xw0_11_ Rg0_11_ Xg0_11_ b12_ T11_
    have c0_0 : w12_.cell? ⟨w.heap.size, 0, none⟩ = some (.int .i8 wd0) := cell_of_row _ _ 0 _ _ _ A0_12_.out
    have c0_1 : w12_.cell? ⟨w.heap.size, 1, none⟩ = some (.int .i8 hi0) := cell_of_row _ _ 1 _ _ _ A0_12_.out
    have c0_2 : w12_.cell? ⟨w.heap.size, 2, none⟩ = some (v0) := cell_of_row _ _ 2 _ _ _ A0_12_.out
    go_wp2_with fail
    refine (toBoard_any wd0 hi0 v0 l0 _ S0_12_.out.sl m0).mono ?_
    rintro e w13_ ⟨k13_, rfl, y13_, z13_, p13_, b13_⟩
    have n13_ : w12_.heap.size ≤ w13_.heap.size := b13_.size
    have T13_ : Below w.heap.size w w13_ := kTrans T12_ b13_
    have P0h_13_ := Lib.hid p13_
    clear p13_ y13_
    have S0_13_ := Lib.hid (S0_12_.out.below b13_)
    have A0_13_ := Lib.hid (blk_below A0_12_.out b13_)
    have Rw0_13_ := Lib.hid (Rw0_12_.out.below b13_)
    have Xw0_13_ := Lib.hid (blk_below Xw0_12_.out b13_)
    have Rg0_13_ := Lib.hid (Rg0_12_.out.below b13_)
    have Xg0_13_ := Lib.hid (blk_below Xg0_12_.out b13_)
    clear c0_0 c0_1 c0_2 S0_12_ A0_12_ Rw0_12_ Xw0_12_ Rg0_12_ Xg0_12_ b13_ T12_
    go_wp2_with fail
    refine (Hi.out k13_ _ P0h_13_.out (by omega)).mono ?_
    rintro e w14_ ⟨uh0_, rfl, yh0_, b14_⟩
    have n14_ : w13_.heap.size ≤ w14_.heap.size := b14_.size
    have T14_ : Below w.heap.size w w14_ := kTrans T13_ b14_
    obtain ⟨uah0, uch0, rfl⟩ := yh0_.form
    have Rh0_14_ := Lib.hid yh0_
    clear yh0_
    have Rw0_14_ := Lib.hid (Rw0_13_.out.below b14_)
    have Xw0_14_ := Lib.hid (blk_below Xw0_13_.out b14_)
    have Rg0_14_ := Lib.hid (Rg0_13_.out.below b14_)
    have Xg0_14_ := Lib.hid (blk_below Xg0_13_.out b14_)
    clear S0_13_ A0_13_ Rw0_13_ Xw0_13_ Rg0_13_ Xg0_13_ P0h_13_ b14_ T13_
    have bE : Below w14_.heap.size w14_ (w14_.alloc (.cells #[.int .i8 Wr, .int .i8 Hr, .slice uah0 lr.length uch0] 30)) := (kAlloc (Below.refl _ _) _)
    have c1_0 : (w14_.alloc (.cells #[.int .i8 Wr, .int .i8 Hr, .slice uah0 lr.length uch0] 30)).cell? ⟨w3_.heap.size, 0, none⟩ = some (.int .i8 Wr) := cell_of_row _ _ 0 _ _ _ (blk_below Xw0_14_.out bE)
    have c1_1 : (w14_.alloc (.cells #[.int .i8 Wr, .int .i8 Hr, .slice uah0 lr.length uch0] 30)).cell? ⟨w3_.heap.size, 1, none⟩ = some (.int .i8 Hr) := cell_of_row _ _ 1 _ _ _ (blk_below Xw0_14_.out bE)
    have c1_2 : (w14_.alloc (.cells #[.int .i8 Wr, .int .i8 Hr, .slice uah0 lr.length uch0] 30)).cell? ⟨w3_.heap.size, 2, none⟩ = some (.slice uaw0 lr.length ucw0) := cell_of_row _ _ 2 _ _ _ (blk_below Xw0_14_.out bE)
    go_wp2_with fail
    refine (eqBoard_any Wr Hr _ _ lr _ (Rh0_14_.out.below bE).sl (Rw0_14_.out.below bE).sl al0 hr0).mono ?_
    rintro e w15_ ⟨rfl, b15_⟩
    have B15_ : Below w14_.heap.size w14_ w15_ := kTrans (kAlloc (Below.refl _ _) _) b15_
    have n15_ : w14_.heap.size + 1 ≤ w15_.heap.size := by have := b15_.size; simpa using this
    have T15_ : Below w.heap.size w w15_ := kTrans T14_ B15_
    have Rw0_15_ := Lib.hid (Rw0_14_.out.below B15_)
    have Xw0_15_ := Lib.hid (blk_below Xw0_14_.out B15_)
    have Rg0_15_ := Lib.hid (Rg0_14_.out.below B15_)
    have Xg0_15_ := Lib.hid (blk_below Xg0_14_.out B15_)
    have Rh0_15_ := Lib.hid (Rh0_14_.out.below B15_)
    have Xh0_15_ := Lib.hid (blk_below (heap_alloc_new w14_ (.cells #[.int .i8 Wr, .int .i8 Hr, .slice uah0 lr.length uch0] 30)) b15_)
    clear bE c1_0 c1_1 c1_2 Rw0_14_ Xw0_14_ Rg0_14_ Xg0_14_ Rh0_14_ b15_ B15_ T14_
    have c0_0 : w15_.cell? ⟨w5_.heap.size, 0, none⟩ = some (.int .i8 Wr) := cell_of_row _ _ 0 _ _ _ Xg0_15_.out
    have c0_1 : w15_.cell? ⟨w5_.heap.size, 1, none⟩ = some (.int .i8 Hr) := cell_of_row _ _ 1 _ _ _ Xg0_15_.out
    have c0_2 : w15_.cell? ⟨w5_.heap.size, 2, none⟩ = some (.slice uag0 lr.length ucg0) := cell_of_row _ _ 2 _ _ _ Xg0_15_.out
    go_wp2_with fail
    refine (heldBoard_any _ _ lr.length Wr Hr _ (1) _ Rg0_15_.out (by omega) (by omega) hr0).mono ?_
    rintro e w16_ ⟨rfl, b16_⟩
    have n16_ : w15_.heap.size ≤ w16_.heap.size := b16_.size
    have T16_ : Below w.heap.size w w16_ := kTrans T15_ b16_
    have Rw0_16_ := Lib.hid (Rw0_15_.out.below b16_)
    have Xw0_16_ := Lib.hid (blk_below Xw0_15_.out b16_)
    have Rg0_16_ := Lib.hid (Rg0_15_.out.below b16_)
    have Xg0_16_ := Lib.hid (blk_below Xg0_15_.out b16_)
    have Rh0_16_ := Lib.hid (Rh0_15_.out.below b16_)
    have Xh0_16_ := Lib.hid (blk_below Xh0_15_.out b16_)
    clear c0_0 c0_1 c0_2 Rw0_15_ Xw0_15_ Rg0_15_ Xg0_15_ Rh0_15_ Xh0_15_ b16_ T15_
    go_wp2
    go_ret
    exact ⟨rfl, T16_⟩

set_option maxRecDepth 100000 in
theorem lifted (os : Os) (started : os.Started) (H : Type) (enc : TypeId × Value → H) :
    ReturnsInHanded {} Try.checked os 5 .any (Rows.fnExactSortBoardSpec.pre6 enc Try.prog Try.f5 Rows.fnExactSortBoardRow.domain false) (Rows.fnExactSortBoardSpec.post enc Try.prog Try.f5 false true false false) := by
  refine returnsInHanded_of_change (C := Try.checked) own started (by kernel_rfl) Try.func5
    (ChangeSpec.witness6 (enc := enc) (C := Try.checked) false ⟨#[], #[.agg #[.int .i8 0, .int .i8 0, .slice none 0 0]], []⟩ 8 (by kernel_rfl) (by kernel_rfl) (by kernel_rfl) (by kernel_rfl)) ?_
  intro W base args ds gs before hval0 hW hcnd _
  have hval : ∀ (j : Nat) t v, Try.f5.params[j]? = some t → args[j]? = some v → Value.okWide Try.prog W .any base t v := hval0
  have hW' := hW
  obtain ⟨p, q, hA0, hV, rfl, hfz, hnd⟩ := hW
  have hA : DataW.TrodAll enc Try.prog W 0 (fun _ => true) true Try.f5.params.toList args.toList ds p := hA0
  rw [Try.params5] at hA hval
  have r_ := hA
  obtain ⟨v0, vs0, d0, ds0, pp0, qq0, hargs0, hds0, _, h0, r_⟩ := trodAll_cons r_
  obtain ⟨hv_, hd_, _⟩ := trodAll_nil r_
  subst hv_ hd_
  obtain rfl : args = #[v0] := by cases args; simp_all
  subst hds0
  obtain ⟨f0_, f1_, f2_, e1_, e2_, e3_, e4_, e5_⟩ := board_struct
  obtain ⟨wd0, hi0, s0, l0, rfl, bw0, bh0, sl0, al0, le0⟩ := open_board e1_ e2_ board_cells e3_ e4_ e5_ piece_cells piece_flat (hval 0 25 v0 rfl rfl) h0
  refine (walk (w := W) wd0 hi0 s0 l0 bw0 bh0 sl0 al0 le0).mono fun e W' ⟨he, hg⟩ => ?_
  subst he
  exact ⟨_, rfl, law_post kids full Try.underlying4 (by decide) rfl rfl rfl hW' hg⟩

theorem over : Rows.fnExactSortBoardRow.holds Try.pinned (OpenSpec.ofChange Rows.fnExactSortBoardSpec) :=
  OpenClaim.holds_of_wide 5 Try.f5 rfl rfl rfl rfl rfl rfl rfl ⟨rfl, rfl, rfl, rfl, rfl⟩ rfl rfl rfl rfl rfl (by kernel_rfl) Try.func5 (by kernel_rfl)
    (of_decide_eq_true (by kernel_rfl)) (by unfold Func.isWrapper; first | (rw [if_pos (by decide +kernel)]; kernel_rfl) | (rw [if_neg (by decide +kernel)]; exact ⟨rfl, rfl⟩))
    (fun os started H enc _ => lifted os started H enc)

/-- The statement. -/
theorem proved : Rows.FnExactSortBoardSaid :=
  over
#print axioms proved
end Go.Proofs.Ytlmnoopoohdbkaa.SortBoard
