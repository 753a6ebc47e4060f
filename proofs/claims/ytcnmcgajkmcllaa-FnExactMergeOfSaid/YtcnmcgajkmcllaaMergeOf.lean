/- 'MergeOf' answers as its model at every argument. No conditions. -/
import Derived.Test.YtcnmcgajkmcllaaMgo
import Derived.Deep.RegionHeld3
import Derived.Deep.DeepCutAuto
namespace Go.Proofs.Ytcnmcgajkmcllaa.MergeOf
open Go.ChangeShapes Go.WideShapes Go.ChangeAt Go.RowKit
set_option linter.unusedVariables false

set_option maxRecDepth 100000 in
set_option maxHeartbeats 16000000 in
theorem walk {w : World} (wd0 : Int) (v0 t0 : Value) (l0 : List Nd) (lo0 : List Int) (bw0 : i8 wd0) (s0 : SlNd w l0 v0) (a0 : NdsWf l0) (e0 : l0.length ≤ maxLen) (so0 : SlSh w lo0 t0) (ao0 : ShsWf lo0) (eo0 : lo0.length ≤ maxLen) :
    Calls Try.prog 6 #[.agg #[.int .i8 wd0, v0, t0]] w fun e w' => e = .returned (.bool true) ∧ Below w.heap.size w w' := by
  unfold maxLen at e0 eo0
  have S0_ := Lib.hid (NSO.start s0 so0)
  clear so0
  clear s0
  by_cases h0 : 1048576 - (l0.length : Int) - (lo0.length : Int) < 0
  · skip
    have bE : Below w.heap.size w (w.alloc (.cells #[.int .i8 wd0, v0, t0] 26)) := (kAlloc (Below.refl _ _) _)
    go_enter Try.func6, Try.ntmps6
    go_wp2_with fail
    refine (szN wd0 v0 t0 l0 lo0 _ (S0_.out.below bE) (1048576) e0 eo0 (by omega) (by omega)).mono ?_
    rw [if_pos (by omega)]
    rintro e w1_ ⟨rfl, b1_⟩
    have B1_ : Below w.heap.size w w1_ := kTrans (kAlloc (Below.refl _ _) _) b1_
    have n1_ : w.heap.size + 1 ≤ w1_.heap.size := by have := b1_.size; simpa using this
    have T1_ : Below w.heap.size w w1_ := B1_
    have S0_1_ := Lib.hid (S0_.out.below B1_)
    have A0_1_ := Lib.hid (blk_below (heap_alloc_new w (.cells #[.int .i8 wd0, v0, t0] 26)) b1_)
    clear bE S0_ b1_ B1_
    go_wp2
    go_ret
    exact ⟨rfl, T1_⟩
  · skip
    have h0' : ¬ 1048576 - (l0.length : Int) < (lo0.length : Int) := by omega
    have m0 : l0.length ≤ 1048576 := by omega
    have q0 : (3 : Int) * l0.length ≤ 3145728 := by omega
    have mo0 : lo0.length ≤ 1048576 := by omega
    have qo0 : (1 : Int) * lo0.length ≤ 1048576 := by omega
    obtain ⟨R, hR⟩ : ∃ R, R = netOk wd0 l0 lo0 := ⟨_, rfl⟩
    obtain ⟨Nr, lr, pr, ir, C, hQ⟩ : ∃ Nr lr pr ir C, mgQ R wd0.toNat l0 lo0 = (Nr, lr, pr, ir, C) := ⟨_, _, _, _, _, rfl⟩
    obtain ⟨al0, alp0, hr0, hrp0, al1, hr1⟩ := mgQ_fine (fun e => (show netOk wd0 l0 lo0 = true by rw [← hR]; exact e)) hQ
    have Hs := Lib.hid (fun b0 k0 w2 (hp0 : NK w2 b0 k0 l0 lo0) => specMergeOf_any b0 k0 wd0 l0 lo0 w2 hp0 a0 ao0 bw0 m0 mo0 R hR Nr lr pr ir C hQ)
    have Hi := Lib.hid (fun b0 k0 w2 (hp0 : NK w2 b0 k0 l0 lo0) => implMergeOf_any b0 k0 wd0 l0 lo0 w2 hp0 a0 ao0 bw0 m0 mo0 R hR Nr lr pr ir C hQ)
    clear hR hQ
    have qr0 : (3 : Int) * lr.length ≤ 3145728 := by omega
    have qr1 : (1 : Int) * ir.length ≤ 1048576 := by omega
    have qrp0 : (1 : Int) * pr.length ≤ 1048576 := by omega
    have bE : Below w.heap.size w (w.alloc (.cells #[.int .i8 wd0, v0, t0] 26)) := (kAlloc (Below.refl _ _) _)
    go_enter Try.func6, Try.ntmps6
    go_wp2_with fail
    refine (szN wd0 v0 t0 l0 lo0 _ (S0_.out.below bE) (1048576) e0 eo0 (by omega) (by omega)).mono ?_
    rw [if_neg (by omega)]
    rintro e w1_ ⟨rfl, b1_⟩
    have B1_ : Below w.heap.size w w1_ := kTrans (kAlloc (Below.refl _ _) _) b1_
    have n1_ : w.heap.size + 1 ≤ w1_.heap.size := by have := b1_.size; simpa using this
    have T1_ : Below w.heap.size w w1_ := B1_
    have S0_1_ := Lib.hid (S0_.out.below B1_)
    have A0_1_ := Lib.hid (blk_below (heap_alloc_new w (.cells #[.int .i8 wd0, v0, t0] 26)) b1_)
    clear bE S0_ b1_ B1_
    have c0_0 : w1_.cell? ⟨w.heap.size, 0, none⟩ = some (.int .i8 wd0) := cell_of_row _ _ 0 _ _ _ A0_1_.out
    have c0_1 : w1_.cell? ⟨w.heap.size, 1, none⟩ = some (v0) := cell_of_row _ _ 1 _ _ _ A0_1_.out
    have c0_2 : w1_.cell? ⟨w.heap.size, 2, none⟩ = some (t0) := cell_of_row _ _ 2 _ _ _ A0_1_.out
    go_wp2_with fail
    refine (toN_own wd0 v0 t0 l0 lo0 _ S0_1_.out m0 mo0).mono ?_
    rintro e w2_ ⟨kb2_, kk2_, rfl, p2_, b2_⟩
    have n2_ : w1_.heap.size ≤ w2_.heap.size := b2_.size
    have T2_ : Below w.heap.size w w2_ := kTrans T1_ b2_
    have P0s_2_ := Lib.hid p2_.pk
    clear p2_
    have S0_2_ := Lib.hid (S0_1_.out.below b2_)
    have A0_2_ := Lib.hid (blk_below A0_1_.out b2_)
    clear c0_0 c0_1 c0_2 S0_1_ A0_1_ b2_ T1_
    go_wp2_with fail
    refine (Hs.out kb2_ kk2_ _ P0s_2_.out).mono ?_
    rintro e w3_ ⟨uw0_, tw0_, uw1_, rfl, yw0_, yw1_, b3_⟩
    have n3_ : w2_.heap.size ≤ w3_.heap.size := b3_.size
    have T3_ : Below w.heap.size w w3_ := kTrans T2_ b3_
    obtain ⟨uaw0, ucw0, taw0, tcw0, rfl, rfl⟩ := yw0_.form
    have Rw0_3_ := Lib.hid yw0_
    clear yw0_
    obtain ⟨uaw1, ucw1, rfl⟩ := yw1_.form
    have Rw1_3_ := Lib.hid yw1_
    clear yw1_
    have S0_3_ := Lib.hid (S0_2_.out.below b3_)
    have A0_3_ := Lib.hid (blk_below A0_2_.out b3_)
    clear S0_2_ A0_2_ P0s_2_ b3_ T2_
    have bE : Below w3_.heap.size w3_ (w3_.alloc (.cells #[.int .i8 Nr, .slice uaw0 lr.length ucw0, .slice taw0 pr.length tcw0] 30)) := (kAlloc (Below.refl _ _) _)
    have c0_0 : (w3_.alloc (.cells #[.int .i8 Nr, .slice uaw0 lr.length ucw0, .slice taw0 pr.length tcw0] 30)).cell? ⟨w.heap.size, 0, none⟩ = some (.int .i8 wd0) := cell_of_row _ _ 0 _ _ _ (blk_below A0_3_.out bE)
    have c0_1 : (w3_.alloc (.cells #[.int .i8 Nr, .slice uaw0 lr.length ucw0, .slice taw0 pr.length tcw0] 30)).cell? ⟨w.heap.size, 1, none⟩ = some (v0) := cell_of_row _ _ 1 _ _ _ (blk_below A0_3_.out bE)
    have c0_2 : (w3_.alloc (.cells #[.int .i8 Nr, .slice uaw0 lr.length ucw0, .slice taw0 pr.length tcw0] 30)).cell? ⟨w.heap.size, 2, none⟩ = some (t0) := cell_of_row _ _ 2 _ _ _ (blk_below A0_3_.out bE)
    go_wp2_with fail
    refine (toN_own wd0 v0 t0 l0 lo0 _ (S0_3_.out.below bE) m0 mo0).mono ?_
    rintro e w4_ ⟨kb4_, kk4_, rfl, p4_, b4_⟩
    have B4_ : Below w3_.heap.size w3_ w4_ := kTrans (kAlloc (Below.refl _ _) _) b4_
    have n4_ : w3_.heap.size + 1 ≤ w4_.heap.size := by have := b4_.size; simpa using this
    have T4_ : Below w.heap.size w w4_ := kTrans T3_ B4_
    simp only [World.size_alloc] at p4_
    have P0i_4_ := Lib.hid p4_.pk
    have V0_4_ := Lib.hid p4_
    clear p4_
    have S0_4_ := Lib.hid (S0_3_.out.below B4_)
    have A0_4_ := Lib.hid (blk_below A0_3_.out B4_)
    have Rw0_4_ := Lib.hid (Rw0_3_.out.below B4_)
    have Rw1_4_ := Lib.hid (Rw1_3_.out.below B4_)
    have Xw0_4_ := Lib.hid (blk_below (heap_alloc_new w3_ (.cells #[.int .i8 Nr, .slice uaw0 lr.length ucw0, .slice taw0 pr.length tcw0] 30)) b4_)
    clear bE c0_0 c0_1 c0_2 S0_3_ A0_3_ Rw0_3_ Rw1_3_ b4_ B4_ T3_
    have bE : Below w4_.heap.size w4_ (w4_.alloc (.cells #[.int .i8 wd0, .slice (some ⟨kb4_, 0, none⟩) l0.length l0.length, .slice (some ⟨kk4_, 0, none⟩) lo0.length lo0.length] 30)) := (kAlloc (Below.refl _ _) _)
    go_wp2_with fail
    refine (Hi.out kb4_ kk4_ _ (P0i_4_.out.below bE)).mono ?_
    rintro e w5_ ⟨ug0_, tg0_, ug1_, mdg_, rfl, yg0_, yg1_, mlog_, mhig_, b5_⟩
    have B5_ : Below w4_.heap.size w4_ w5_ := kTrans (kAlloc (Below.refl _ _) _) b5_
    have n5_ : w4_.heap.size + 1 ≤ w5_.heap.size := by have := b5_.size; simpa using this
    have T5_ : Below w.heap.size w w5_ := kTrans T4_ B5_
    simp only [World.size_alloc] at mlog_
    simp only [World.size_alloc] at yg0_
    obtain ⟨uag0, ucg0, tag0, tcg0, rfl, rfl⟩ := yg0_.form
    have Rg0_5_ := Lib.hid yg0_
    clear yg0_
    skip
    obtain ⟨uag1, ucg1, rfl⟩ := yg1_.form
    have Rg1_5_ := Lib.hid yg1_
    clear yg1_
    have S0_5_ := Lib.hid (S0_4_.out.below B5_)
    have A0_5_ := Lib.hid (blk_below A0_4_.out B5_)
    have Rw0_5_ := Lib.hid (Rw0_4_.out.below B5_)
    have Rw1_5_ := Lib.hid (Rw1_4_.out.below B5_)
    have V0_5_ := Lib.hid (V0_4_.out.below B5_)
    have Xw0_5_ := Lib.hid (blk_below Xw0_4_.out B5_)
    have X0_5_ := Lib.hid (blk_below (heap_alloc_new w4_ (.cells #[.int .i8 wd0, .slice (some ⟨kb4_, 0, none⟩) l0.length l0.length, .slice (some ⟨kk4_, 0, none⟩) lo0.length lo0.length] 30)) b5_)
    clear bE S0_4_ A0_4_ Rw0_4_ Rw1_4_ P0i_4_ V0_4_ Xw0_4_ b5_ B5_ T4_
    have bE : Below w5_.heap.size w5_ (w5_.alloc (.cells #[.int .i8 Nr, .slice uag0 lr.length ucg0, .slice tag0 pr.length tcg0] 30)) := (kAlloc (Below.refl _ _) _)
    have c1_0 : (w5_.alloc (.cells #[.int .i8 Nr, .slice uag0 lr.length ucg0, .slice tag0 pr.length tcg0] 30)).cell? ⟨w3_.heap.size, 0, none⟩ = some (.int .i8 Nr) := cell_of_row _ _ 0 _ _ _ (blk_below Xw0_5_.out bE)
    have c1_1 : (w5_.alloc (.cells #[.int .i8 Nr, .slice uag0 lr.length ucg0, .slice tag0 pr.length tcg0] 30)).cell? ⟨w3_.heap.size, 1, none⟩ = some (.slice uaw0 lr.length ucw0) := cell_of_row _ _ 1 _ _ _ (blk_below Xw0_5_.out bE)
    have c1_2 : (w5_.alloc (.cells #[.int .i8 Nr, .slice uag0 lr.length ucg0, .slice tag0 pr.length tcg0] 30)).cell? ⟨w3_.heap.size, 2, none⟩ = some (.slice taw0 pr.length tcw0) := cell_of_row _ _ 2 _ _ _ (blk_below Xw0_5_.out bE)
    go_wp2_with fail
    refine (eqNetwork_any Nr _ _ _ _ lr pr _ (Rg0_5_.out.below bE).s1 (Rg0_5_.out.below bE).s2 (Rw0_5_.out.below bE).s1 (Rw0_5_.out.below bE).s2 al0 alp0 hr0 hrp0).mono ?_
    rintro e w6_ ⟨rfl, b6_⟩
    have B6_ : Below w5_.heap.size w5_ w6_ := kTrans (kAlloc (Below.refl _ _) _) b6_
    have n6_ : w5_.heap.size + 1 ≤ w6_.heap.size := by have := b6_.size; simpa using this
    have T6_ : Below w.heap.size w w6_ := kTrans T5_ B6_
    have S0_6_ := Lib.hid (S0_5_.out.below B6_)
    have A0_6_ := Lib.hid (blk_below A0_5_.out B6_)
    have Rw0_6_ := Lib.hid (Rw0_5_.out.below B6_)
    have Rw1_6_ := Lib.hid (Rw1_5_.out.below B6_)
    have V0_6_ := Lib.hid (V0_5_.out.below B6_)
    have Xw0_6_ := Lib.hid (blk_below Xw0_5_.out B6_)
    have Rg0_6_ := Lib.hid (Rg0_5_.out.below B6_)
    have Rg1_6_ := Lib.hid (Rg1_5_.out.below B6_)
    have X0_6_ := Lib.hid (blk_below X0_5_.out B6_)
    have Xg0_6_ := Lib.hid (blk_below (heap_alloc_new w5_ (.cells #[.int .i8 Nr, .slice uag0 lr.length ucg0, .slice tag0 pr.length tcg0] 30)) b6_)
    clear bE c1_0 c1_1 c1_2 S0_5_ A0_5_ Rw0_5_ Rw1_5_ V0_5_ Xw0_5_ Rg0_5_ Rg1_5_ X0_5_ b6_ B6_ T5_
    go_wp2_with fail
    refine (eqInt64S_any _ _ ir _ Rg1_6_.out.sl Rw1_6_.out.sl al1 hr1).mono ?_
    rintro e w7_ ⟨rfl, b7_⟩
    have n7_ : w6_.heap.size ≤ w7_.heap.size := b7_.size
    have T7_ : Below w.heap.size w w7_ := kTrans T6_ b7_
    have S0_7_ := Lib.hid (S0_6_.out.below b7_)
    have A0_7_ := Lib.hid (blk_below A0_6_.out b7_)
    have Rw0_7_ := Lib.hid (Rw0_6_.out.below b7_)
    have Rw1_7_ := Lib.hid (Rw1_6_.out.below b7_)
    have V0_7_ := Lib.hid (V0_6_.out.below b7_)
    have Xw0_7_ := Lib.hid (blk_below Xw0_6_.out b7_)
    have Rg0_7_ := Lib.hid (Rg0_6_.out.below b7_)
    have Rg1_7_ := Lib.hid (Rg1_6_.out.below b7_)
    have X0_7_ := Lib.hid (blk_below X0_6_.out b7_)
    have Xg0_7_ := Lib.hid (blk_below Xg0_6_.out b7_)
    clear S0_6_ A0_6_ Rw0_6_ Rw1_6_ V0_6_ Xw0_6_ Rg0_6_ Rg1_6_ X0_6_ Xg0_6_ b7_ T6_
    have c0_0 : w7_.cell? ⟨w.heap.size, 0, none⟩ = some (.int .i8 wd0) := cell_of_row _ _ 0 _ _ _ A0_7_.out
    have c0_1 : w7_.cell? ⟨w.heap.size, 1, none⟩ = some (v0) := cell_of_row _ _ 1 _ _ _ A0_7_.out
    have c0_2 : w7_.cell? ⟨w.heap.size, 2, none⟩ = some (t0) := cell_of_row _ _ 2 _ _ _ A0_7_.out
    have c1_0 : w7_.cell? ⟨w4_.heap.size, 0, none⟩ = some (.int .i8 wd0) := cell_of_row _ _ 0 _ _ _ X0_7_.out
    have c1_1 : w7_.cell? ⟨w4_.heap.size, 1, none⟩ = some (.slice (some ⟨kb4_, 0, none⟩) l0.length l0.length) := cell_of_row _ _ 1 _ _ _ X0_7_.out
    have c1_2 : w7_.cell? ⟨w4_.heap.size, 2, none⟩ = some (.slice (some ⟨kk4_, 0, none⟩) lo0.length lo0.length) := cell_of_row _ _ 2 _ _ _ X0_7_.out
    have la_ : w.heap.size < w7_.heap.size := blk_lt A0_7_.out
    have lx_ : w4_.heap.size < w7_.heap.size := blk_lt X0_7_.out
    go_wp2_with fail
    go_region_held3 (fun w' => w'.cell? ⟨w.heap.size, 0, none⟩ = some (.int .i8 wd0) ∧ w'.cell? ⟨w.heap.size, 1, none⟩ = some (v0) ∧ w'.cell? ⟨w.heap.size, 2, none⟩ = some (t0) ∧ w'.cell? ⟨w4_.heap.size, 0, none⟩ = some (.int .i8 wd0) ∧ w'.cell? ⟨w4_.heap.size, 1, none⟩ = some (.slice (some ⟨kb4_, 0, none⟩) l0.length l0.length) ∧ w'.cell? ⟨w4_.heap.size, 2, none⟩ = some (.slice (some ⟨kk4_, 0, none⟩) lo0.length lo0.length)) (go_keep)
      (first
      | (go_at_call 14
         refine (eqN wd0 _ _ _ _ l0 lo0 _ (V0_7_.out.below (kTrans (Below.drew (Below.refl _ _)) b8_)).pk p8_.pk a0 ao0 m0 mo0).mono ?_
         rintro e w9_ ⟨rfl, b9_⟩
         have c0_0 := (b9_.cell (p := ⟨w.heap.size, 0, none⟩) (Nat.lt_of_lt_of_le la_ b8_.size)).trans c0_0
         have c0_1 := (b9_.cell (p := ⟨w.heap.size, 1, none⟩) (Nat.lt_of_lt_of_le la_ b8_.size)).trans c0_1
         have c0_2 := (b9_.cell (p := ⟨w.heap.size, 2, none⟩) (Nat.lt_of_lt_of_le la_ b8_.size)).trans c0_2
         have c1_0 := (b9_.cell (p := ⟨w4_.heap.size, 0, none⟩) (Nat.lt_of_lt_of_le lx_ b8_.size)).trans c1_0
         have c1_1 := (b9_.cell (p := ⟨w4_.heap.size, 1, none⟩) (Nat.lt_of_lt_of_le lx_ b8_.size)).trans c1_1
         have c1_2 := (b9_.cell (p := ⟨w4_.heap.size, 2, none⟩) (Nat.lt_of_lt_of_le lx_ b8_.size)).trans c1_2)
      | (go_at_call 12
         refine (toN_own wd0 v0 t0 l0 lo0 _ (S0_7_.out.below (Below.drew (Below.refl _ _))) m0 mo0).mono ?_
         rintro e w8_ ⟨kb8_, kk8_, rfl, p8_, b8_⟩
         have c0_0 := (b8_.cell (p := ⟨w.heap.size, 0, none⟩) la_).trans c0_0
         have c0_1 := (b8_.cell (p := ⟨w.heap.size, 1, none⟩) la_).trans c0_1
         have c0_2 := (b8_.cell (p := ⟨w.heap.size, 2, none⟩) la_).trans c0_2
         have c1_0 := (b8_.cell (p := ⟨w4_.heap.size, 0, none⟩) lx_).trans c1_0
         have c1_1 := (b8_.cell (p := ⟨w4_.heap.size, 1, none⟩) lx_).trans c1_1
         have c1_2 := (b8_.cell (p := ⟨w4_.heap.size, 2, none⟩) lx_).trans c1_2))
    have bb_ : Below w7_.heap.size w7_ w9_ := kTrans (kTrans (Below.drew (Below.refl _ _)) b8_) b9_
    clear b8_ b9_ p8_ la_ lx_
    have n9_ : w7_.heap.size ≤ w9_.heap.size := bb_.size
    have T9_ : Below w.heap.size w w9_ := kTrans T7_ bb_
    have S0_9_ := Lib.hid (S0_7_.out.below bb_)
    have A0_9_ := Lib.hid (blk_below A0_7_.out bb_)
    have Rw0_9_ := Lib.hid (Rw0_7_.out.below bb_)
    have Rw1_9_ := Lib.hid (Rw1_7_.out.below bb_)
    have V0_9_ := Lib.hid (V0_7_.out.below bb_)
    have Xw0_9_ := Lib.hid (blk_below Xw0_7_.out bb_)
    have Rg0_9_ := Lib.hid (Rg0_7_.out.below bb_)
    have Rg1_9_ := Lib.hid (Rg1_7_.out.below bb_)
    have X0_9_ := Lib.hid (blk_below X0_7_.out bb_)
    have Xg0_9_ := Lib.hid (blk_below Xg0_7_.out bb_)
    clear c0_0 c0_1 c0_2 c1_0 c1_1 c1_2 S0_7_ A0_7_ Rw0_7_ Rw1_7_ V0_7_ Xw0_7_ Rg0_7_ Rg1_7_ X0_7_ Xg0_7_ bb_ T7_
    have c0_0 : w9_.cell? ⟨w4_.heap.size, 0, none⟩ = some (.int .i8 wd0) := cell_of_row _ _ 0 _ _ _ X0_9_.out
    have c0_1 : w9_.cell? ⟨w4_.heap.size, 1, none⟩ = some (.slice (some ⟨kb4_, 0, none⟩) l0.length l0.length) := cell_of_row _ _ 1 _ _ _ X0_9_.out
    have c0_2 : w9_.cell? ⟨w4_.heap.size, 2, none⟩ = some (.slice (some ⟨kk4_, 0, none⟩) lo0.length lo0.length) := cell_of_row _ _ 2 _ _ _ X0_9_.out
    go_wp2_with fail
    refine (markNetwork_any _ _ _ _ wd0 l0 lo0 (1) _ V0_9_.out (by omega) (by omega) m0 mo0).mono ?_
    rintro e w10_ ⟨rfl, b10_⟩
    have n10_ : w9_.heap.size ≤ w10_.heap.size := b10_.size
    have T10_ := kOut T9_ b10_ (by omega)
    have S0_10_ := Lib.hid (S0_9_.out.out b10_ (by omega))
    have A0_10_ := Lib.hid (blk_out A0_9_.out b10_ (by omega))
    have Rw0_10_ := Lib.hid (Rw0_9_.out.out b10_ (by omega))
    have Rw1_10_ := Lib.hid (Rw1_9_.out.out b10_ (by omega))
    have Xw0_10_ := Lib.hid (blk_out Xw0_9_.out b10_ (by omega))
    have Rg0_10_ := Lib.hid (Rg0_9_.out.out b10_ (by omega))
    have Rg1_10_ := Lib.hid (Rg1_9_.out.out b10_ (by omega))
    have Xg0_10_ := Lib.hid (blk_out Xg0_9_.out b10_ (by omega))
    clear c0_0 c0_1 c0_2 S0_9_ A0_9_ Rw0_9_ Rw1_9_ V0_9_ Xw0_9_ Rg0_9_ Rg1_9_ X0_9_ Xg0_9_ b10_ T9_
    have c0_0 : w10_.cell? ⟨w5_.heap.size, 0, none⟩ = some (.int .i8 Nr) := cell_of_row _ _ 0 _ _ _ Xg0_10_.out
    have c0_1 : w10_.cell? ⟨w5_.heap.size, 1, none⟩ = some (.slice uag0 lr.length ucg0) := cell_of_row _ _ 1 _ _ _ Xg0_10_.out
    have c0_2 : w10_.cell? ⟨w5_.heap.size, 2, none⟩ = some (.slice tag0 pr.length tcg0) := cell_of_row _ _ 2 _ _ _ Xg0_10_.out
    have c1_0 : w10_.cell? ⟨w3_.heap.size, 0, none⟩ = some (.int .i8 Nr) := cell_of_row _ _ 0 _ _ _ Xw0_10_.out
    have c1_1 : w10_.cell? ⟨w3_.heap.size, 1, none⟩ = some (.slice uaw0 lr.length ucw0) := cell_of_row _ _ 1 _ _ _ Xw0_10_.out
    have c1_2 : w10_.cell? ⟨w3_.heap.size, 2, none⟩ = some (.slice taw0 pr.length tcw0) := cell_of_row _ _ 2 _ _ _ Xw0_10_.out
    go_wp2_with fail
    refine (eqNetwork_any Nr _ _ _ _ lr pr _ Rg0_10_.out.s1 Rg0_10_.out.s2 Rw0_10_.out.s1 Rw0_10_.out.s2 al0 alp0 hr0 hrp0).mono ?_
    rintro e w11_ ⟨rfl, b11_⟩
    have n11_ : w10_.heap.size ≤ w11_.heap.size := b11_.size
    have T11_ : Below w.heap.size w w11_ := kTrans T10_ b11_
    have S0_11_ := Lib.hid (S0_10_.out.below b11_)
    have A0_11_ := Lib.hid (blk_below A0_10_.out b11_)
    have Rw0_11_ := Lib.hid (Rw0_10_.out.below b11_)
    have Rw1_11_ := Lib.hid (Rw1_10_.out.below b11_)
    have Xw0_11_ := Lib.hid (blk_below Xw0_10_.out b11_)
    have Rg0_11_ := Lib.hid (Rg0_10_.out.below b11_)
    have Rg1_11_ := Lib.hid (Rg1_10_.out.below b11_)
    have Xg0_11_ := Lib.hid (blk_below Xg0_10_.out b11_)
    clear c0_0 c0_1 c0_2 c1_0 c1_1 c1_2 S0_10_ A0_10_ Rw0_10_ Rw1_10_ Xw0_10_ Rg0_10_ Rg1_10_ Xg0_10_ b11_ T10_
    go_wp2_with fail
    refine (eqInt64S_any _ _ ir _ Rg1_11_.out.sl Rw1_11_.out.sl al1 hr1).mono ?_
    rintro e w12_ ⟨rfl, b12_⟩
    have n12_ : w11_.heap.size ≤ w12_.heap.size := b12_.size
    have T12_ : Below w.heap.size w w12_ := kTrans T11_ b12_
    have S0_12_ := Lib.hid (S0_11_.out.below b12_)
    have A0_12_ := Lib.hid (blk_below A0_11_.out b12_)
    have Rw0_12_ := Lib.hid (Rw0_11_.out.below b12_)
    have Rw1_12_ := Lib.hid (Rw1_11_.out.below b12_)
    have Xw0_12_ := Lib.hid (blk_below Xw0_11_.out b12_)
    have Rg0_12_ := Lib.hid (Rg0_11_.out.below b12_)
    have Rg1_12_ := Lib.hid (Rg1_11_.out.below b12_)
    have Xg0_12_ := Lib.hid (blk_below Xg0_11_.out b12_)
    clear S0_11_ A0_11_ Rw0_11_ Rw1_11_ Xw0_11_ Rg0_11_ Rg1_11_ Xg0_11_ b12_ T11_
    have c0_0 : w12_.cell? ⟨w5_.heap.size, 0, none⟩ = some (.int .i8 Nr) := cell_of_row _ _ 0 _ _ _ Xg0_12_.out
    have c0_1 : w12_.cell? ⟨w5_.heap.size, 1, none⟩ = some (.slice uag0 lr.length ucg0) := cell_of_row _ _ 1 _ _ _ Xg0_12_.out
    have c0_2 : w12_.cell? ⟨w5_.heap.size, 2, none⟩ = some (.slice tag0 pr.length tcg0) := cell_of_row _ _ 2 _ _ _ Xg0_12_.out
    go_wp2_with fail
    refine (markNetwork_r _ _ Nr _ _ lr pr (1) _ Rg0_12_.out (by omega) (by omega) (by omega) hr0 hrp0).mono ?_
    rintro e w13_ ⟨rfl, vm_, b13_⟩
    have n13_ : w12_.heap.size ≤ w13_.heap.size := b13_.size
    have T13_ := kOut T12_ b13_ (by omega)
    have Rg0_13_ := Lib.hid vm_
    clear vm_
    have S0_13_ := Lib.hid (S0_12_.out.out b13_ (by omega))
    have A0_13_ := Lib.hid (blk_out A0_12_.out b13_ (by omega))
    have Rw0_13_ := Lib.hid (Rw0_12_.out.out b13_ (by omega))
    have Rw1_13_ := Lib.hid (Rw1_12_.out.out b13_ (by omega))
    have Xw0_13_ := Lib.hid (blk_out Xw0_12_.out b13_ (by omega))
    have Rg1_13_ := Lib.hid (Rg1_12_.out.out b13_ (by omega))
    have Xg0_13_ := Lib.hid (blk_out Xg0_12_.out b13_ (by omega))
    clear c0_0 c0_1 c0_2 S0_12_ A0_12_ Rw0_12_ Rw1_12_ Xw0_12_ Rg0_12_ Rg1_12_ Xg0_12_ b13_ T12_
    go_wp2_with fail
    refine (markInt64S_any _ _ _ ir (1 + 3 * (lr.length : Int) + (pr.length : Int)) _ Rg1_13_.out (by omega) (by omega) hr1).mono ?_
    rintro e w14_ ⟨rfl, vm_, b14_⟩
    have n14_ : w13_.heap.size ≤ w14_.heap.size := b14_.size
    have T14_ := kOut T13_ b14_ (by omega)
    have Rg1_14_ := Lib.hid vm_
    clear vm_
    have S0_14_ := Lib.hid (S0_13_.out.out b14_ (by omega))
    have A0_14_ := Lib.hid (blk_out A0_13_.out b14_ (by omega))
    have Rw0_14_ := Lib.hid (Rw0_13_.out.out b14_ (by omega))
    have Rw1_14_ := Lib.hid (Rw1_13_.out.out b14_ (by omega))
    have Xw0_14_ := Lib.hid (blk_out Xw0_13_.out b14_ (by omega))
    have Rg0_14_ := Lib.hid (Rg0_13_.out.out b14_ (by omega))
    have Xg0_14_ := Lib.hid (blk_out Xg0_13_.out b14_ (by omega))
    clear S0_13_ A0_13_ Rw0_13_ Rw1_13_ Xw0_13_ Rg0_13_ Rg1_13_ Xg0_13_ b14_ T13_
    have c0_0 : w14_.cell? ⟨w5_.heap.size, 0, none⟩ = some (.int .i8 Nr) := cell_of_row _ _ 0 _ _ _ Xg0_14_.out
    have c0_1 : w14_.cell? ⟨w5_.heap.size, 1, none⟩ = some (.slice uag0 lr.length ucg0) := cell_of_row _ _ 1 _ _ _ Xg0_14_.out
    have c0_2 : w14_.cell? ⟨w5_.heap.size, 2, none⟩ = some (.slice tag0 pr.length tcg0) := cell_of_row _ _ 2 _ _ _ Xg0_14_.out
    go_wp2_with fail
    refine (heldNetwork_r _ _ lr.length pr.length Nr _ _ (1) _ Rg0_14_.out (by omega) (by omega) hr0 hrp0).mono ?_
    rintro e w15_ ⟨rfl, b15_⟩
    have n15_ : w14_.heap.size ≤ w15_.heap.size := b15_.size
    have T15_ : Below w.heap.size w w15_ := kTrans T14_ b15_
    have S0_15_ := Lib.hid (S0_14_.out.below b15_)
    have A0_15_ := Lib.hid (blk_below A0_14_.out b15_)
    have Rw0_15_ := Lib.hid (Rw0_14_.out.below b15_)
    have Rw1_15_ := Lib.hid (Rw1_14_.out.below b15_)
    have Xw0_15_ := Lib.hid (blk_below Xw0_14_.out b15_)
    have Rg0_15_ := Lib.hid (Rg0_14_.out.below b15_)
    have Rg1_15_ := Lib.hid (Rg1_14_.out.below b15_)
    have Xg0_15_ := Lib.hid (blk_below Xg0_14_.out b15_)
    clear c0_0 c0_1 c0_2 S0_14_ A0_14_ Rw0_14_ Rw1_14_ Xw0_14_ Rg0_14_ Rg1_14_ Xg0_14_ b15_ T14_
    go_wp2_with fail
    refine (heldInt64S_any _ _ ir.length _ (1 + 3 * (lr.length : Int) + (pr.length : Int)) _ Rg1_15_.out (by omega) (by omega) hr1).mono ?_
    rintro e w16_ ⟨rfl, b16_⟩
    have n16_ : w15_.heap.size ≤ w16_.heap.size := b16_.size
    have T16_ : Below w.heap.size w w16_ := kTrans T15_ b16_
    have S0_16_ := Lib.hid (S0_15_.out.below b16_)
    have A0_16_ := Lib.hid (blk_below A0_15_.out b16_)
    have Rw0_16_ := Lib.hid (Rw0_15_.out.below b16_)
    have Rw1_16_ := Lib.hid (Rw1_15_.out.below b16_)
    have Xw0_16_ := Lib.hid (blk_below Xw0_15_.out b16_)
    have Rg0_16_ := Lib.hid (Rg0_15_.out.below b16_)
    have Rg1_16_ := Lib.hid (Rg1_15_.out.below b16_)
    have Xg0_16_ := Lib.hid (blk_below Xg0_15_.out b16_)
    clear S0_15_ A0_15_ Rw0_15_ Rw1_15_ Xw0_15_ Rg0_15_ Rg1_15_ Xg0_15_ b16_ T15_
    have c0_0 : w16_.cell? ⟨w.heap.size, 0, none⟩ = some (.int .i8 wd0) := cell_of_row _ _ 0 _ _ _ A0_16_.out
    have c0_1 : w16_.cell? ⟨w.heap.size, 1, none⟩ = some (v0) := cell_of_row _ _ 1 _ _ _ A0_16_.out
    have c0_2 : w16_.cell? ⟨w.heap.size, 2, none⟩ = some (t0) := cell_of_row _ _ 2 _ _ _ A0_16_.out
    go_wp2_with fail
    refine (toN_own wd0 v0 t0 l0 lo0 _ S0_16_.out m0 mo0).mono ?_
    rintro e w17_ ⟨kb17_, kk17_, rfl, p17_, b17_⟩
    have n17_ : w16_.heap.size ≤ w17_.heap.size := b17_.size
    have T17_ : Below w.heap.size w w17_ := kTrans T16_ b17_
    have P0h_17_ := Lib.hid p17_.pk
    clear p17_
    have S0_17_ := Lib.hid (S0_16_.out.below b17_)
    have A0_17_ := Lib.hid (blk_below A0_16_.out b17_)
    have Rw0_17_ := Lib.hid (Rw0_16_.out.below b17_)
    have Rw1_17_ := Lib.hid (Rw1_16_.out.below b17_)
    have Xw0_17_ := Lib.hid (blk_below Xw0_16_.out b17_)
    have Rg0_17_ := Lib.hid (Rg0_16_.out.below b17_)
    have Rg1_17_ := Lib.hid (Rg1_16_.out.below b17_)
    have Xg0_17_ := Lib.hid (blk_below Xg0_16_.out b17_)
    clear c0_0 c0_1 c0_2 S0_16_ A0_16_ Rw0_16_ Rw1_16_ Xw0_16_ Rg0_16_ Rg1_16_ Xg0_16_ b17_ T16_
    go_wp2_with fail
    refine (Hi.out kb17_ kk17_ _ P0h_17_.out).mono ?_
    rintro e w18_ ⟨uh0_, th0_, uh1_, mdh_, rfl, yh0_, yh1_, mloh_, mhih_, b18_⟩
    have n18_ : w17_.heap.size ≤ w18_.heap.size := b18_.size
    have T18_ : Below w.heap.size w w18_ := kTrans T17_ b18_
    obtain ⟨uah0, uch0, tah0, tch0, rfl, rfl⟩ := yh0_.form
    have Rh0_18_ := Lib.hid yh0_
    clear yh0_
    obtain ⟨uah1, uch1, rfl⟩ := yh1_.form
    have Rh1_18_ := Lib.hid yh1_
    clear yh1_
    have Rw0_18_ := Lib.hid (Rw0_17_.out.below b18_)
    have Rw1_18_ := Lib.hid (Rw1_17_.out.below b18_)
    have Xw0_18_ := Lib.hid (blk_below Xw0_17_.out b18_)
    have Rg0_18_ := Lib.hid (Rg0_17_.out.below b18_)
    have Rg1_18_ := Lib.hid (Rg1_17_.out.below b18_)
    have Xg0_18_ := Lib.hid (blk_below Xg0_17_.out b18_)
    clear S0_17_ A0_17_ Rw0_17_ Rw1_17_ Xw0_17_ Rg0_17_ Rg1_17_ Xg0_17_ P0h_17_ b18_ T17_
    have bE : Below w18_.heap.size w18_ (w18_.alloc (.cells #[.int .i8 Nr, .slice uah0 lr.length uch0, .slice tah0 pr.length tch0] 30)) := (kAlloc (Below.refl _ _) _)
    have c1_0 : (w18_.alloc (.cells #[.int .i8 Nr, .slice uah0 lr.length uch0, .slice tah0 pr.length tch0] 30)).cell? ⟨w3_.heap.size, 0, none⟩ = some (.int .i8 Nr) := cell_of_row _ _ 0 _ _ _ (blk_below Xw0_18_.out bE)
    have c1_1 : (w18_.alloc (.cells #[.int .i8 Nr, .slice uah0 lr.length uch0, .slice tah0 pr.length tch0] 30)).cell? ⟨w3_.heap.size, 1, none⟩ = some (.slice uaw0 lr.length ucw0) := cell_of_row _ _ 1 _ _ _ (blk_below Xw0_18_.out bE)
    have c1_2 : (w18_.alloc (.cells #[.int .i8 Nr, .slice uah0 lr.length uch0, .slice tah0 pr.length tch0] 30)).cell? ⟨w3_.heap.size, 2, none⟩ = some (.slice taw0 pr.length tcw0) := cell_of_row _ _ 2 _ _ _ (blk_below Xw0_18_.out bE)
    go_wp2_with fail
    refine (eqNetwork_any Nr _ _ _ _ lr pr _ (Rh0_18_.out.below bE).s1 (Rh0_18_.out.below bE).s2 (Rw0_18_.out.below bE).s1 (Rw0_18_.out.below bE).s2 al0 alp0 hr0 hrp0).mono ?_
    rintro e w19_ ⟨rfl, b19_⟩
    have B19_ : Below w18_.heap.size w18_ w19_ := kTrans (kAlloc (Below.refl _ _) _) b19_
    have n19_ : w18_.heap.size + 1 ≤ w19_.heap.size := by have := b19_.size; simpa using this
    have T19_ : Below w.heap.size w w19_ := kTrans T18_ B19_
    have Rw0_19_ := Lib.hid (Rw0_18_.out.below B19_)
    have Rw1_19_ := Lib.hid (Rw1_18_.out.below B19_)
    have Xw0_19_ := Lib.hid (blk_below Xw0_18_.out B19_)
    have Rg0_19_ := Lib.hid (Rg0_18_.out.below B19_)
    have Rg1_19_ := Lib.hid (Rg1_18_.out.below B19_)
    have Xg0_19_ := Lib.hid (blk_below Xg0_18_.out B19_)
    have Rh0_19_ := Lib.hid (Rh0_18_.out.below B19_)
    have Rh1_19_ := Lib.hid (Rh1_18_.out.below B19_)
    have Xh0_19_ := Lib.hid (blk_below (heap_alloc_new w18_ (.cells #[.int .i8 Nr, .slice uah0 lr.length uch0, .slice tah0 pr.length tch0] 30)) b19_)
    clear bE c1_0 c1_1 c1_2 Rw0_18_ Rw1_18_ Xw0_18_ Rg0_18_ Rg1_18_ Xg0_18_ Rh0_18_ Rh1_18_ b19_ B19_ T18_
    go_wp2_with fail
    refine (eqInt64S_any _ _ ir _ Rh1_19_.out.sl Rw1_19_.out.sl al1 hr1).mono ?_
    rintro e w20_ ⟨rfl, b20_⟩
    have n20_ : w19_.heap.size ≤ w20_.heap.size := b20_.size
    have T20_ : Below w.heap.size w w20_ := kTrans T19_ b20_
    have Rw0_20_ := Lib.hid (Rw0_19_.out.below b20_)
    have Rw1_20_ := Lib.hid (Rw1_19_.out.below b20_)
    have Xw0_20_ := Lib.hid (blk_below Xw0_19_.out b20_)
    have Rg0_20_ := Lib.hid (Rg0_19_.out.below b20_)
    have Rg1_20_ := Lib.hid (Rg1_19_.out.below b20_)
    have Xg0_20_ := Lib.hid (blk_below Xg0_19_.out b20_)
    have Rh0_20_ := Lib.hid (Rh0_19_.out.below b20_)
    have Rh1_20_ := Lib.hid (Rh1_19_.out.below b20_)
    have Xh0_20_ := Lib.hid (blk_below Xh0_19_.out b20_)
    clear Rw0_19_ Rw1_19_ Xw0_19_ Rg0_19_ Rg1_19_ Xg0_19_ Rh0_19_ Rh1_19_ Xh0_19_ b20_ T19_
    have c0_0 : w20_.cell? ⟨w5_.heap.size, 0, none⟩ = some (.int .i8 Nr) := cell_of_row _ _ 0 _ _ _ Xg0_20_.out
    have c0_1 : w20_.cell? ⟨w5_.heap.size, 1, none⟩ = some (.slice uag0 lr.length ucg0) := cell_of_row _ _ 1 _ _ _ Xg0_20_.out
    have c0_2 : w20_.cell? ⟨w5_.heap.size, 2, none⟩ = some (.slice tag0 pr.length tcg0) := cell_of_row _ _ 2 _ _ _ Xg0_20_.out
    go_wp2_with fail
    refine (heldNetwork_r _ _ lr.length pr.length Nr _ _ (1) _ Rg0_20_.out (by omega) (by omega) hr0 hrp0).mono ?_
    rintro e w21_ ⟨rfl, b21_⟩
    have n21_ : w20_.heap.size ≤ w21_.heap.size := b21_.size
    have T21_ : Below w.heap.size w w21_ := kTrans T20_ b21_
    have Rw0_21_ := Lib.hid (Rw0_20_.out.below b21_)
    have Rw1_21_ := Lib.hid (Rw1_20_.out.below b21_)
    have Xw0_21_ := Lib.hid (blk_below Xw0_20_.out b21_)
    have Rg0_21_ := Lib.hid (Rg0_20_.out.below b21_)
    have Rg1_21_ := Lib.hid (Rg1_20_.out.below b21_)
    have Xg0_21_ := Lib.hid (blk_below Xg0_20_.out b21_)
    have Rh0_21_ := Lib.hid (Rh0_20_.out.below b21_)
    have Rh1_21_ := Lib.hid (Rh1_20_.out.below b21_)
    have Xh0_21_ := Lib.hid (blk_below Xh0_20_.out b21_)
    clear c0_0 c0_1 c0_2 Rw0_20_ Rw1_20_ Xw0_20_ Rg0_20_ Rg1_20_ Xg0_20_ Rh0_20_ Rh1_20_ Xh0_20_ b21_ T20_
    go_wp2_with fail
    refine (heldInt64S_any _ _ ir.length _ (1 + 3 * (lr.length : Int) + (pr.length : Int)) _ Rg1_21_.out (by omega) (by omega) hr1).mono ?_
    rintro e w22_ ⟨rfl, b22_⟩
    have n22_ : w21_.heap.size ≤ w22_.heap.size := b22_.size
    have T22_ : Below w.heap.size w w22_ := kTrans T21_ b22_
    have Rw0_22_ := Lib.hid (Rw0_21_.out.below b22_)
    have Rw1_22_ := Lib.hid (Rw1_21_.out.below b22_)
    have Xw0_22_ := Lib.hid (blk_below Xw0_21_.out b22_)
    have Rg0_22_ := Lib.hid (Rg0_21_.out.below b22_)
    have Rg1_22_ := Lib.hid (Rg1_21_.out.below b22_)
    have Xg0_22_ := Lib.hid (blk_below Xg0_21_.out b22_)
    have Rh0_22_ := Lib.hid (Rh0_21_.out.below b22_)
    have Rh1_22_ := Lib.hid (Rh1_21_.out.below b22_)
    have Xh0_22_ := Lib.hid (blk_below Xh0_21_.out b22_)
    clear Rw0_21_ Rw1_21_ Xw0_21_ Rg0_21_ Rg1_21_ Xg0_21_ Rh0_21_ Rh1_21_ Xh0_21_ b22_ T21_
    go_wp2
    go_ret
    exact ⟨rfl, T22_⟩

set_option maxRecDepth 100000 in
theorem lifted (os : Os) (started : os.Started) (H : Type) (enc : TypeId × Value → H) :
    ReturnsInHanded {} Try.checked os 6 .any (Rows.fnExactMergeOfSpec.pre6 enc Try.prog Try.f6 Rows.fnExactMergeOfRow.domain false) (Rows.fnExactMergeOfSpec.post enc Try.prog Try.f6 false true false false) := by
  refine returnsInHanded_of_change (C := Try.checked) own started (by kernel_rfl) Try.func6
    (ChangeSpec.witness6 (enc := enc) (C := Try.checked) false ⟨#[], #[.agg #[.int .i8 0, .slice none 0 0, .slice none 0 0]], []⟩ 8 (by kernel_rfl) (by kernel_rfl) (by kernel_rfl) (by kernel_rfl)) ?_
  intro W base args ds gs before hval0 hW hcnd _
  have hval : ∀ (j : Nat) t v, Try.f6.params[j]? = some t → args[j]? = some v → Value.okWide Try.prog W .any base t v := hval0
  have hW' := hW
  obtain ⟨p, q, hA0, hV, rfl, hfz, hnd⟩ := hW
  have hA : DataW.TrodAll enc Try.prog W 0 (fun _ => true) true Try.f6.params.toList args.toList ds p := hA0
  rw [Try.params6] at hA hval
  have r_ := hA
  obtain ⟨v0, vs0, d0, ds0, pp0, qq0, hargs0, hds0, _, h0, r_⟩ := trodAll_cons r_
  obtain ⟨hv_, hd_, _⟩ := trodAll_nil r_
  subst hv_ hd_
  obtain rfl : args = #[v0] := by cases args; simp_all
  subst hds0
  obtain ⟨f0_, f1_, f2_, e1_, e2_, e3_, e4_, e5_, e6_⟩ := network_struct
  obtain ⟨wd0, s0, t0, l0, lo0, rfl, bw0, sl0, al0, le0, sp0, ap0, lp0⟩ := open_network e1_ e2_ e3_ e4_ e5_ e6_ Nd_cells Nd_flat Sh_cells Sh_flat (hval 0 26 v0 rfl rfl) h0
  refine (walk (w := W) wd0 s0 t0 l0 lo0 bw0 sl0 al0 le0 sp0 ap0 lp0).mono fun e W' ⟨he, hg⟩ => ?_
  subst he
  exact ⟨_, rfl, law_post kids full Try.underlying4 (by decide) rfl rfl rfl hW' hg⟩

theorem over : Rows.fnExactMergeOfRow.holds Try.pinned (OpenSpec.ofChange Rows.fnExactMergeOfSpec) :=
  OpenClaim.holds_of_wide 6 Try.f6 rfl rfl rfl rfl rfl rfl rfl ⟨rfl, rfl, rfl, rfl, rfl⟩ rfl rfl rfl rfl rfl (by kernel_rfl) Try.func6 (by kernel_rfl)
    (of_decide_eq_true (by kernel_rfl)) (by unfold Func.isWrapper; first | (rw [if_pos (by decide +kernel)]; kernel_rfl) | (rw [if_neg (by decide +kernel)]; exact ⟨rfl, rfl⟩))
    (fun os started H enc _ => lifted os started H enc)

/-- The statement. -/
theorem proved : Rows.FnExactMergeOfSaid :=
  over
#print axioms proved
end Go.Proofs.Ytcnmcgajkmcllaa.MergeOf
