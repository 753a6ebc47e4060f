/- 'SameNetwork' answers as its model at every argument. No conditions. -/
import Derived.Test.YtlbnhdnmcnfgdaaSn
import Derived.Deep.RegionHeld3
import Derived.Deep.DeepCutAuto
namespace Go.Proofs.Ytlbnhdnmcnfgdaa.SameNetwork
open Go.ChangeShapes Go.WideShapes Go.ChangeAt Go.RowKit
set_option linter.unusedVariables false

set_option maxRecDepth 100000 in
set_option maxHeartbeats 16000000 in
theorem walk {w : World} (wd0 : Int) (v0 t0 : Value) (l0 : List Nd) (lo0 : List Int) (bw0 : i8 wd0) (s0 : SlNd w l0 v0) (a0 : NdsWf l0) (e0 : l0.length ≤ maxLen) (so0 : SlSh w lo0 t0) (ao0 : ShsWf lo0) (eo0 : lo0.length ≤ maxLen) (wd1 : Int) (v1 t1 : Value) (l1 : List Nd) (lo1 : List Int) (bw1 : i8 wd1) (s1 : SlNd w l1 v1) (a1 : NdsWf l1) (e1 : l1.length ≤ maxLen) (so1 : SlSh w lo1 t1) (ao1 : ShsWf lo1) (eo1 : lo1.length ≤ maxLen) :
    Calls Try.prog 4 #[.agg #[.int .i8 wd0, v0, t0], .agg #[.int .i8 wd1, v1, t1]] w fun e w' => e = .returned (.bool true) ∧ Below w.heap.size w w' := by
  unfold maxLen at e0 eo0 e1 eo1
  have S0_ := Lib.hid (NSO.start s0 so0)
  clear so0
  have S1_ := Lib.hid (NSO.start s1 so1)
  clear so1
  clear s0 s1
  by_cases h0 : 1048576 - (l0.length : Int) - (lo0.length : Int) < 0
  · skip
    have bE : Below w.heap.size w ((w.alloc (.cells #[.int .i8 wd0, v0, t0] 26)).alloc (.cells #[.int .i8 wd1, v1, t1] 26)) := (kAlloc (kAlloc (Below.refl _ _) _) _)
    go_enter Try.func4, Try.ntmps4
    go_wp2_with fail
    refine (szN wd0 v0 t0 l0 lo0 _ (S0_.out.below bE) (1048576) e0 eo0 (by omega) (by omega)).mono ?_
    rw [if_pos (by omega)]
    rintro e w1_ ⟨rfl, b1_⟩
    have B1_ : Below w.heap.size w w1_ := kTrans (kAlloc (kAlloc (Below.refl _ _) _) _) b1_
    have n1_ : w.heap.size + 2 ≤ w1_.heap.size := by have := b1_.size; simpa using this
    have T1_ : Below w.heap.size w w1_ := B1_
    have S0_1_ := Lib.hid (S0_.out.below B1_)
    have S1_1_ := Lib.hid (S1_.out.below B1_)
    have A0_1_ := Lib.hid (blk_below ((Below.heap_alloc (w.alloc (.cells #[.int .i8 wd0, v0, t0] 26)) (.cells #[.int .i8 wd1, v1, t1] 26) _ (by simp)).trans (heap_alloc_new w (.cells #[.int .i8 wd0, v0, t0] 26))) b1_)
    have A1_1_ := Lib.hid (blk_below (heap_two w (.cells #[.int .i8 wd0, v0, t0] 26) (.cells #[.int .i8 wd1, v1, t1] 26)) b1_)
    clear bE S0_ S1_ b1_ B1_
    go_wp2
    go_ret
    exact ⟨rfl, T1_⟩
  · skip
    have h0' : ¬ 1048576 - (l0.length : Int) < (lo0.length : Int) := by omega
    by_cases h1 : 1048576 - (l0.length : Int) - (lo0.length : Int) - (l1.length : Int) - (lo1.length : Int) < 0
    · skip
      have bE : Below w.heap.size w ((w.alloc (.cells #[.int .i8 wd0, v0, t0] 26)).alloc (.cells #[.int .i8 wd1, v1, t1] 26)) := (kAlloc (kAlloc (Below.refl _ _) _) _)
      go_enter Try.func4, Try.ntmps4
      go_wp2_with fail
      refine (szN wd0 v0 t0 l0 lo0 _ (S0_.out.below bE) (1048576) e0 eo0 (by omega) (by omega)).mono ?_
      rw [if_neg (by omega)]
      rintro e w1_ ⟨rfl, b1_⟩
      have B1_ : Below w.heap.size w w1_ := kTrans (kAlloc (kAlloc (Below.refl _ _) _) _) b1_
      have n1_ : w.heap.size + 2 ≤ w1_.heap.size := by have := b1_.size; simpa using this
      have T1_ : Below w.heap.size w w1_ := B1_
      have S0_1_ := Lib.hid (S0_.out.below B1_)
      have S1_1_ := Lib.hid (S1_.out.below B1_)
      have A0_1_ := Lib.hid (blk_below ((Below.heap_alloc (w.alloc (.cells #[.int .i8 wd0, v0, t0] 26)) (.cells #[.int .i8 wd1, v1, t1] 26) _ (by simp)).trans (heap_alloc_new w (.cells #[.int .i8 wd0, v0, t0] 26))) b1_)
      have A1_1_ := Lib.hid (blk_below (heap_two w (.cells #[.int .i8 wd0, v0, t0] 26) (.cells #[.int .i8 wd1, v1, t1] 26)) b1_)
      clear bE S0_ S1_ b1_ B1_
      have c0_0 : w1_.cell? ⟨w.heap.size + 1, 0, none⟩ = some (.int .i8 wd1) := cell_of_row _ _ 0 _ _ _ A1_1_.out
      have c0_1 : w1_.cell? ⟨w.heap.size + 1, 1, none⟩ = some (v1) := cell_of_row _ _ 1 _ _ _ A1_1_.out
      have c0_2 : w1_.cell? ⟨w.heap.size + 1, 2, none⟩ = some (t1) := cell_of_row _ _ 2 _ _ _ A1_1_.out
      go_wp2_with fail
      refine (szN wd1 v1 t1 l1 lo1 _ S1_1_.out (1048576 - (l0.length : Int) - (lo0.length : Int)) e1 eo1 (by omega) (by omega)).mono ?_
      rw [if_pos (by omega)]
      rintro e w2_ ⟨rfl, b2_⟩
      have n2_ : w1_.heap.size ≤ w2_.heap.size := b2_.size
      have T2_ : Below w.heap.size w w2_ := kTrans T1_ b2_
      have S0_2_ := Lib.hid (S0_1_.out.below b2_)
      have S1_2_ := Lib.hid (S1_1_.out.below b2_)
      have A0_2_ := Lib.hid (blk_below A0_1_.out b2_)
      have A1_2_ := Lib.hid (blk_below A1_1_.out b2_)
      clear c0_0 c0_1 c0_2 S0_1_ S1_1_ A0_1_ A1_1_ b2_ T1_
      go_wp2
      go_ret
      exact ⟨rfl, T2_⟩
    · skip
      have h1' : ¬ 1048576 - (l0.length : Int) - (lo0.length : Int) - (l1.length : Int) < (lo1.length : Int) := by omega
      have m0 : l0.length ≤ 1048576 := by omega
      have q0 : (3 : Int) * l0.length ≤ 3145728 := by omega
      have mo0 : lo0.length ≤ 1048576 := by omega
      have qo0 : (1 : Int) * lo0.length ≤ 1048576 := by omega
      have m1 : l1.length ≤ 1048576 := by omega
      have q1 : (3 : Int) * l1.length ≤ 3145728 := by omega
      have mo1 : lo1.length ≤ 1048576 := by omega
      have qo1 : (1 : Int) * lo1.length ≤ 1048576 := by omega
      obtain ⟨R, hR⟩ : ∃ R, R = sameN wd0 wd1 l0 l1 lo0 lo1 := ⟨_, rfl⟩
      have Hs := Lib.hid (fun b0 k0 b1 k1 w2 (hp0 : NK w2 b0 k0 l0 lo0) (hp1 : NK w2 b1 k1 l1 lo1) => specSameNetwork_any b0 k0 b1 k1 wd0 wd1 l0 l1 lo0 lo1 w2 hp0 hp1 a0 a1 m0 mo0 m1 mo1 R hR)
      have Hi := Lib.hid (fun b0 k0 b1 k1 w2 (hp0 : NK w2 b0 k0 l0 lo0) (hp1 : NK w2 b1 k1 l1 lo1) => implSameNetwork_any b0 k0 b1 k1 wd0 wd1 l0 l1 lo0 lo1 w2 hp0 hp1 a0 a1 m0 mo0 m1 mo1 R hR)
      clear hR
      have bE : Below w.heap.size w ((w.alloc (.cells #[.int .i8 wd0, v0, t0] 26)).alloc (.cells #[.int .i8 wd1, v1, t1] 26)) := (kAlloc (kAlloc (Below.refl _ _) _) _)
      go_enter Try.func4, Try.ntmps4
      go_wp2_with fail
      refine (szN wd0 v0 t0 l0 lo0 _ (S0_.out.below bE) (1048576) e0 eo0 (by omega) (by omega)).mono ?_
      rw [if_neg (by omega)]
      rintro e w1_ ⟨rfl, b1_⟩
      have B1_ : Below w.heap.size w w1_ := kTrans (kAlloc (kAlloc (Below.refl _ _) _) _) b1_
      have n1_ : w.heap.size + 2 ≤ w1_.heap.size := by have := b1_.size; simpa using this
      have T1_ : Below w.heap.size w w1_ := B1_
      have S0_1_ := Lib.hid (S0_.out.below B1_)
      have S1_1_ := Lib.hid (S1_.out.below B1_)
      have A0_1_ := Lib.hid (blk_below ((Below.heap_alloc (w.alloc (.cells #[.int .i8 wd0, v0, t0] 26)) (.cells #[.int .i8 wd1, v1, t1] 26) _ (by simp)).trans (heap_alloc_new w (.cells #[.int .i8 wd0, v0, t0] 26))) b1_)
      have A1_1_ := Lib.hid (blk_below (heap_two w (.cells #[.int .i8 wd0, v0, t0] 26) (.cells #[.int .i8 wd1, v1, t1] 26)) b1_)
      clear bE S0_ S1_ b1_ B1_
      have c0_0 : w1_.cell? ⟨w.heap.size + 1, 0, none⟩ = some (.int .i8 wd1) := cell_of_row _ _ 0 _ _ _ A1_1_.out
      have c0_1 : w1_.cell? ⟨w.heap.size + 1, 1, none⟩ = some (v1) := cell_of_row _ _ 1 _ _ _ A1_1_.out
      have c0_2 : w1_.cell? ⟨w.heap.size + 1, 2, none⟩ = some (t1) := cell_of_row _ _ 2 _ _ _ A1_1_.out
      go_wp2_with fail
      refine (szN wd1 v1 t1 l1 lo1 _ S1_1_.out (1048576 - (l0.length : Int) - (lo0.length : Int)) e1 eo1 (by omega) (by omega)).mono ?_
      rw [if_neg (by omega)]
      rintro e w2_ ⟨rfl, b2_⟩
      have n2_ : w1_.heap.size ≤ w2_.heap.size := b2_.size
      have T2_ : Below w.heap.size w w2_ := kTrans T1_ b2_
      have S0_2_ := Lib.hid (S0_1_.out.below b2_)
      have S1_2_ := Lib.hid (S1_1_.out.below b2_)
      have A0_2_ := Lib.hid (blk_below A0_1_.out b2_)
      have A1_2_ := Lib.hid (blk_below A1_1_.out b2_)
      clear c0_0 c0_1 c0_2 S0_1_ S1_1_ A0_1_ A1_1_ b2_ T1_
      have c0_0 : w2_.cell? ⟨w.heap.size, 0, none⟩ = some (.int .i8 wd0) := cell_of_row _ _ 0 _ _ _ A0_2_.out
      have c0_1 : w2_.cell? ⟨w.heap.size, 1, none⟩ = some (v0) := cell_of_row _ _ 1 _ _ _ A0_2_.out
      have c0_2 : w2_.cell? ⟨w.heap.size, 2, none⟩ = some (t0) := cell_of_row _ _ 2 _ _ _ A0_2_.out
      go_wp2_with fail
      refine (toN_own wd0 v0 t0 l0 lo0 _ S0_2_.out m0 mo0).mono ?_
      rintro e w3_ ⟨kb3_, kk3_, rfl, p3_, b3_⟩
      have n3_ : w2_.heap.size ≤ w3_.heap.size := b3_.size
      have T3_ : Below w.heap.size w w3_ := kTrans T2_ b3_
      have P0s_3_ := Lib.hid p3_.pk
      clear p3_
      have S0_3_ := Lib.hid (S0_2_.out.below b3_)
      have S1_3_ := Lib.hid (S1_2_.out.below b3_)
      have A0_3_ := Lib.hid (blk_below A0_2_.out b3_)
      have A1_3_ := Lib.hid (blk_below A1_2_.out b3_)
      clear c0_0 c0_1 c0_2 S0_2_ S1_2_ A0_2_ A1_2_ b3_ T2_
      have c0_0 : w3_.cell? ⟨w.heap.size + 1, 0, none⟩ = some (.int .i8 wd1) := cell_of_row _ _ 0 _ _ _ A1_3_.out
      have c0_1 : w3_.cell? ⟨w.heap.size + 1, 1, none⟩ = some (v1) := cell_of_row _ _ 1 _ _ _ A1_3_.out
      have c0_2 : w3_.cell? ⟨w.heap.size + 1, 2, none⟩ = some (t1) := cell_of_row _ _ 2 _ _ _ A1_3_.out
      go_wp2_with fail
      refine (toN_own wd1 v1 t1 l1 lo1 _ S1_3_.out m1 mo1).mono ?_
      rintro e w4_ ⟨kb4_, kk4_, rfl, p4_, b4_⟩
      have n4_ : w3_.heap.size ≤ w4_.heap.size := b4_.size
      have T4_ : Below w.heap.size w w4_ := kTrans T3_ b4_
      have P1s_4_ := Lib.hid p4_.pk
      clear p4_
      have S0_4_ := Lib.hid (S0_3_.out.below b4_)
      have S1_4_ := Lib.hid (S1_3_.out.below b4_)
      have A0_4_ := Lib.hid (blk_below A0_3_.out b4_)
      have A1_4_ := Lib.hid (blk_below A1_3_.out b4_)
      have P0s_4_ := Lib.hid (P0s_3_.out.below b4_)
      clear c0_0 c0_1 c0_2 S0_3_ S1_3_ A0_3_ A1_3_ P0s_3_ b4_ T3_
      go_wp2_with fail
      refine (Hs.out kb3_ kk3_ kb4_ kk4_ _ P0s_4_.out P1s_4_.out).mono ?_
      rintro e w5_ ⟨rfl, b5_⟩
      have n5_ : w4_.heap.size ≤ w5_.heap.size := b5_.size
      have T5_ : Below w.heap.size w w5_ := kTrans T4_ b5_
      have S0_5_ := Lib.hid (S0_4_.out.below b5_)
      have S1_5_ := Lib.hid (S1_4_.out.below b5_)
      have A0_5_ := Lib.hid (blk_below A0_4_.out b5_)
      have A1_5_ := Lib.hid (blk_below A1_4_.out b5_)
      clear S0_4_ S1_4_ A0_4_ A1_4_ P0s_4_ P1s_4_ b5_ T4_
      have c0_0 : w5_.cell? ⟨w.heap.size, 0, none⟩ = some (.int .i8 wd0) := cell_of_row _ _ 0 _ _ _ A0_5_.out
      have c0_1 : w5_.cell? ⟨w.heap.size, 1, none⟩ = some (v0) := cell_of_row _ _ 1 _ _ _ A0_5_.out
      have c0_2 : w5_.cell? ⟨w.heap.size, 2, none⟩ = some (t0) := cell_of_row _ _ 2 _ _ _ A0_5_.out
      go_wp2_with fail
      refine (toN_own wd0 v0 t0 l0 lo0 _ S0_5_.out m0 mo0).mono ?_
      rintro e w6_ ⟨kb6_, kk6_, rfl, p6_, b6_⟩
      have n6_ : w5_.heap.size ≤ w6_.heap.size := b6_.size
      have T6_ : Below w.heap.size w w6_ := kTrans T5_ b6_
      have P0i_6_ := Lib.hid p6_.pk
      have V0_6_ := Lib.hid p6_
      clear p6_
      have S0_6_ := Lib.hid (S0_5_.out.below b6_)
      have S1_6_ := Lib.hid (S1_5_.out.below b6_)
      have A0_6_ := Lib.hid (blk_below A0_5_.out b6_)
      have A1_6_ := Lib.hid (blk_below A1_5_.out b6_)
      clear c0_0 c0_1 c0_2 S0_5_ S1_5_ A0_5_ A1_5_ b6_ T5_
      have bE : Below w6_.heap.size w6_ (w6_.alloc (.cells #[.int .i8 wd0, .slice (some ⟨kb6_, 0, none⟩) l0.length l0.length, .slice (some ⟨kk6_, 0, none⟩) lo0.length lo0.length] 31)) := (kAlloc (Below.refl _ _) _)
      have c0_0 : (w6_.alloc (.cells #[.int .i8 wd0, .slice (some ⟨kb6_, 0, none⟩) l0.length l0.length, .slice (some ⟨kk6_, 0, none⟩) lo0.length lo0.length] 31)).cell? ⟨w.heap.size + 1, 0, none⟩ = some (.int .i8 wd1) := cell_of_row _ _ 0 _ _ _ (blk_below A1_6_.out bE)
      have c0_1 : (w6_.alloc (.cells #[.int .i8 wd0, .slice (some ⟨kb6_, 0, none⟩) l0.length l0.length, .slice (some ⟨kk6_, 0, none⟩) lo0.length lo0.length] 31)).cell? ⟨w.heap.size + 1, 1, none⟩ = some (v1) := cell_of_row _ _ 1 _ _ _ (blk_below A1_6_.out bE)
      have c0_2 : (w6_.alloc (.cells #[.int .i8 wd0, .slice (some ⟨kb6_, 0, none⟩) l0.length l0.length, .slice (some ⟨kk6_, 0, none⟩) lo0.length lo0.length] 31)).cell? ⟨w.heap.size + 1, 2, none⟩ = some (t1) := cell_of_row _ _ 2 _ _ _ (blk_below A1_6_.out bE)
      go_wp2_with fail
      refine (toN_own wd1 v1 t1 l1 lo1 _ (S1_6_.out.below bE) m1 mo1).mono ?_
      rintro e w7_ ⟨kb7_, kk7_, rfl, p7_, b7_⟩
      have B7_ : Below w6_.heap.size w6_ w7_ := kTrans (kAlloc (Below.refl _ _) _) b7_
      have n7_ : w6_.heap.size + 1 ≤ w7_.heap.size := by have := b7_.size; simpa using this
      have T7_ : Below w.heap.size w w7_ := kTrans T6_ B7_
      simp only [World.size_alloc] at p7_
      have P1i_7_ := Lib.hid p7_.pk
      have V1_7_ := Lib.hid p7_
      clear p7_
      have S0_7_ := Lib.hid (S0_6_.out.below B7_)
      have S1_7_ := Lib.hid (S1_6_.out.below B7_)
      have A0_7_ := Lib.hid (blk_below A0_6_.out B7_)
      have A1_7_ := Lib.hid (blk_below A1_6_.out B7_)
      have P0i_7_ := Lib.hid (P0i_6_.out.below B7_)
      have V0_7_ := Lib.hid (V0_6_.out.below B7_)
      have X0_7_ := Lib.hid (blk_below (heap_alloc_new w6_ (.cells #[.int .i8 wd0, .slice (some ⟨kb6_, 0, none⟩) l0.length l0.length, .slice (some ⟨kk6_, 0, none⟩) lo0.length lo0.length] 31)) b7_)
      clear bE c0_0 c0_1 c0_2 S0_6_ S1_6_ A0_6_ A1_6_ P0i_6_ V0_6_ b7_ B7_ T6_
      have bE : Below w7_.heap.size w7_ (w7_.alloc (.cells #[.int .i8 wd1, .slice (some ⟨kb7_, 0, none⟩) l1.length l1.length, .slice (some ⟨kk7_, 0, none⟩) lo1.length lo1.length] 31)) := (kAlloc (Below.refl _ _) _)
      have c0_0 : (w7_.alloc (.cells #[.int .i8 wd1, .slice (some ⟨kb7_, 0, none⟩) l1.length l1.length, .slice (some ⟨kk7_, 0, none⟩) lo1.length lo1.length] 31)).cell? ⟨w6_.heap.size, 0, none⟩ = some (.int .i8 wd0) := cell_of_row _ _ 0 _ _ _ (blk_below X0_7_.out bE)
      have c0_1 : (w7_.alloc (.cells #[.int .i8 wd1, .slice (some ⟨kb7_, 0, none⟩) l1.length l1.length, .slice (some ⟨kk7_, 0, none⟩) lo1.length lo1.length] 31)).cell? ⟨w6_.heap.size, 1, none⟩ = some (.slice (some ⟨kb6_, 0, none⟩) l0.length l0.length) := cell_of_row _ _ 1 _ _ _ (blk_below X0_7_.out bE)
      have c0_2 : (w7_.alloc (.cells #[.int .i8 wd1, .slice (some ⟨kb7_, 0, none⟩) l1.length l1.length, .slice (some ⟨kk7_, 0, none⟩) lo1.length lo1.length] 31)).cell? ⟨w6_.heap.size, 2, none⟩ = some (.slice (some ⟨kk6_, 0, none⟩) lo0.length lo0.length) := cell_of_row _ _ 2 _ _ _ (blk_below X0_7_.out bE)
      go_wp2_with fail
      refine (Hi.out kb6_ kk6_ kb7_ kk7_ _ (P0i_7_.out.below bE) (P1i_7_.out.below bE)).mono ?_
      rintro e w8_ ⟨rfl, b8_⟩
      have B8_ : Below w7_.heap.size w7_ w8_ := kTrans (kAlloc (Below.refl _ _) _) b8_
      have n8_ : w7_.heap.size + 1 ≤ w8_.heap.size := by have := b8_.size; simpa using this
      have T8_ : Below w.heap.size w w8_ := kTrans T7_ B8_
      have S0_8_ := Lib.hid (S0_7_.out.below B8_)
      have S1_8_ := Lib.hid (S1_7_.out.below B8_)
      have A0_8_ := Lib.hid (blk_below A0_7_.out B8_)
      have A1_8_ := Lib.hid (blk_below A1_7_.out B8_)
      have V0_8_ := Lib.hid (V0_7_.out.below B8_)
      have V1_8_ := Lib.hid (V1_7_.out.below B8_)
      have X0_8_ := Lib.hid (blk_below X0_7_.out B8_)
      have X1_8_ := Lib.hid (blk_below (heap_alloc_new w7_ (.cells #[.int .i8 wd1, .slice (some ⟨kb7_, 0, none⟩) l1.length l1.length, .slice (some ⟨kk7_, 0, none⟩) lo1.length lo1.length] 31)) b8_)
      clear bE c0_0 c0_1 c0_2 S0_7_ S1_7_ A0_7_ A1_7_ P0i_7_ V0_7_ P1i_7_ V1_7_ X0_7_ b8_ B8_ T7_
      have c0_0 : w8_.cell? ⟨w.heap.size, 0, none⟩ = some (.int .i8 wd0) := cell_of_row _ _ 0 _ _ _ A0_8_.out
      have c0_1 : w8_.cell? ⟨w.heap.size, 1, none⟩ = some (v0) := cell_of_row _ _ 1 _ _ _ A0_8_.out
      have c0_2 : w8_.cell? ⟨w.heap.size, 2, none⟩ = some (t0) := cell_of_row _ _ 2 _ _ _ A0_8_.out
      have c1_0 : w8_.cell? ⟨w6_.heap.size, 0, none⟩ = some (.int .i8 wd0) := cell_of_row _ _ 0 _ _ _ X0_8_.out
      have c1_1 : w8_.cell? ⟨w6_.heap.size, 1, none⟩ = some (.slice (some ⟨kb6_, 0, none⟩) l0.length l0.length) := cell_of_row _ _ 1 _ _ _ X0_8_.out
      have c1_2 : w8_.cell? ⟨w6_.heap.size, 2, none⟩ = some (.slice (some ⟨kk6_, 0, none⟩) lo0.length lo0.length) := cell_of_row _ _ 2 _ _ _ X0_8_.out
      have la_ : w.heap.size < w8_.heap.size := blk_lt A0_8_.out
      have lx_ : w6_.heap.size < w8_.heap.size := blk_lt X0_8_.out
      go_wp2_with fail
      go_region_held3 (fun w' => w'.cell? ⟨w.heap.size, 0, none⟩ = some (.int .i8 wd0) ∧ w'.cell? ⟨w.heap.size, 1, none⟩ = some (v0) ∧ w'.cell? ⟨w.heap.size, 2, none⟩ = some (t0) ∧ w'.cell? ⟨w6_.heap.size, 0, none⟩ = some (.int .i8 wd0) ∧ w'.cell? ⟨w6_.heap.size, 1, none⟩ = some (.slice (some ⟨kb6_, 0, none⟩) l0.length l0.length) ∧ w'.cell? ⟨w6_.heap.size, 2, none⟩ = some (.slice (some ⟨kk6_, 0, none⟩) lo0.length lo0.length)) (go_keep)
        (first
        | (go_at_call 16
           refine (eqN wd0 _ _ _ _ l0 lo0 _ (V0_8_.out.below (kTrans (Below.drew (Below.refl _ _)) b9_)).pk p9_.pk a0 ao0 m0 mo0).mono ?_
           rintro e w10_ ⟨rfl, b10_⟩
           have c0_0 := (b10_.cell (p := ⟨w.heap.size, 0, none⟩) (Nat.lt_of_lt_of_le la_ b9_.size)).trans c0_0
           have c0_1 := (b10_.cell (p := ⟨w.heap.size, 1, none⟩) (Nat.lt_of_lt_of_le la_ b9_.size)).trans c0_1
           have c0_2 := (b10_.cell (p := ⟨w.heap.size, 2, none⟩) (Nat.lt_of_lt_of_le la_ b9_.size)).trans c0_2
           have c1_0 := (b10_.cell (p := ⟨w6_.heap.size, 0, none⟩) (Nat.lt_of_lt_of_le lx_ b9_.size)).trans c1_0
           have c1_1 := (b10_.cell (p := ⟨w6_.heap.size, 1, none⟩) (Nat.lt_of_lt_of_le lx_ b9_.size)).trans c1_1
           have c1_2 := (b10_.cell (p := ⟨w6_.heap.size, 2, none⟩) (Nat.lt_of_lt_of_le lx_ b9_.size)).trans c1_2)
        | (go_at_call 14
           refine (toN_own wd0 v0 t0 l0 lo0 _ (S0_8_.out.below (Below.drew (Below.refl _ _))) m0 mo0).mono ?_
           rintro e w9_ ⟨kb9_, kk9_, rfl, p9_, b9_⟩
           have c0_0 := (b9_.cell (p := ⟨w.heap.size, 0, none⟩) la_).trans c0_0
           have c0_1 := (b9_.cell (p := ⟨w.heap.size, 1, none⟩) la_).trans c0_1
           have c0_2 := (b9_.cell (p := ⟨w.heap.size, 2, none⟩) la_).trans c0_2
           have c1_0 := (b9_.cell (p := ⟨w6_.heap.size, 0, none⟩) lx_).trans c1_0
           have c1_1 := (b9_.cell (p := ⟨w6_.heap.size, 1, none⟩) lx_).trans c1_1
           have c1_2 := (b9_.cell (p := ⟨w6_.heap.size, 2, none⟩) lx_).trans c1_2))
      have bb_ : Below w8_.heap.size w8_ w10_ := kTrans (kTrans (Below.drew (Below.refl _ _)) b9_) b10_
      clear b9_ b10_ p9_ la_ lx_
      have n10_ : w8_.heap.size ≤ w10_.heap.size := bb_.size
      have T10_ : Below w.heap.size w w10_ := kTrans T8_ bb_
      have S0_10_ := Lib.hid (S0_8_.out.below bb_)
      have S1_10_ := Lib.hid (S1_8_.out.below bb_)
      have A0_10_ := Lib.hid (blk_below A0_8_.out bb_)
      have A1_10_ := Lib.hid (blk_below A1_8_.out bb_)
      have V0_10_ := Lib.hid (V0_8_.out.below bb_)
      have V1_10_ := Lib.hid (V1_8_.out.below bb_)
      have X0_10_ := Lib.hid (blk_below X0_8_.out bb_)
      have X1_10_ := Lib.hid (blk_below X1_8_.out bb_)
      clear c0_0 c0_1 c0_2 c1_0 c1_1 c1_2 S0_8_ S1_8_ A0_8_ A1_8_ V0_8_ V1_8_ X0_8_ X1_8_ bb_ T8_
      have c0_0 : w10_.cell? ⟨w.heap.size + 1, 0, none⟩ = some (.int .i8 wd1) := cell_of_row _ _ 0 _ _ _ A1_10_.out
      have c0_1 : w10_.cell? ⟨w.heap.size + 1, 1, none⟩ = some (v1) := cell_of_row _ _ 1 _ _ _ A1_10_.out
      have c0_2 : w10_.cell? ⟨w.heap.size + 1, 2, none⟩ = some (t1) := cell_of_row _ _ 2 _ _ _ A1_10_.out
      have c1_0 : w10_.cell? ⟨w7_.heap.size, 0, none⟩ = some (.int .i8 wd1) := cell_of_row _ _ 0 _ _ _ X1_10_.out
      have c1_1 : w10_.cell? ⟨w7_.heap.size, 1, none⟩ = some (.slice (some ⟨kb7_, 0, none⟩) l1.length l1.length) := cell_of_row _ _ 1 _ _ _ X1_10_.out
      have c1_2 : w10_.cell? ⟨w7_.heap.size, 2, none⟩ = some (.slice (some ⟨kk7_, 0, none⟩) lo1.length lo1.length) := cell_of_row _ _ 2 _ _ _ X1_10_.out
      have la_ : w.heap.size + 1 < w10_.heap.size := blk_lt A1_10_.out
      have lx_ : w7_.heap.size < w10_.heap.size := blk_lt X1_10_.out
      go_wp2_with fail
      go_region_held3 (fun w' => w'.cell? ⟨w.heap.size + 1, 0, none⟩ = some (.int .i8 wd1) ∧ w'.cell? ⟨w.heap.size + 1, 1, none⟩ = some (v1) ∧ w'.cell? ⟨w.heap.size + 1, 2, none⟩ = some (t1) ∧ w'.cell? ⟨w7_.heap.size, 0, none⟩ = some (.int .i8 wd1) ∧ w'.cell? ⟨w7_.heap.size, 1, none⟩ = some (.slice (some ⟨kb7_, 0, none⟩) l1.length l1.length) ∧ w'.cell? ⟨w7_.heap.size, 2, none⟩ = some (.slice (some ⟨kk7_, 0, none⟩) lo1.length lo1.length)) (go_keep)
        (first
        | (go_at_call 16
           refine (eqN wd1 _ _ _ _ l1 lo1 _ (V1_10_.out.below (kTrans (Below.drew (Below.refl _ _)) b11_)).pk p11_.pk a1 ao1 m1 mo1).mono ?_
           rintro e w12_ ⟨rfl, b12_⟩
           have c0_0 := (b12_.cell (p := ⟨w.heap.size + 1, 0, none⟩) (Nat.lt_of_lt_of_le la_ b11_.size)).trans c0_0
           have c0_1 := (b12_.cell (p := ⟨w.heap.size + 1, 1, none⟩) (Nat.lt_of_lt_of_le la_ b11_.size)).trans c0_1
           have c0_2 := (b12_.cell (p := ⟨w.heap.size + 1, 2, none⟩) (Nat.lt_of_lt_of_le la_ b11_.size)).trans c0_2
           have c1_0 := (b12_.cell (p := ⟨w7_.heap.size, 0, none⟩) (Nat.lt_of_lt_of_le lx_ b11_.size)).trans c1_0
           have c1_1 := (b12_.cell (p := ⟨w7_.heap.size, 1, none⟩) (Nat.lt_of_lt_of_le lx_ b11_.size)).trans c1_1
           have c1_2 := (b12_.cell (p := ⟨w7_.heap.size, 2, none⟩) (Nat.lt_of_lt_of_le lx_ b11_.size)).trans c1_2)
        | (go_at_call 14
           refine (toN_own wd1 v1 t1 l1 lo1 _ (S1_10_.out.below (Below.drew (Below.refl _ _))) m1 mo1).mono ?_
           rintro e w11_ ⟨kb11_, kk11_, rfl, p11_, b11_⟩
           have c0_0 := (b11_.cell (p := ⟨w.heap.size + 1, 0, none⟩) la_).trans c0_0
           have c0_1 := (b11_.cell (p := ⟨w.heap.size + 1, 1, none⟩) la_).trans c0_1
           have c0_2 := (b11_.cell (p := ⟨w.heap.size + 1, 2, none⟩) la_).trans c0_2
           have c1_0 := (b11_.cell (p := ⟨w7_.heap.size, 0, none⟩) lx_).trans c1_0
           have c1_1 := (b11_.cell (p := ⟨w7_.heap.size, 1, none⟩) lx_).trans c1_1
           have c1_2 := (b11_.cell (p := ⟨w7_.heap.size, 2, none⟩) lx_).trans c1_2))
      have bb_ : Below w10_.heap.size w10_ w12_ := kTrans (kTrans (Below.drew (Below.refl _ _)) b11_) b12_
      clear b11_ b12_ p11_ la_ lx_
      have n12_ : w10_.heap.size ≤ w12_.heap.size := bb_.size
      have T12_ : Below w.heap.size w w12_ := kTrans T10_ bb_
      have S0_12_ := Lib.hid (S0_10_.out.below bb_)
      have S1_12_ := Lib.hid (S1_10_.out.below bb_)
      have A0_12_ := Lib.hid (blk_below A0_10_.out bb_)
      have A1_12_ := Lib.hid (blk_below A1_10_.out bb_)
      have V0_12_ := Lib.hid (V0_10_.out.below bb_)
      have V1_12_ := Lib.hid (V1_10_.out.below bb_)
      have X0_12_ := Lib.hid (blk_below X0_10_.out bb_)
      have X1_12_ := Lib.hid (blk_below X1_10_.out bb_)
      clear c0_0 c0_1 c0_2 c1_0 c1_1 c1_2 S0_10_ S1_10_ A0_10_ A1_10_ V0_10_ V1_10_ X0_10_ X1_10_ bb_ T10_
      go_wp2
      go_ret
      exact ⟨rfl, T12_⟩

set_option maxRecDepth 100000 in
theorem lifted (os : Os) (started : os.Started) (H : Type) (enc : TypeId × Value → H) :
    ReturnsInHanded {} Try.checked os 4 .any (Rows.fnExactSameNetworkSpec.pre6 enc Try.prog Try.f4 Rows.fnExactSameNetworkRow.domain false) (Rows.fnExactSameNetworkSpec.post enc Try.prog Try.f4 false true false false) := by
  refine returnsInHanded_of_change (C := Try.checked) own started (by kernel_rfl) Try.func4
    (ChangeSpec.witness6 (enc := enc) (C := Try.checked) false ⟨#[], #[.agg #[.int .i8 0, .slice none 0 0, .slice none 0 0], .agg #[.int .i8 0, .slice none 0 0, .slice none 0 0]], []⟩ 8 (by kernel_rfl) (by kernel_rfl) (by kernel_rfl) (by kernel_rfl)) ?_
  intro W base args ds gs before hval0 hW hcnd _
  have hval : ∀ (j : Nat) t v, Try.f4.params[j]? = some t → args[j]? = some v → Value.okWide Try.prog W .any base t v := hval0
  have hW' := hW
  obtain ⟨p, q, hA0, hV, rfl, hfz, hnd⟩ := hW
  have hA : DataW.TrodAll enc Try.prog W 0 (fun _ => true) true Try.f4.params.toList args.toList ds p := hA0
  rw [Try.params4] at hA hval
  have r_ := hA
  obtain ⟨v0, vs0, d0, ds0, pp0, qq0, hargs0, hds0, _, h0, r_⟩ := trodAll_cons r_
  obtain ⟨v1, vs1, d1, ds1, pp1, qq1, hargs1, hds1, _, h1, r_⟩ := trodAll_cons r_
  obtain ⟨hv_, hd_, _⟩ := trodAll_nil r_
  subst hv_ hd_
  subst hargs1 hds1
  obtain rfl : args = #[v0, v1] := by cases args; simp_all
  subst hds0
  obtain ⟨f0_, f1_, f2_, e1_, e2_, e3_, e4_, e5_, e6_⟩ := network_struct
  obtain ⟨wd0, s0, t0, l0, lo0, rfl, bw0, sl0, al0, le0, sp0, ap0, lp0⟩ := open_network e1_ e2_ e3_ e4_ e5_ e6_ Nd_cells Nd_flat Sh_cells Sh_flat (hval 0 26 v0 rfl rfl) h0
  obtain ⟨f0_, f1_, f2_, e1_, e2_, e3_, e4_, e5_, e6_⟩ := network_struct
  obtain ⟨wd1, s1, t1, l1, lo1, rfl, bw1, sl1, al1, le1, sp1, ap1, lp1⟩ := open_network e1_ e2_ e3_ e4_ e5_ e6_ Nd_cells Nd_flat Sh_cells Sh_flat (hval 1 26 v1 rfl rfl) h1
  refine (walk (w := W) wd0 s0 t0 l0 lo0 bw0 sl0 al0 le0 sp0 ap0 lp0 wd1 s1 t1 l1 lo1 bw1 sl1 al1 le1 sp1 ap1 lp1).mono fun e W' ⟨he, hg⟩ => ?_
  subst he
  exact ⟨_, rfl, law_post kids full Try.underlying4 (by decide) rfl rfl rfl hW' hg⟩

theorem over : Rows.fnExactSameNetworkRow.holds Try.pinned (OpenSpec.ofChange Rows.fnExactSameNetworkSpec) :=
  OpenClaim.holds_of_wide 4 Try.f4 rfl rfl rfl rfl rfl rfl rfl ⟨rfl, rfl, rfl, rfl, rfl⟩ rfl rfl rfl rfl rfl (by kernel_rfl) Try.func4 (by kernel_rfl)
    (of_decide_eq_true (by kernel_rfl)) (by unfold Func.isWrapper; first | (rw [if_pos (by decide +kernel)]; kernel_rfl) | (rw [if_neg (by decide +kernel)]; exact ⟨rfl, rfl⟩))
    (fun os started H enc _ => lifted os started H enc)

/-- The statement. -/
theorem proved : Rows.FnExactSameNetworkSaid :=
  over
#print axioms proved
end Go.Proofs.Ytlbnhdnmcnfgdaa.SameNetwork
