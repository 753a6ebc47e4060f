/- 'ValidSpans' answers as its model at every argument. No conditions. -/
import Derived.Test.YtbnogkkaldamdaaVs
import Derived.Test.YtbnogkkaldamdaaSqk
import Derived.Deep.RegionHeld3
import Derived.Deep.DeepCutAuto
namespace Go.Proofs.Ytbnogkkaldamdaa.ValidSpans
open Go.ChangeShapes Go.WideShapes Go.ChangeAt Go.RowKit
set_option linter.unusedVariables false

set_option maxRecDepth 100000 in
set_option maxHeartbeats 16000000 in
theorem walk {w : World} (wd0 hi0 : Int) (v0 : Value) (l0 : List Pc) (bw0 : i8 wd0) (bh0 : i8 hi0) (s0 : Sl w l0 v0) (a0 : All8 l0) (e0 : l0.length ≤ 9223372036854775807) (v1 : Value) (l1 : List Sq) (s1 : SlSq w l1 v1) (a1 : SqsWf l1) (e1 : l1.length ≤ maxLen) :
    Calls Try.prog 3 #[.agg #[.int .i8 wd0, .int .i8 hi0, v0], v1] w fun e w' => e = .returned (.bool true) ∧ Below w.heap.size w w' := by
  unfold maxLen at e1
  have S0_ := Lib.hid (SlO.start s0)
  have S1_ := Lib.hid (SlOSq.start s1)
  clear s0 s1
  by_cases h0 : 1048576 - (l0.length : Int) < 0
  · skip
    have bE : Below w.heap.size w (w.alloc (.cells #[.int .i8 wd0, .int .i8 hi0, v0] 25)) := (kAlloc (Below.refl _ _) _)
    go_enter Try.func3, Try.ntmps3
    go_wp2_with fail
    refine (szBoard_any wd0 hi0 v0 l0 _ (S0_.out.below bE).sl (1048576) e0 (by omega) (by omega)).mono ?_
    rw [if_pos (by omega)]
    rintro e w1_ ⟨rfl, b1_⟩
    have B1_ : Below w.heap.size w w1_ := kTrans (kAlloc (Below.refl _ _) _) b1_
    have n1_ : w.heap.size + 1 ≤ w1_.heap.size := by have := b1_.size; simpa using this
    have T1_ : Below w.heap.size w w1_ := B1_
    have S0_1_ := Lib.hid (S0_.out.below B1_)
    have S1_1_ := Lib.hid (S1_.out.below B1_)
    have A0_1_ := Lib.hid (blk_below (heap_alloc_new w (.cells #[.int .i8 wd0, .int .i8 hi0, v0] 25)) b1_)
    clear bE S0_ S1_ b1_ B1_
    go_wp2
    go_ret
    exact ⟨rfl, T1_⟩
  · skip
    have h0' : ¬ 1048576 < (l0.length : Int) := by omega
    by_cases h1 : 1048576 - (l0.length : Int) - (l1.length : Int) < 0
    · skip
      have bE : Below w.heap.size w (w.alloc (.cells #[.int .i8 wd0, .int .i8 hi0, v0] 25)) := (kAlloc (Below.refl _ _) _)
      go_enter Try.func3, Try.ntmps3
      go_wp2_with fail
      refine (szBoard_any wd0 hi0 v0 l0 _ (S0_.out.below bE).sl (1048576) e0 (by omega) (by omega)).mono ?_
      rw [if_neg (by omega)]
      rintro e w1_ ⟨rfl, b1_⟩
      have B1_ : Below w.heap.size w w1_ := kTrans (kAlloc (Below.refl _ _) _) b1_
      have n1_ : w.heap.size + 1 ≤ w1_.heap.size := by have := b1_.size; simpa using this
      have T1_ : Below w.heap.size w w1_ := B1_
      have S0_1_ := Lib.hid (S0_.out.below B1_)
      have S1_1_ := Lib.hid (S1_.out.below B1_)
      have A0_1_ := Lib.hid (blk_below (heap_alloc_new w (.cells #[.int .i8 wd0, .int .i8 hi0, v0] 25)) b1_)
      clear bE S0_ S1_ b1_ B1_
      go_wp2_with fail
      refine (szSpanS_any v1 l1 _ S1_1_.out.sl (1048576 - (l0.length : Int)) (by omega) (by omega) (by omega)).mono ?_
      rw [if_pos (by omega)]
      rintro e w' ⟨rfl, rfl⟩
      go_wp2
      go_ret
      exact ⟨rfl, T1_⟩
    · skip
      have h1' : ¬ 1048576 - (l0.length : Int) < (l1.length : Int) := by omega
      have m0 : l0.length ≤ 1048576 := by omega
      have q0 : (5 : Int) * l0.length ≤ 5242880 := by omega
      have m1 : l1.length ≤ 1048576 := by omega
      have q1 : (2 : Int) * l1.length ≤ 2097152 := by omega
      obtain ⟨Rb, hRb⟩ : ∃ Rb, Rb = boardOk wd0 hi0 l0 := ⟨_, rfl⟩
      obtain ⟨Rs, hRs⟩ : ∃ Rs, spansB l1 = Rs := ⟨_, rfl⟩
      obtain ⟨R, hR⟩ : ∃ R, (Rb && (decide (l1.length = l0.length) && Rs)) = R := ⟨_, rfl⟩
      have Hs := Lib.hid (fun b0 b1 w2 hp0 hb0 hp1 hb1 => specValidSpans_any b0 _ _ wd0 hi0 l0 b1 _ l1 w2 rfl hp0 hb0 (Nat.le_refl _) a0 bw0 bh0 m0 rfl hp1 hb1 a1 m1 Rb Rs R hRb hRs hR)
      have Hi := Lib.hid (fun b0 b1 w2 hp0 hb0 hp1 hb1 => implValidSpans_any b0 _ _ wd0 hi0 l0 b1 _ l1 w2 rfl hp0 hb0 (Nat.le_refl _) a0 bw0 bh0 m0 rfl hp1 hb1 a1 m1 Rb Rs R hRb hRs hR)
      clear hRb hRs hR
      have bE : Below w.heap.size w (w.alloc (.cells #[.int .i8 wd0, .int .i8 hi0, v0] 25)) := (kAlloc (Below.refl _ _) _)
      go_enter Try.func3, Try.ntmps3
      go_wp2_with fail
      refine (szBoard_any wd0 hi0 v0 l0 _ (S0_.out.below bE).sl (1048576) e0 (by omega) (by omega)).mono ?_
      rw [if_neg (by omega)]
      rintro e w1_ ⟨rfl, b1_⟩
      have B1_ : Below w.heap.size w w1_ := kTrans (kAlloc (Below.refl _ _) _) b1_
      have n1_ : w.heap.size + 1 ≤ w1_.heap.size := by have := b1_.size; simpa using this
      have T1_ : Below w.heap.size w w1_ := B1_
      have S0_1_ := Lib.hid (S0_.out.below B1_)
      have S1_1_ := Lib.hid (S1_.out.below B1_)
      have A0_1_ := Lib.hid (blk_below (heap_alloc_new w (.cells #[.int .i8 wd0, .int .i8 hi0, v0] 25)) b1_)
      clear bE S0_ S1_ b1_ B1_
      go_wp2_with fail
      refine (szSpanS_any v1 l1 _ S1_1_.out.sl (1048576 - (l0.length : Int)) (by omega) (by omega) (by omega)).mono ?_
      rw [if_neg (by omega)]
      rintro e w' ⟨rfl, rfl⟩
      have c0_0 : w1_.cell? ⟨w.heap.size, 0, none⟩ = some (.int .i8 wd0) := cell_of_row _ _ 0 _ _ _ A0_1_.out
      have c0_1 : w1_.cell? ⟨w.heap.size, 1, none⟩ = some (.int .i8 hi0) := cell_of_row _ _ 1 _ _ _ A0_1_.out
      have c0_2 : w1_.cell? ⟨w.heap.size, 2, none⟩ = some (v0) := cell_of_row _ _ 2 _ _ _ A0_1_.out
      go_wp2_with fail
      refine (toBoard_any wd0 hi0 v0 l0 _ S0_1_.out.sl m0).mono ?_
      rintro e w2_ ⟨k2_, rfl, y2_, z2_, p2_, b2_⟩
      have n2_ : w1_.heap.size ≤ w2_.heap.size := b2_.size
      have T2_ : Below w.heap.size w w2_ := kTrans T1_ b2_
      have P0s_2_ := Lib.hid p2_
      clear p2_ y2_
      have S0_2_ := Lib.hid (S0_1_.out.below b2_)
      have S1_2_ := Lib.hid (S1_1_.out.below b2_)
      have A0_2_ := Lib.hid (blk_below A0_1_.out b2_)
      clear c0_0 c0_1 c0_2 S0_1_ S1_1_ A0_1_ b2_ T1_
      go_wp2_with fail
      refine (toSpanS_any v1 l1 _ S1_2_.out.sl m1).mono ?_
      rintro e w3_ ⟨rfl, p3_, z3_, f3_, b3_⟩
      have n3_ : w2_.heap.size ≤ w3_.heap.size := b3_.size
      have T3_ : Below w.heap.size w w3_ := kTrans T2_ b3_
      have P1s_3_ := Lib.hid p3_
      clear p3_ f3_
      have S0_3_ := Lib.hid (S0_2_.out.below b3_)
      have S1_3_ := Lib.hid (S1_2_.out.below b3_)
      have A0_3_ := Lib.hid (blk_below A0_2_.out b3_)
      have P0s_3_ := Lib.hid (P0s_2_.out.below b3_ (by omega))
      clear S0_2_ S1_2_ A0_2_ P0s_2_ b3_ T2_
      go_wp2_with fail
      refine (Hs.out k2_ (w2_.heap.size) _ P0s_3_.out (by omega) P1s_3_.out (by omega)).mono ?_
      rintro e w4_ ⟨rfl, b4_⟩
      have n4_ : w3_.heap.size ≤ w4_.heap.size := b4_.size
      have T4_ : Below w.heap.size w w4_ := kTrans T3_ b4_
      have S0_4_ := Lib.hid (S0_3_.out.below b4_)
      have S1_4_ := Lib.hid (S1_3_.out.below b4_)
      have A0_4_ := Lib.hid (blk_below A0_3_.out b4_)
      clear S0_3_ S1_3_ A0_3_ P0s_3_ P1s_3_ b4_ T3_
      have c0_0 : w4_.cell? ⟨w.heap.size, 0, none⟩ = some (.int .i8 wd0) := cell_of_row _ _ 0 _ _ _ A0_4_.out
      have c0_1 : w4_.cell? ⟨w.heap.size, 1, none⟩ = some (.int .i8 hi0) := cell_of_row _ _ 1 _ _ _ A0_4_.out
      have c0_2 : w4_.cell? ⟨w.heap.size, 2, none⟩ = some (v0) := cell_of_row _ _ 2 _ _ _ A0_4_.out
      go_wp2_with fail
      refine (toBoard_own wd0 hi0 v0 l0 _ S0_4_.out.sl m0).mono ?_
      rintro e w5_ ⟨k5_, rfl, vx5_, z5_, p5_, y5_, b5_⟩
      have n5_ : w4_.heap.size ≤ w5_.heap.size := b5_.size
      have T5_ : Below w.heap.size w w5_ := kTrans T4_ b5_
      have P0i_5_ := Lib.hid p5_
      have V0_5_ := Lib.hid vx5_
      clear p5_ vx5_ y5_
      have S0_5_ := Lib.hid (S0_4_.out.below b5_)
      have S1_5_ := Lib.hid (S1_4_.out.below b5_)
      have A0_5_ := Lib.hid (blk_below A0_4_.out b5_)
      clear c0_0 c0_1 c0_2 S0_4_ S1_4_ A0_4_ b5_ T4_
      have bE : Below w5_.heap.size w5_ (w5_.alloc (.cells #[.int .i8 wd0, .int .i8 hi0, .slice (some ⟨k5_, 0, none⟩) l0.length l0.length] 32)) := (kAlloc (Below.refl _ _) _)
      go_wp2_with fail
      refine (toSpanS_any v1 l1 _ (S1_5_.out.below bE).sl m1).mono ?_
      rintro e w6_ ⟨rfl, p6_, z6_, f6_, b6_⟩
      have B6_ : Below w5_.heap.size w5_ w6_ := kTrans (kAlloc (Below.refl _ _) _) b6_
      have n6_ : w5_.heap.size + 1 ≤ w6_.heap.size := by have := b6_.size; simpa using this
      have T6_ : Below w.heap.size w w6_ := kTrans T5_ B6_
      simp only [World.size_alloc] at p6_ z6_ f6_
      have P1i_6_ := Lib.hid p6_
      have V1_6_ := Lib.hid (SlWSq.mk (lo := w5_.heap.size + 1) (hi := w6_.heap.size) (w5_.heap.size + 1) 0 l1.length p6_ (Nat.le_refl _) z6_ z6_ f6_ (Nat.le_refl _))
      clear p6_ f6_
      have S0_6_ := Lib.hid (S0_5_.out.below B6_)
      have S1_6_ := Lib.hid (S1_5_.out.below B6_)
      have A0_6_ := Lib.hid (blk_below A0_5_.out B6_)
      have P0i_6_ := Lib.hid (P0i_5_.out.below B6_ (by omega))
      have V0_6_ := Lib.hid (V0_5_.out.below B6_)
      have X0_6_ := Lib.hid (blk_below (heap_alloc_new w5_ (.cells #[.int .i8 wd0, .int .i8 hi0, .slice (some ⟨k5_, 0, none⟩) l0.length l0.length] 32)) b6_)
      clear bE S0_5_ S1_5_ A0_5_ P0i_5_ V0_5_ b6_ B6_ T5_
      have c0_0 : w6_.cell? ⟨w5_.heap.size, 0, none⟩ = some (.int .i8 wd0) := cell_of_row _ _ 0 _ _ _ X0_6_.out
      have c0_1 : w6_.cell? ⟨w5_.heap.size, 1, none⟩ = some (.int .i8 hi0) := cell_of_row _ _ 1 _ _ _ X0_6_.out
      have c0_2 : w6_.cell? ⟨w5_.heap.size, 2, none⟩ = some (.slice (some ⟨k5_, 0, none⟩) l0.length l0.length) := cell_of_row _ _ 2 _ _ _ X0_6_.out
      go_wp2_with fail
      refine (Hi.out k5_ (w5_.heap.size + 1) _ P0i_6_.out (by omega) P1i_6_.out (by omega)).mono ?_
      rintro e w7_ ⟨rfl, b7_⟩
      have n7_ : w6_.heap.size ≤ w7_.heap.size := b7_.size
      have T7_ : Below w.heap.size w w7_ := kTrans T6_ b7_
      have S0_7_ := Lib.hid (S0_6_.out.below b7_)
      have S1_7_ := Lib.hid (S1_6_.out.below b7_)
      have A0_7_ := Lib.hid (blk_below A0_6_.out b7_)
      have V0_7_ := Lib.hid (V0_6_.out.below b7_)
      have V1_7_ := Lib.hid (V1_6_.out.below b7_)
      have X0_7_ := Lib.hid (blk_below X0_6_.out b7_)
      clear c0_0 c0_1 c0_2 S0_6_ S1_6_ A0_6_ P0i_6_ V0_6_ P1i_6_ V1_6_ X0_6_ b7_ T6_
      have c0_0 : w7_.cell? ⟨w.heap.size, 0, none⟩ = some (.int .i8 wd0) := cell_of_row _ _ 0 _ _ _ A0_7_.out
      have c0_1 : w7_.cell? ⟨w.heap.size, 1, none⟩ = some (.int .i8 hi0) := cell_of_row _ _ 1 _ _ _ A0_7_.out
      have c0_2 : w7_.cell? ⟨w.heap.size, 2, none⟩ = some (v0) := cell_of_row _ _ 2 _ _ _ A0_7_.out
      have c1_0 : w7_.cell? ⟨w5_.heap.size, 0, none⟩ = some (.int .i8 wd0) := cell_of_row _ _ 0 _ _ _ X0_7_.out
      have c1_1 : w7_.cell? ⟨w5_.heap.size, 1, none⟩ = some (.int .i8 hi0) := cell_of_row _ _ 1 _ _ _ X0_7_.out
      have c1_2 : w7_.cell? ⟨w5_.heap.size, 2, none⟩ = some (.slice (some ⟨k5_, 0, none⟩) l0.length l0.length) := cell_of_row _ _ 2 _ _ _ X0_7_.out
      have la_ : w.heap.size < w7_.heap.size := blk_lt A0_7_.out
      have lx_ : w5_.heap.size < w7_.heap.size := blk_lt X0_7_.out
      go_wp2_with fail
      go_region_held3 (fun w' => w'.cell? ⟨w.heap.size, 0, none⟩ = some (.int .i8 wd0) ∧ w'.cell? ⟨w.heap.size, 1, none⟩ = some (.int .i8 hi0) ∧ w'.cell? ⟨w.heap.size, 2, none⟩ = some (v0) ∧ w'.cell? ⟨w5_.heap.size, 0, none⟩ = some (.int .i8 wd0) ∧ w'.cell? ⟨w5_.heap.size, 1, none⟩ = some (.int .i8 hi0) ∧ w'.cell? ⟨w5_.heap.size, 2, none⟩ = some (.slice (some ⟨k5_, 0, none⟩) l0.length l0.length)) (go_keep)
        (first
        | (go_at_call 15
           refine (eqBoard_any wd0 hi0 _ _ l0 _ (V0_7_.out.below (kTrans (Below.drew (Below.refl _ _)) b8_)).sl (Sl.mk k8_ 0 _ p8_ z8_ (Nat.le_refl _)) a0 m0).mono ?_
           rintro e w9_ ⟨rfl, b9_⟩
           have c0_0 := (b9_.cell (p := ⟨w.heap.size, 0, none⟩) (Nat.lt_of_lt_of_le la_ b8_.size)).trans c0_0
           have c0_1 := (b9_.cell (p := ⟨w.heap.size, 1, none⟩) (Nat.lt_of_lt_of_le la_ b8_.size)).trans c0_1
           have c0_2 := (b9_.cell (p := ⟨w.heap.size, 2, none⟩) (Nat.lt_of_lt_of_le la_ b8_.size)).trans c0_2
           have c1_0 := (b9_.cell (p := ⟨w5_.heap.size, 0, none⟩) (Nat.lt_of_lt_of_le lx_ b8_.size)).trans c1_0
           have c1_1 := (b9_.cell (p := ⟨w5_.heap.size, 1, none⟩) (Nat.lt_of_lt_of_le lx_ b8_.size)).trans c1_1
           have c1_2 := (b9_.cell (p := ⟨w5_.heap.size, 2, none⟩) (Nat.lt_of_lt_of_le lx_ b8_.size)).trans c1_2)
        | (go_at_call 12
           refine (toBoard_any wd0 hi0 v0 l0 _ (S0_7_.out.below (Below.drew (Below.refl _ _))).sl m0).mono ?_
           rintro e w8_ ⟨k8_, rfl, y8_, z8_, p8_, b8_⟩
           have c0_0 := (b8_.cell (p := ⟨w.heap.size, 0, none⟩) la_).trans c0_0
           have c0_1 := (b8_.cell (p := ⟨w.heap.size, 1, none⟩) la_).trans c0_1
           have c0_2 := (b8_.cell (p := ⟨w.heap.size, 2, none⟩) la_).trans c0_2
           have c1_0 := (b8_.cell (p := ⟨w5_.heap.size, 0, none⟩) lx_).trans c1_0
           have c1_1 := (b8_.cell (p := ⟨w5_.heap.size, 1, none⟩) lx_).trans c1_1
           have c1_2 := (b8_.cell (p := ⟨w5_.heap.size, 2, none⟩) lx_).trans c1_2))
      have bb_ : Below w7_.heap.size w7_ w9_ := kTrans (kTrans (Below.drew (Below.refl _ _)) b8_) b9_
      clear b8_ b9_ y8_ z8_ p8_ la_ lx_
      have n9_ : w7_.heap.size ≤ w9_.heap.size := bb_.size
      have T9_ : Below w.heap.size w w9_ := kTrans T7_ bb_
      have S0_9_ := Lib.hid (S0_7_.out.below bb_)
      have S1_9_ := Lib.hid (S1_7_.out.below bb_)
      have A0_9_ := Lib.hid (blk_below A0_7_.out bb_)
      have V0_9_ := Lib.hid (V0_7_.out.below bb_)
      have V1_9_ := Lib.hid (V1_7_.out.below bb_)
      have X0_9_ := Lib.hid (blk_below X0_7_.out bb_)
      clear c0_0 c0_1 c0_2 c1_0 c1_1 c1_2 S0_7_ S1_7_ A0_7_ V0_7_ V1_7_ X0_7_ bb_ T7_
      go_wp2_with fail
      refine (toSpanS_any v1 l1 _ S1_9_.out.sl m1).mono ?_
      rintro e w10_ ⟨rfl, p10_, z10_, f10_, b10_⟩
      have n10_ : w9_.heap.size ≤ w10_.heap.size := b10_.size
      have T10_ : Below w.heap.size w w10_ := kTrans T9_ b10_
      have P1c_10_ := Lib.hid p10_
      clear p10_ f10_
      have S0_10_ := Lib.hid (S0_9_.out.below b10_)
      have S1_10_ := Lib.hid (S1_9_.out.below b10_)
      have A0_10_ := Lib.hid (blk_below A0_9_.out b10_)
      have V0_10_ := Lib.hid (V0_9_.out.below b10_)
      have V1_10_ := Lib.hid (V1_9_.out.below b10_)
      have X0_10_ := Lib.hid (blk_below X0_9_.out b10_)
      clear S0_9_ S1_9_ A0_9_ V0_9_ V1_9_ X0_9_ b10_ T9_
      go_wp2_with fail
      refine (eqSpanS_any _ _ l1 _ V1_10_.out.sl (SlSq.mk _ 0 _ P1c_10_.out (by omega) (Nat.le_refl _)) a1 m1).mono ?_
      rintro e w11_ ⟨rfl, b11_⟩
      have n11_ : w10_.heap.size ≤ w11_.heap.size := b11_.size
      have T11_ : Below w.heap.size w w11_ := kTrans T10_ b11_
      have S0_11_ := Lib.hid (S0_10_.out.below b11_)
      have S1_11_ := Lib.hid (S1_10_.out.below b11_)
      have A0_11_ := Lib.hid (blk_below A0_10_.out b11_)
      have V0_11_ := Lib.hid (V0_10_.out.below b11_)
      have V1_11_ := Lib.hid (V1_10_.out.below b11_)
      have X0_11_ := Lib.hid (blk_below X0_10_.out b11_)
      clear S0_10_ S1_10_ A0_10_ V0_10_ V1_10_ X0_10_ P1c_10_ b11_ T10_
      go_wp2
      go_ret
      exact ⟨rfl, T11_⟩

set_option maxRecDepth 100000 in
theorem lifted (os : Os) (started : os.Started) (H : Type) (enc : TypeId × Value → H) :
    ReturnsInHanded {} Try.checked os 3 .any (Rows.fnExactValidSpansSpec.pre6 enc Try.prog Try.f3 Rows.fnExactValidSpansRow.domain false) (Rows.fnExactValidSpansSpec.post enc Try.prog Try.f3 false true false false) := by
  refine returnsInHanded_of_change (C := Try.checked) own started (by kernel_rfl) Try.func3
    (ChangeSpec.witness6 (enc := enc) (C := Try.checked) false ⟨#[], #[.agg #[.int .i8 0, .int .i8 0, .slice none 0 0], .slice none 0 0], []⟩ 8 (by kernel_rfl) (by kernel_rfl) (by kernel_rfl) (by kernel_rfl)) ?_
  intro W base args ds gs before hval0 hW hcnd _
  have hval : ∀ (j : Nat) t v, Try.f3.params[j]? = some t → args[j]? = some v → Value.okWide Try.prog W .any base t v := hval0
  have hW' := hW
  obtain ⟨p, q, hA0, hV, rfl, hfz, hnd⟩ := hW
  have hA : DataW.TrodAll enc Try.prog W 0 (fun _ => true) true Try.f3.params.toList args.toList ds p := hA0
  rw [Try.params3] at hA hval
  have r_ := hA
  obtain ⟨v0, vs0, d0, ds0, pp0, qq0, hargs0, hds0, _, h0, r_⟩ := trodAll_cons r_
  obtain ⟨v1, vs1, d1, ds1, pp1, qq1, hargs1, hds1, _, h1, r_⟩ := trodAll_cons r_
  obtain ⟨hv_, hd_, _⟩ := trodAll_nil r_
  subst hv_ hd_
  subst hargs1 hds1
  obtain rfl : args = #[v0, v1] := by cases args; simp_all
  subst hds0
  obtain ⟨f0_, f1_, f2_, e1_, e2_, e3_, e4_, e5_⟩ := board_struct
  obtain ⟨wd0, hi0, s0, l0, rfl, bw0, bh0, sl0, al0, le0⟩ := open_board e1_ e2_ board_cells e3_ e4_ e5_ piece_cells piece_flat (hval 0 25 v0 rfl rfl) h0
  obtain ⟨qa1, qn1, qc1, rfl⟩ := okWide_slice Try.underlying26 (hval 1 26 v1 rfl rfl)
  obtain ⟨fu1, hx1⟩ := h1
  obtain ⟨l1, sl1, al1, le1⟩ := open_Sqs Try.underlying26 Sq_cells Sq_flat hx1
  refine (walk (w := W) wd0 hi0 s0 l0 bw0 bh0 sl0 al0 le0 (.slice qa1 qn1 qc1) l1 sl1 al1 le1).mono fun e W' ⟨he, hg⟩ => ?_
  subst he
  exact ⟨_, rfl, law_post kids full Try.underlying4 (by decide) rfl rfl rfl hW' hg⟩

theorem over : Rows.fnExactValidSpansRow.holds Try.pinned (OpenSpec.ofChange Rows.fnExactValidSpansSpec) :=
  OpenClaim.holds_of_wide 3 Try.f3 rfl rfl rfl rfl rfl rfl rfl ⟨rfl, rfl, rfl, rfl, rfl⟩ rfl rfl rfl rfl rfl (by kernel_rfl) Try.func3 (by kernel_rfl)
    (of_decide_eq_true (by kernel_rfl)) (by unfold Func.isWrapper; first | (rw [if_pos (by decide +kernel)]; kernel_rfl) | (rw [if_neg (by decide +kernel)]; exact ⟨rfl, rfl⟩))
    (fun os started H enc _ => lifted os started H enc)

/-- The statement. -/
theorem proved : Rows.FnExactValidSpansSaid :=
  over
#print axioms proved
end Go.Proofs.Ytbnogkkaldamdaa.ValidSpans
