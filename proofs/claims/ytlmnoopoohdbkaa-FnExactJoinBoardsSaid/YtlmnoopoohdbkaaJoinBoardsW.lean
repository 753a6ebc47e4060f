/- 'JoinBoards' answers as its model at every argument. No conditions. -/
import Derived.Test.YtlmnoopoohdbkaaJs
import Derived.Deep.RegionHeld3
import Derived.Deep.DeepCutAuto
namespace Go.Proofs.Ytlmnoopoohdbkaa.JoinBoards
open Go.ChangeShapes Go.WideShapes Go.ChangeAt Go.RowKit
set_option linter.unusedVariables false

set_option maxRecDepth 100000 in
set_option maxHeartbeats 16000000 in
theorem walk {w : World} (wd0 hi0 : Int) (v0 : Value) (l0 : List Pc) (bw0 : i8 wd0) (bh0 : i8 hi0) (s0 : Sl w l0 v0) (a0 : All8 l0) (e0 : l0.length ≤ 9223372036854775807) (wd1 hi1 : Int) (v1 : Value) (l1 : List Pc) (bw1 : i8 wd1) (bh1 : i8 hi1) (s1 : Sl w l1 v1) (a1 : All8 l1) (e1 : l1.length ≤ 9223372036854775807) :
    Calls Try.prog 4 #[.agg #[.int .i8 wd0, .int .i8 hi0, v0], .agg #[.int .i8 wd1, .int .i8 hi1, v1]] w fun e w' => e = .returned (.bool true) ∧ Below w.heap.size w w' := by
  have S0_ := Lib.hid (SlO.start s0)
  have S1_ := Lib.hid (SlO.start s1)
  clear s0 s1
  by_cases h0 : 1048576 - (l0.length : Int) < 0
  · skip
    have bE : Below w.heap.size w ((w.alloc (.cells #[.int .i8 wd0, .int .i8 hi0, v0] 25)).alloc (.cells #[.int .i8 wd1, .int .i8 hi1, v1] 25)) := (kAlloc (kAlloc (Below.refl _ _) _) _)
    go_enter Try.func4, Try.ntmps4
    go_wp2_with fail
    refine (szBoard_any wd0 hi0 v0 l0 _ (S0_.out.below bE).sl (1048576) e0 (by omega) (by omega)).mono ?_
    rw [if_pos (by omega)]
    rintro e w1_ ⟨rfl, b1_⟩
    have B1_ : Below w.heap.size w w1_ := kTrans (kAlloc (kAlloc (Below.refl _ _) _) _) b1_
    have n1_ : w.heap.size + 2 ≤ w1_.heap.size := by have := b1_.size; simpa using this
    have T1_ : Below w.heap.size w w1_ := B1_
    have S0_1_ := Lib.hid (S0_.out.below B1_)
    have S1_1_ := Lib.hid (S1_.out.below B1_)
    have A0_1_ := Lib.hid (blk_below ((Below.heap_alloc (w.alloc (.cells #[.int .i8 wd0, .int .i8 hi0, v0] 25)) (.cells #[.int .i8 wd1, .int .i8 hi1, v1] 25) _ (by simp)).trans (heap_alloc_new w (.cells #[.int .i8 wd0, .int .i8 hi0, v0] 25))) b1_)
    have A1_1_ := Lib.hid (blk_below (heap_two w (.cells #[.int .i8 wd0, .int .i8 hi0, v0] 25) (.cells #[.int .i8 wd1, .int .i8 hi1, v1] 25)) b1_)
    clear bE S0_ S1_ b1_ B1_
    go_wp2
    go_ret
    exact ⟨rfl, T1_⟩
  · skip
    have h0' : ¬ 1048576 < (l0.length : Int) := by omega
    by_cases h1 : 1048576 - (l0.length : Int) - (l1.length : Int) < 0
    · skip
      have bE : Below w.heap.size w ((w.alloc (.cells #[.int .i8 wd0, .int .i8 hi0, v0] 25)).alloc (.cells #[.int .i8 wd1, .int .i8 hi1, v1] 25)) := (kAlloc (kAlloc (Below.refl _ _) _) _)
      go_enter Try.func4, Try.ntmps4
      go_wp2_with fail
      refine (szBoard_any wd0 hi0 v0 l0 _ (S0_.out.below bE).sl (1048576) e0 (by omega) (by omega)).mono ?_
      rw [if_neg (by omega)]
      rintro e w1_ ⟨rfl, b1_⟩
      have B1_ : Below w.heap.size w w1_ := kTrans (kAlloc (kAlloc (Below.refl _ _) _) _) b1_
      have n1_ : w.heap.size + 2 ≤ w1_.heap.size := by have := b1_.size; simpa using this
      have T1_ : Below w.heap.size w w1_ := B1_
      have S0_1_ := Lib.hid (S0_.out.below B1_)
      have S1_1_ := Lib.hid (S1_.out.below B1_)
      have A0_1_ := Lib.hid (blk_below ((Below.heap_alloc (w.alloc (.cells #[.int .i8 wd0, .int .i8 hi0, v0] 25)) (.cells #[.int .i8 wd1, .int .i8 hi1, v1] 25) _ (by simp)).trans (heap_alloc_new w (.cells #[.int .i8 wd0, .int .i8 hi0, v0] 25))) b1_)
      have A1_1_ := Lib.hid (blk_below (heap_two w (.cells #[.int .i8 wd0, .int .i8 hi0, v0] 25) (.cells #[.int .i8 wd1, .int .i8 hi1, v1] 25)) b1_)
      clear bE S0_ S1_ b1_ B1_
      have c0_0 : w1_.cell? ⟨w.heap.size + 1, 0, none⟩ = some (.int .i8 wd1) := cell_of_row _ _ 0 _ _ _ A1_1_.out
      have c0_1 : w1_.cell? ⟨w.heap.size + 1, 1, none⟩ = some (.int .i8 hi1) := cell_of_row _ _ 1 _ _ _ A1_1_.out
      have c0_2 : w1_.cell? ⟨w.heap.size + 1, 2, none⟩ = some (v1) := cell_of_row _ _ 2 _ _ _ A1_1_.out
      go_wp2_with fail
      refine (szBoard_any wd1 hi1 v1 l1 _ S1_1_.out.sl (1048576 - (l0.length : Int)) e1 (by omega) (by omega)).mono ?_
      rw [if_pos (by omega)]
      rintro e w2_ ⟨rfl, b2_⟩
      have n2_ : w1_.heap.size ≤ w2_.heap.size := b2_.size
      have T2_ : Below w.heap.size w w2_ := kTrans T1_ b2_
      have S0_2_ := Lib.hid (S0_1_.out.below b2_)
      have S1_2_ := Lib.hid (S1_1_.out.below b2_)
      have A0_2_ := Lib.hid (blk_below A0_1_.out b2_)
      have A1_2_ := Lib.hid (blk_below A1_1_.out b2_)
      clear c0_0 c0_1 c0_2 S0_1_ S1_1_ A0_1_ A1_1_ b2_ T1_
      go_wp2
      go_ret
      exact ⟨rfl, T2_⟩
    · skip
      have h1' : ¬ 1048576 - (l0.length : Int) < (l1.length : Int) := by omega
      have m0 : l0.length ≤ 1048576 := by omega
      have q0 : (5 : Int) * l0.length ≤ 5242880 := by omega
      have m1 : l1.length ≤ 1048576 := by omega
      have q1 : (5 : Int) * l1.length ≤ 5242880 := by omega
      obtain ⟨R1, hR1⟩ : ∃ R, R = boardOk wd0 hi0 l0 := ⟨_, rfl⟩
      obtain ⟨R2, hR2⟩ : ∃ R, R = boardOk wd1 hi1 l1 := ⟨_, rfl⟩
      obtain ⟨Wr, Hr, lr, C, hQ⟩ : ∃ Wr Hr lr C, jnQ R1 R2 wd0 hi0 l0 l1 = (Wr, Hr, lr, C) := ⟨_, _, _, _, rfl⟩
      obtain ⟨al0, hr0⟩ := jnQ_ok a0 a1 hQ
      have Hs := Lib.hid (fun b0 b1 w2 hp0 hb0 hp1 hb1 => specJoinBoards_any b0 b1 _ _ wd0 hi0 wd1 hi1 l0 l1 w2 rfl rfl hp0 hp1 hb0 hb1 a0 a1 bw0 bh0 bw1 bh1 m0 m1 R1 R2 hR1 hR2 Wr Hr lr C hQ)
      have Hi := Lib.hid (fun b0 b1 w2 hp0 hb0 hp1 hb1 => implJoinBoards_any b0 b1 _ _ wd0 hi0 wd1 hi1 l0 l1 w2 rfl rfl hp0 hp1 hb0 hb1 a0 a1 bw0 bh0 bw1 bh1 m0 m1 R1 R2 hR1 hR2 Wr Hr lr C hQ)
      clear hR1 hR2 hQ
      have qr0 : (5 : Int) * lr.length ≤ 5242880 := by omega
      have bE : Below w.heap.size w ((w.alloc (.cells #[.int .i8 wd0, .int .i8 hi0, v0] 25)).alloc (.cells #[.int .i8 wd1, .int .i8 hi1, v1] 25)) := (kAlloc (kAlloc (Below.refl _ _) _) _)
      go_enter Try.func4, Try.ntmps4
      go_wp2_with fail
      refine (szBoard_any wd0 hi0 v0 l0 _ (S0_.out.below bE).sl (1048576) e0 (by omega) (by omega)).mono ?_
      rw [if_neg (by omega)]
      rintro e w1_ ⟨rfl, b1_⟩
      have B1_ : Below w.heap.size w w1_ := kTrans (kAlloc (kAlloc (Below.refl _ _) _) _) b1_
      have n1_ : w.heap.size + 2 ≤ w1_.heap.size := by have := b1_.size; simpa using this
      have T1_ : Below w.heap.size w w1_ := B1_
      have S0_1_ := Lib.hid (S0_.out.below B1_)
      have S1_1_ := Lib.hid (S1_.out.below B1_)
      have A0_1_ := Lib.hid (blk_below ((Below.heap_alloc (w.alloc (.cells #[.int .i8 wd0, .int .i8 hi0, v0] 25)) (.cells #[.int .i8 wd1, .int .i8 hi1, v1] 25) _ (by simp)).trans (heap_alloc_new w (.cells #[.int .i8 wd0, .int .i8 hi0, v0] 25))) b1_)
      have A1_1_ := Lib.hid (blk_below (heap_two w (.cells #[.int .i8 wd0, .int .i8 hi0, v0] 25) (.cells #[.int .i8 wd1, .int .i8 hi1, v1] 25)) b1_)
      clear bE S0_ S1_ b1_ B1_
      have c0_0 : w1_.cell? ⟨w.heap.size + 1, 0, none⟩ = some (.int .i8 wd1) := cell_of_row _ _ 0 _ _ _ A1_1_.out
      have c0_1 : w1_.cell? ⟨w.heap.size + 1, 1, none⟩ = some (.int .i8 hi1) := cell_of_row _ _ 1 _ _ _ A1_1_.out
      have c0_2 : w1_.cell? ⟨w.heap.size + 1, 2, none⟩ = some (v1) := cell_of_row _ _ 2 _ _ _ A1_1_.out
      go_wp2_with fail
      refine (szBoard_any wd1 hi1 v1 l1 _ S1_1_.out.sl (1048576 - (l0.length : Int)) e1 (by omega) (by omega)).mono ?_
      rw [if_neg (by omega)]
      rintro e w2_ ⟨rfl, b2_⟩
      have n2_ : w1_.heap.size ≤ w2_.heap.size := b2_.size
      have T2_ : Below w.heap.size w w2_ := kTrans T1_ b2_
      have S0_2_ := Lib.hid (S0_1_.out.below b2_)
      have S1_2_ := Lib.hid (S1_1_.out.below b2_)
      have A0_2_ := Lib.hid (blk_below A0_1_.out b2_)
      have A1_2_ := Lib.hid (blk_below A1_1_.out b2_)
      clear c0_0 c0_1 c0_2 S0_1_ S1_1_ A0_1_ A1_1_ b2_ T1_
      go_upto_region 8 with fail
      go_cut [6, 7] (fun s1 s2 wx => ∃ (xb lo hi : Nat) (va : Option Addr) (vc : Nat), s1 = .pointer (some ⟨xb, 0, none⟩) ∧ s2 = .int .i64 C ∧ wx.heap[xb]? = some (.cells #[.int .i8 Wr, .int .i8 Hr, .slice va lr.length vc] 30 (0, 0)) ∧ SlW lo hi wx lr (.slice va lr.length vc) ∧ w2_.heap.size ≤ lo ∧ lo ≤ hi ∧ hi ≤ wx.heap.size ∧ w2_.heap.size ≤ xb ∧ (xb < lo ∨ hi ≤ xb) ∧ Below w2_.heap.size w2_ wx)
      case first =>
        have c0_0 : w2_.cell? ⟨w.heap.size, 0, none⟩ = some (.int .i8 wd0) := cell_of_row _ _ 0 _ _ _ A0_2_.out
        have c0_1 : w2_.cell? ⟨w.heap.size, 1, none⟩ = some (.int .i8 hi0) := cell_of_row _ _ 1 _ _ _ A0_2_.out
        have c0_2 : w2_.cell? ⟨w.heap.size, 2, none⟩ = some (v0) := cell_of_row _ _ 2 _ _ _ A0_2_.out
        have lb0_0 : w.heap.size < w2_.heap.size := blk_lt A0_2_.out
        have c1_0 : w2_.cell? ⟨w.heap.size + 1, 0, none⟩ = some (.int .i8 wd1) := cell_of_row _ _ 0 _ _ _ A1_2_.out
        have c1_1 : w2_.cell? ⟨w.heap.size + 1, 1, none⟩ = some (.int .i8 hi1) := cell_of_row _ _ 1 _ _ _ A1_2_.out
        have c1_2 : w2_.cell? ⟨w.heap.size + 1, 2, none⟩ = some (v1) := cell_of_row _ _ 2 _ _ _ A1_2_.out
        have lb1_0 : w.heap.size + 1 < w2_.heap.size := blk_lt A1_2_.out
        go_region_held3 (fun w' => w'.cell? ⟨w.heap.size, 0, none⟩ = some (.int .i8 wd0) ∧ w'.cell? ⟨w.heap.size, 1, none⟩ = some (.int .i8 hi0) ∧ w'.cell? ⟨w.heap.size, 2, none⟩ = some (v0) ∧ w'.cell? ⟨w.heap.size + 1, 0, none⟩ = some (.int .i8 wd1) ∧ w'.cell? ⟨w.heap.size + 1, 1, none⟩ = some (.int .i8 hi1) ∧ w'.cell? ⟨w.heap.size + 1, 2, none⟩ = some (v1)) (go_keep)
          (first
          | (go_at_call 17
             refine (Hs.out kk1 kk2 _ (hp1.out.below (by repeat (first | with_reducible exact Below.refl _ _ | (with_reducible refine kSet ?_ ?hB _; case hB => (simp; try omega)) | with_reducible refine kAlloc ?_ _ | with_reducible refine Below.drew ?_ | with_reducible refine kDrewN ?_ _ | with_reducible refine kTrans ?_ (by assumption))) (by omega)) (by first | omega | (simp; omega)) (hp2.out.below (by repeat (first | with_reducible exact Below.refl _ _ | (with_reducible refine kSet ?_ ?hB _; case hB => (simp; try omega)) | with_reducible refine kAlloc ?_ _ | with_reducible refine Below.drew ?_ | with_reducible refine kDrewN ?_ _ | with_reducible refine kTrans ?_ (by assumption))) (by omega)) (by first | omega | (simp; omega))).mono ?_
             rintro e hv3 ⟨uu, rfl, hv_, b3⟩
             obtain ⟨ua, uc, rfl⟩ := hv_.form
             have Hv := Lib.hid hv_
             clear hv_
             have nn3 : hv2.heap.size ≤ hv3.heap.size := Nat.le_trans (by first | exact Nat.le_refl _ | simp) b3.size
             try have ox := Lib.hid (show hv3.heap[hv2.heap.size]? = some (.cells #[.int .i8 0, .int .i8 0, .slice none 0 0] 30 (0, 0)) from blk_below (heap_alloc_new hv2 (.cells #[.int .i8 0, .int .i8 0, .slice none 0 0] 30)) b3)
             try have ox := Lib.hid (blk_below ox.out b3)
             have lb0_3 : w.heap.size < hv3.heap.size := Nat.lt_of_lt_of_le lb0_2 nn3
             have c0_0 := (b3.cell (p := ⟨w.heap.size, 0, none⟩) (by first | omega | (simp; omega))).trans (by first | exact c0_0 | exact (World.cell?_alloc_lt _ _ _ lb0_2).trans c0_0)
             have c0_1 := (b3.cell (p := ⟨w.heap.size, 1, none⟩) (by first | omega | (simp; omega))).trans (by first | exact c0_1 | exact (World.cell?_alloc_lt _ _ _ lb0_2).trans c0_1)
             have c0_2 := (b3.cell (p := ⟨w.heap.size, 2, none⟩) (by first | omega | (simp; omega))).trans (by first | exact c0_2 | exact (World.cell?_alloc_lt _ _ _ lb0_2).trans c0_2)
             have lb1_3 : w.heap.size + 1 < hv3.heap.size := Nat.lt_of_lt_of_le lb1_2 nn3
             have c1_0 := (b3.cell (p := ⟨w.heap.size + 1, 0, none⟩) (by first | omega | (simp; omega))).trans (by first | exact c1_0 | exact (World.cell?_alloc_lt _ _ _ lb1_2).trans c1_0)
             have c1_1 := (b3.cell (p := ⟨w.heap.size + 1, 1, none⟩) (by first | omega | (simp; omega))).trans (by first | exact c1_1 | exact (World.cell?_alloc_lt _ _ _ lb1_2).trans c1_1)
             have c1_2 := (b3.cell (p := ⟨w.heap.size + 1, 2, none⟩) (by first | omega | (simp; omega))).trans (by first | exact c1_2 | exact (World.cell?_alloc_lt _ _ _ lb1_2).trans c1_2)
             try have y0 := cell_of_row _ _ 0 _ _ _ ox.out
             try have y1 := cell_of_row _ _ 1 _ _ _ ox.out
             try have y2 := cell_of_row _ _ 2 _ _ _ ox.out
             try have yf := fun j => frozen_of_row _ _ j _ _ ox.out
             have na0_0 : ¬ w.heap.size = w2_.heap.size := by omega
             have nb0_0 : ¬ w2_.heap.size = w.heap.size := by omega
             have na0_1 : ¬ w.heap.size = hv1.heap.size := by omega
             have nb0_1 : ¬ hv1.heap.size = w.heap.size := by omega
             have na0_2 : ¬ w.heap.size = hv2.heap.size := by omega
             have nb0_2 : ¬ hv2.heap.size = w.heap.size := by omega
             have na0_3 : ¬ w.heap.size = hv3.heap.size := by omega
             have nb0_3 : ¬ hv3.heap.size = w.heap.size := by omega
             have na1_0 : ¬ w.heap.size + 1 = w2_.heap.size := by omega
             have nb1_0 : ¬ w2_.heap.size = w.heap.size + 1 := by omega
             have na1_1 : ¬ w.heap.size + 1 = hv1.heap.size := by omega
             have nb1_1 : ¬ hv1.heap.size = w.heap.size + 1 := by omega
             have na1_2 : ¬ w.heap.size + 1 = hv2.heap.size := by omega
             have nb1_2 : ¬ hv2.heap.size = w.heap.size + 1 := by omega
             have na1_3 : ¬ w.heap.size + 1 = hv3.heap.size := by omega
             have nb1_3 : ¬ hv3.heap.size = w.heap.size + 1 := by omega)
          | (go_at_call_of 11 v1
             refine (toBoard_any wd1 hi1 v1 l1 _ (S1_2_.out.below (by repeat (first | with_reducible exact Below.refl _ _ | (with_reducible refine kSet ?_ ?hB _; case hB => (simp; try omega)) | with_reducible refine kAlloc ?_ _ | with_reducible refine Below.drew ?_ | with_reducible refine kDrewN ?_ _ | with_reducible refine kTrans ?_ (by assumption)))).sl m1).mono ?_
             rintro e hv2 ⟨kk2, rfl, yy2, zz2, pp2, b2⟩
             have hp2 := Lib.hid pp2
             clear pp2 yy2
             have nn2 : hv1.heap.size ≤ hv2.heap.size := Nat.le_trans (by first | exact Nat.le_refl _ | simp) b2.size
             try have ox := Lib.hid (show hv2.heap[hv1.heap.size]? = some (.cells #[.int .i8 0, .int .i8 0, .slice none 0 0] 30 (0, 0)) from blk_below (heap_alloc_new hv1 (.cells #[.int .i8 0, .int .i8 0, .slice none 0 0] 30)) b2)
             try have ox := Lib.hid (blk_below ox.out b2)
             have lb0_2 : w.heap.size < hv2.heap.size := Nat.lt_of_lt_of_le lb0_1 nn2
             have c0_0 := (b2.cell (p := ⟨w.heap.size, 0, none⟩) (by first | omega | (simp; omega))).trans (by first | exact c0_0 | exact (World.cell?_alloc_lt _ _ _ lb0_1).trans c0_0)
             have c0_1 := (b2.cell (p := ⟨w.heap.size, 1, none⟩) (by first | omega | (simp; omega))).trans (by first | exact c0_1 | exact (World.cell?_alloc_lt _ _ _ lb0_1).trans c0_1)
             have c0_2 := (b2.cell (p := ⟨w.heap.size, 2, none⟩) (by first | omega | (simp; omega))).trans (by first | exact c0_2 | exact (World.cell?_alloc_lt _ _ _ lb0_1).trans c0_2)
             have lb1_2 : w.heap.size + 1 < hv2.heap.size := Nat.lt_of_lt_of_le lb1_1 nn2
             have c1_0 := (b2.cell (p := ⟨w.heap.size + 1, 0, none⟩) (by first | omega | (simp; omega))).trans (by first | exact c1_0 | exact (World.cell?_alloc_lt _ _ _ lb1_1).trans c1_0)
             have c1_1 := (b2.cell (p := ⟨w.heap.size + 1, 1, none⟩) (by first | omega | (simp; omega))).trans (by first | exact c1_1 | exact (World.cell?_alloc_lt _ _ _ lb1_1).trans c1_1)
             have c1_2 := (b2.cell (p := ⟨w.heap.size + 1, 2, none⟩) (by first | omega | (simp; omega))).trans (by first | exact c1_2 | exact (World.cell?_alloc_lt _ _ _ lb1_1).trans c1_2))
          | (go_at_call_of 11 v0
             refine (toBoard_any wd0 hi0 v0 l0 _ (S0_2_.out.below (by repeat (first | with_reducible exact Below.refl _ _ | (with_reducible refine kSet ?_ ?hB _; case hB => (simp; try omega)) | with_reducible refine kAlloc ?_ _ | with_reducible refine Below.drew ?_ | with_reducible refine kDrewN ?_ _ | with_reducible refine kTrans ?_ (by assumption)))).sl m0).mono ?_
             rintro e hv1 ⟨kk1, rfl, yy1, zz1, pp1, b1⟩
             have hp1 := Lib.hid pp1
             clear pp1 yy1
             have nn1 : w2_.heap.size ≤ hv1.heap.size := Nat.le_trans (by first | exact Nat.le_refl _ | simp) b1.size
             try have ox := Lib.hid (show hv1.heap[w2_.heap.size]? = some (.cells #[.int .i8 0, .int .i8 0, .slice none 0 0] 30 (0, 0)) from blk_below (heap_alloc_new w2_.drew (.cells #[.int .i8 0, .int .i8 0, .slice none 0 0] 30)) b1)
             have lb0_1 : w.heap.size < hv1.heap.size := Nat.lt_of_lt_of_le lb0_0 nn1
             have c0_0 := (b1.cell (p := ⟨w.heap.size, 0, none⟩) (by first | omega | (simp; omega))).trans (by first | exact c0_0 | exact (World.cell?_alloc_lt _ _ _ lb0_0).trans c0_0)
             have c0_1 := (b1.cell (p := ⟨w.heap.size, 1, none⟩) (by first | omega | (simp; omega))).trans (by first | exact c0_1 | exact (World.cell?_alloc_lt _ _ _ lb0_0).trans c0_1)
             have c0_2 := (b1.cell (p := ⟨w.heap.size, 2, none⟩) (by first | omega | (simp; omega))).trans (by first | exact c0_2 | exact (World.cell?_alloc_lt _ _ _ lb0_0).trans c0_2)
             have lb1_1 : w.heap.size + 1 < hv1.heap.size := Nat.lt_of_lt_of_le lb1_0 nn1
             have c1_0 := (b1.cell (p := ⟨w.heap.size + 1, 0, none⟩) (by first | omega | (simp; omega))).trans (by first | exact c1_0 | exact (World.cell?_alloc_lt _ _ _ lb1_0).trans c1_0)
             have c1_1 := (b1.cell (p := ⟨w.heap.size + 1, 1, none⟩) (by first | omega | (simp; omega))).trans (by first | exact c1_1 | exact (World.cell?_alloc_lt _ _ _ lb1_0).trans c1_1)
             have c1_2 := (b1.cell (p := ⟨w.heap.size + 1, 2, none⟩) (by first | omega | (simp; omega))).trans (by first | exact c1_2 | exact (World.cell?_alloc_lt _ _ _ lb1_0).trans c1_2)))
        · go_wp2_with fail
          go_meet
          exact ⟨hv3.heap.size, hv2.heap.size, hv3.heap.size, ua, uc, rfl, rfl, heap_alloc_new _ _, Hv.out.below (kAlloc (Below.refl _ _) _), by omega, by omega, by simp, by omega, .inr (Nat.le_refl _), kAlloc (kTrans (kTrans (kTrans (Below.drew (Below.refl _ _)) b1) b2) b3) _⟩
        · have hc : hv2.heap.size + 1 ≤ hv3.heap.size := by simpa using b3.size
          have Hv2 := Lib.hid (show SlW (hv2.heap.size + 1) hv3.heap.size hv3 lr (.slice ua lr.length uc) by simpa only [World.size_alloc] using Hv.out)
          go_wp2_with fail
          go_meet
          exact ⟨hv2.heap.size, hv2.heap.size + 1, hv3.heap.size, ua, uc, rfl, rfl, box3_set ox.out, Hv2.out.set3 (by show hv2.heap.size < hv2.heap.size + 1; omega) _ _ _, by omega, by omega, by simp [World.setCell], by omega, .inl (by omega), kSet (kSet (kSet (kTrans (kAlloc (kTrans (kTrans (Below.drew (Below.refl _ _)) b1) b2) _) b3) (show w2_.heap.size ≤ hv2.heap.size by omega) _) (show w2_.heap.size ≤ hv2.heap.size by omega) _) (show w2_.heap.size ≤ hv2.heap.size by omega) _⟩
        · have hc : hv1.heap.size + 1 ≤ hv2.heap.size := by simpa using b2.size
          go_wp2_with fail
          go_meet
          exact ⟨hv1.heap.size, hv2.heap.size, hv3.heap.size, ua, uc, rfl, rfl, box3_set ox.out, Hv.out.set3 (by show hv1.heap.size < hv2.heap.size; omega) _ _ _, by omega, by omega, by simp [World.setCell], by omega, .inl (by omega), kSet (kSet (kSet (kTrans (kTrans (kAlloc (kTrans (Below.drew (Below.refl _ _)) b1) _) b2) b3) (show w2_.heap.size ≤ hv1.heap.size by omega) _) (show w2_.heap.size ≤ hv1.heap.size by omega) _) (show w2_.heap.size ≤ hv1.heap.size by omega) _⟩
        · have hc : w2_.heap.size + 1 ≤ hv1.heap.size := by simpa using b1.size
          go_wp2_with fail
          go_meet
          exact ⟨w2_.heap.size, hv2.heap.size, hv3.heap.size, ua, uc, rfl, rfl, box3_set ox.out, Hv.out.set3 (by show w2_.heap.size < hv2.heap.size; omega) _ _ _, by omega, by omega, by simp [World.setCell], by omega, .inl (by omega), kSet (kSet (kSet (kTrans (kTrans (kTrans (kAlloc (Below.drew (Below.refl _ _)) _) b1) b2) b3) (show w2_.heap.size ≤ w2_.heap.size by omega) _) (show w2_.heap.size ≤ w2_.heap.size by omega) _) (show w2_.heap.size ≤ w2_.heap.size by omega) _⟩
      case rest =>
        skip
        obtain ⟨xbw, low, hiw, uaw0, ucw0, rfl, rfl, hx_, hv_, gw1, gw2, gw3, gw4, gw5, b3_⟩ := hcut
        obtain ⟨w3_, rfl⟩ : ∃ W : World, W = wc := ⟨_, rfl⟩
        have gw6 := blk_lt hx_
        have Rw0_3_ := Lib.hid hv_
        have Xw0_3_ := Lib.hid hx_
        clear hv_ hx_
        have n3_ : w2_.heap.size ≤ w3_.heap.size := b3_.size
        have T3_ : Below w.heap.size w w3_ := kTrans T2_ b3_
        have S0_3_ := Lib.hid (S0_2_.out.below b3_)
        have S1_3_ := Lib.hid (S1_2_.out.below b3_)
        have A0_3_ := Lib.hid (blk_below A0_2_.out b3_)
        have A1_3_ := Lib.hid (blk_below A1_2_.out b3_)
        clear S0_2_ S1_2_ A0_2_ A1_2_ b3_ T2_
        have c0_0 : w3_.cell? ⟨w.heap.size, 0, none⟩ = some (.int .i8 wd0) := cell_of_row _ _ 0 _ _ _ A0_3_.out
        have c0_1 : w3_.cell? ⟨w.heap.size, 1, none⟩ = some (.int .i8 hi0) := cell_of_row _ _ 1 _ _ _ A0_3_.out
        have c0_2 : w3_.cell? ⟨w.heap.size, 2, none⟩ = some (v0) := cell_of_row _ _ 2 _ _ _ A0_3_.out
        go_wp2_with fail
        refine (toBoard_own wd0 hi0 v0 l0 _ S0_3_.out.sl m0).mono ?_
        rintro e w4_ ⟨k4_, rfl, vx4_, z4_, p4_, y4_, b4_⟩
        have n4_ : w3_.heap.size ≤ w4_.heap.size := b4_.size
        have T4_ : Below w.heap.size w w4_ := kTrans T3_ b4_
        have P0i_4_ := Lib.hid p4_
        have V0_4_ := Lib.hid vx4_
        clear p4_ vx4_ y4_
        have S0_4_ := Lib.hid (S0_3_.out.below b4_)
        have S1_4_ := Lib.hid (S1_3_.out.below b4_)
        have A0_4_ := Lib.hid (blk_below A0_3_.out b4_)
        have A1_4_ := Lib.hid (blk_below A1_3_.out b4_)
        have Rw0_4_ := Lib.hid (Rw0_3_.out.below b4_)
        have Xw0_4_ := Lib.hid (blk_below Xw0_3_.out b4_)
        clear c0_0 c0_1 c0_2 S0_3_ S1_3_ A0_3_ A1_3_ Rw0_3_ Xw0_3_ b4_ T3_
        have bE : Below w4_.heap.size w4_ (w4_.alloc (.cells #[.int .i8 wd0, .int .i8 hi0, .slice (some ⟨k4_, 0, none⟩) l0.length l0.length] 30)) := (kAlloc (Below.refl _ _) _)
        have c0_0 : (w4_.alloc (.cells #[.int .i8 wd0, .int .i8 hi0, .slice (some ⟨k4_, 0, none⟩) l0.length l0.length] 30)).cell? ⟨w.heap.size + 1, 0, none⟩ = some (.int .i8 wd1) := cell_of_row _ _ 0 _ _ _ (blk_below A1_4_.out bE)
        have c0_1 : (w4_.alloc (.cells #[.int .i8 wd0, .int .i8 hi0, .slice (some ⟨k4_, 0, none⟩) l0.length l0.length] 30)).cell? ⟨w.heap.size + 1, 1, none⟩ = some (.int .i8 hi1) := cell_of_row _ _ 1 _ _ _ (blk_below A1_4_.out bE)
        have c0_2 : (w4_.alloc (.cells #[.int .i8 wd0, .int .i8 hi0, .slice (some ⟨k4_, 0, none⟩) l0.length l0.length] 30)).cell? ⟨w.heap.size + 1, 2, none⟩ = some (v1) := cell_of_row _ _ 2 _ _ _ (blk_below A1_4_.out bE)
        go_wp2_with fail
        refine (toBoard_own wd1 hi1 v1 l1 _ (S1_4_.out.below bE).sl m1).mono ?_
        rintro e w5_ ⟨k5_, rfl, vx5_, z5_, p5_, y5_, b5_⟩
        have B5_ : Below w4_.heap.size w4_ w5_ := kTrans (kAlloc (Below.refl _ _) _) b5_
        have n5_ : w4_.heap.size + 1 ≤ w5_.heap.size := by have := b5_.size; simpa using this
        have T5_ : Below w.heap.size w w5_ := kTrans T4_ B5_
        simp only [World.size_alloc] at vx5_ y5_
        have P1i_5_ := Lib.hid p5_
        have V1_5_ := Lib.hid vx5_
        clear p5_ vx5_ y5_
        have S0_5_ := Lib.hid (S0_4_.out.below B5_)
        have S1_5_ := Lib.hid (S1_4_.out.below B5_)
        have A0_5_ := Lib.hid (blk_below A0_4_.out B5_)
        have A1_5_ := Lib.hid (blk_below A1_4_.out B5_)
        have Rw0_5_ := Lib.hid (Rw0_4_.out.below B5_)
        have Xw0_5_ := Lib.hid (blk_below Xw0_4_.out B5_)
        have P0i_5_ := Lib.hid (P0i_4_.out.below B5_ (by omega))
        have V0_5_ := Lib.hid (V0_4_.out.below B5_)
        have X0_5_ := Lib.hid (blk_below (heap_alloc_new w4_ (.cells #[.int .i8 wd0, .int .i8 hi0, .slice (some ⟨k4_, 0, none⟩) l0.length l0.length] 30)) b5_)
        clear bE c0_0 c0_1 c0_2 S0_4_ S1_4_ A0_4_ A1_4_ Rw0_4_ Xw0_4_ P0i_4_ V0_4_ b5_ B5_ T4_
        have bE : Below w5_.heap.size w5_ (w5_.alloc (.cells #[.int .i8 wd1, .int .i8 hi1, .slice (some ⟨k5_, 0, none⟩) l1.length l1.length] 30)) := (kAlloc (Below.refl _ _) _)
        have c0_0 : (w5_.alloc (.cells #[.int .i8 wd1, .int .i8 hi1, .slice (some ⟨k5_, 0, none⟩) l1.length l1.length] 30)).cell? ⟨w4_.heap.size, 0, none⟩ = some (.int .i8 wd0) := cell_of_row _ _ 0 _ _ _ (blk_below X0_5_.out bE)
        have c0_1 : (w5_.alloc (.cells #[.int .i8 wd1, .int .i8 hi1, .slice (some ⟨k5_, 0, none⟩) l1.length l1.length] 30)).cell? ⟨w4_.heap.size, 1, none⟩ = some (.int .i8 hi0) := cell_of_row _ _ 1 _ _ _ (blk_below X0_5_.out bE)
        have c0_2 : (w5_.alloc (.cells #[.int .i8 wd1, .int .i8 hi1, .slice (some ⟨k5_, 0, none⟩) l1.length l1.length] 30)).cell? ⟨w4_.heap.size, 2, none⟩ = some (.slice (some ⟨k4_, 0, none⟩) l0.length l0.length) := cell_of_row _ _ 2 _ _ _ (blk_below X0_5_.out bE)
        go_wp2_with fail
        refine (Hi.out k4_ k5_ _ (P0i_5_.out.below bE (by omega)) (by simp only [World.size_alloc]; omega) (P1i_5_.out.below bE (by omega)) (by simp only [World.size_alloc]; omega)).mono ?_
        rintro e w6_ ⟨ug0_, rfl, yg0_, b6_⟩
        have B6_ : Below w5_.heap.size w5_ w6_ := kTrans (kAlloc (Below.refl _ _) _) b6_
        have n6_ : w5_.heap.size + 1 ≤ w6_.heap.size := by have := b6_.size; simpa using this
        have T6_ : Below w.heap.size w w6_ := kTrans T5_ B6_
        simp only [World.size_alloc] at yg0_
        obtain ⟨uag0, ucg0, rfl⟩ := yg0_.form
        have Rg0_6_ := Lib.hid yg0_
        clear yg0_
        have S0_6_ := Lib.hid (S0_5_.out.below B6_)
        have S1_6_ := Lib.hid (S1_5_.out.below B6_)
        have A0_6_ := Lib.hid (blk_below A0_5_.out B6_)
        have A1_6_ := Lib.hid (blk_below A1_5_.out B6_)
        have Rw0_6_ := Lib.hid (Rw0_5_.out.below B6_)
        have Xw0_6_ := Lib.hid (blk_below Xw0_5_.out B6_)
        have V0_6_ := Lib.hid (V0_5_.out.below B6_)
        have V1_6_ := Lib.hid (V1_5_.out.below B6_)
        have X0_6_ := Lib.hid (blk_below X0_5_.out B6_)
        have X1_6_ := Lib.hid (blk_below (heap_alloc_new w5_ (.cells #[.int .i8 wd1, .int .i8 hi1, .slice (some ⟨k5_, 0, none⟩) l1.length l1.length] 30)) b6_)
        clear bE c0_0 c0_1 c0_2 S0_5_ S1_5_ A0_5_ A1_5_ Rw0_5_ Xw0_5_ P0i_5_ V0_5_ P1i_5_ V1_5_ X0_5_ b6_ B6_ T5_
        have bE : Below w6_.heap.size w6_ (w6_.alloc (.cells #[.int .i8 Wr, .int .i8 Hr, .slice uag0 lr.length ucg0] 30)) := (kAlloc (Below.refl _ _) _)
        have c1_0 : (w6_.alloc (.cells #[.int .i8 Wr, .int .i8 Hr, .slice uag0 lr.length ucg0] 30)).cell? ⟨xbw, 0, none⟩ = some (.int .i8 Wr) := cell_of_row _ _ 0 _ _ _ (blk_below Xw0_6_.out bE)
        have c1_1 : (w6_.alloc (.cells #[.int .i8 Wr, .int .i8 Hr, .slice uag0 lr.length ucg0] 30)).cell? ⟨xbw, 1, none⟩ = some (.int .i8 Hr) := cell_of_row _ _ 1 _ _ _ (blk_below Xw0_6_.out bE)
        have c1_2 : (w6_.alloc (.cells #[.int .i8 Wr, .int .i8 Hr, .slice uag0 lr.length ucg0] 30)).cell? ⟨xbw, 2, none⟩ = some (.slice uaw0 lr.length ucw0) := cell_of_row _ _ 2 _ _ _ (blk_below Xw0_6_.out bE)
        go_wp2_with fail
        refine (eqBoard_any Wr Hr _ _ lr _ (Rg0_6_.out.below bE).sl (Rw0_6_.out.below bE).sl al0 hr0).mono ?_
        rintro e w7_ ⟨rfl, b7_⟩
        have B7_ : Below w6_.heap.size w6_ w7_ := kTrans (kAlloc (Below.refl _ _) _) b7_
        have n7_ : w6_.heap.size + 1 ≤ w7_.heap.size := by have := b7_.size; simpa using this
        have T7_ : Below w.heap.size w w7_ := kTrans T6_ B7_
        have S0_7_ := Lib.hid (S0_6_.out.below B7_)
        have S1_7_ := Lib.hid (S1_6_.out.below B7_)
        have A0_7_ := Lib.hid (blk_below A0_6_.out B7_)
        have A1_7_ := Lib.hid (blk_below A1_6_.out B7_)
        have Rw0_7_ := Lib.hid (Rw0_6_.out.below B7_)
        have Xw0_7_ := Lib.hid (blk_below Xw0_6_.out B7_)
        have V0_7_ := Lib.hid (V0_6_.out.below B7_)
        have V1_7_ := Lib.hid (V1_6_.out.below B7_)
        have X0_7_ := Lib.hid (blk_below X0_6_.out B7_)
        have Rg0_7_ := Lib.hid (Rg0_6_.out.below B7_)
        have X1_7_ := Lib.hid (blk_below X1_6_.out B7_)
        have Xg0_7_ := Lib.hid (blk_below (heap_alloc_new w6_ (.cells #[.int .i8 Wr, .int .i8 Hr, .slice uag0 lr.length ucg0] 30)) b7_)
        clear bE c1_0 c1_1 c1_2 S0_6_ S1_6_ A0_6_ A1_6_ Rw0_6_ Xw0_6_ V0_6_ V1_6_ X0_6_ Rg0_6_ X1_6_ b7_ B7_ T6_
        have c0_0 : w7_.cell? ⟨w.heap.size, 0, none⟩ = some (.int .i8 wd0) := cell_of_row _ _ 0 _ _ _ A0_7_.out
        have c0_1 : w7_.cell? ⟨w.heap.size, 1, none⟩ = some (.int .i8 hi0) := cell_of_row _ _ 1 _ _ _ A0_7_.out
        have c0_2 : w7_.cell? ⟨w.heap.size, 2, none⟩ = some (v0) := cell_of_row _ _ 2 _ _ _ A0_7_.out
        have c1_0 : w7_.cell? ⟨w4_.heap.size, 0, none⟩ = some (.int .i8 wd0) := cell_of_row _ _ 0 _ _ _ X0_7_.out
        have c1_1 : w7_.cell? ⟨w4_.heap.size, 1, none⟩ = some (.int .i8 hi0) := cell_of_row _ _ 1 _ _ _ X0_7_.out
        have c1_2 : w7_.cell? ⟨w4_.heap.size, 2, none⟩ = some (.slice (some ⟨k4_, 0, none⟩) l0.length l0.length) := cell_of_row _ _ 2 _ _ _ X0_7_.out
        have la_ : w.heap.size < w7_.heap.size := blk_lt A0_7_.out
        have lx_ : w4_.heap.size < w7_.heap.size := blk_lt X0_7_.out
        go_wp2_with fail
        go_region_held3 (fun w' => w'.cell? ⟨w.heap.size, 0, none⟩ = some (.int .i8 wd0) ∧ w'.cell? ⟨w.heap.size, 1, none⟩ = some (.int .i8 hi0) ∧ w'.cell? ⟨w.heap.size, 2, none⟩ = some (v0) ∧ w'.cell? ⟨w4_.heap.size, 0, none⟩ = some (.int .i8 wd0) ∧ w'.cell? ⟨w4_.heap.size, 1, none⟩ = some (.int .i8 hi0) ∧ w'.cell? ⟨w4_.heap.size, 2, none⟩ = some (.slice (some ⟨k4_, 0, none⟩) l0.length l0.length)) (go_keep)
          (first
          | (go_at_call 14
             refine (eqBoard_any wd0 hi0 _ _ l0 _ (V0_7_.out.below (kTrans (Below.drew (Below.refl _ _)) b8_)).sl (Sl.mk k8_ 0 _ p8_ z8_ (Nat.le_refl _)) a0 m0).mono ?_
             rintro e w9_ ⟨rfl, b9_⟩
             have c0_0 := (b9_.cell (p := ⟨w.heap.size, 0, none⟩) (Nat.lt_of_lt_of_le la_ b8_.size)).trans c0_0
             have c0_1 := (b9_.cell (p := ⟨w.heap.size, 1, none⟩) (Nat.lt_of_lt_of_le la_ b8_.size)).trans c0_1
             have c0_2 := (b9_.cell (p := ⟨w.heap.size, 2, none⟩) (Nat.lt_of_lt_of_le la_ b8_.size)).trans c0_2
             have c1_0 := (b9_.cell (p := ⟨w4_.heap.size, 0, none⟩) (Nat.lt_of_lt_of_le lx_ b8_.size)).trans c1_0
             have c1_1 := (b9_.cell (p := ⟨w4_.heap.size, 1, none⟩) (Nat.lt_of_lt_of_le lx_ b8_.size)).trans c1_1
             have c1_2 := (b9_.cell (p := ⟨w4_.heap.size, 2, none⟩) (Nat.lt_of_lt_of_le lx_ b8_.size)).trans c1_2)
          | (go_at_call 11
             refine (toBoard_any wd0 hi0 v0 l0 _ (S0_7_.out.below (Below.drew (Below.refl _ _))).sl m0).mono ?_
             rintro e w8_ ⟨k8_, rfl, y8_, z8_, p8_, b8_⟩
             have c0_0 := (b8_.cell (p := ⟨w.heap.size, 0, none⟩) la_).trans c0_0
             have c0_1 := (b8_.cell (p := ⟨w.heap.size, 1, none⟩) la_).trans c0_1
             have c0_2 := (b8_.cell (p := ⟨w.heap.size, 2, none⟩) la_).trans c0_2
             have c1_0 := (b8_.cell (p := ⟨w4_.heap.size, 0, none⟩) lx_).trans c1_0
             have c1_1 := (b8_.cell (p := ⟨w4_.heap.size, 1, none⟩) lx_).trans c1_1
             have c1_2 := (b8_.cell (p := ⟨w4_.heap.size, 2, none⟩) lx_).trans c1_2))
        have bb_ : Below w7_.heap.size w7_ w9_ := kTrans (kTrans (Below.drew (Below.refl _ _)) b8_) b9_
        clear b8_ b9_ y8_ z8_ p8_ la_ lx_
        have n9_ : w7_.heap.size ≤ w9_.heap.size := bb_.size
        have T9_ : Below w.heap.size w w9_ := kTrans T7_ bb_
        have S0_9_ := Lib.hid (S0_7_.out.below bb_)
        have S1_9_ := Lib.hid (S1_7_.out.below bb_)
        have A0_9_ := Lib.hid (blk_below A0_7_.out bb_)
        have A1_9_ := Lib.hid (blk_below A1_7_.out bb_)
        have Rw0_9_ := Lib.hid (Rw0_7_.out.below bb_)
        have Xw0_9_ := Lib.hid (blk_below Xw0_7_.out bb_)
        have V0_9_ := Lib.hid (V0_7_.out.below bb_)
        have V1_9_ := Lib.hid (V1_7_.out.below bb_)
        have X0_9_ := Lib.hid (blk_below X0_7_.out bb_)
        have Rg0_9_ := Lib.hid (Rg0_7_.out.below bb_)
        have X1_9_ := Lib.hid (blk_below X1_7_.out bb_)
        have Xg0_9_ := Lib.hid (blk_below Xg0_7_.out bb_)
        clear c0_0 c0_1 c0_2 c1_0 c1_1 c1_2 S0_7_ S1_7_ A0_7_ A1_7_ Rw0_7_ Xw0_7_ V0_7_ V1_7_ X0_7_ Rg0_7_ X1_7_ Xg0_7_ bb_ T7_
        have c0_0 : w9_.cell? ⟨w.heap.size + 1, 0, none⟩ = some (.int .i8 wd1) := cell_of_row _ _ 0 _ _ _ A1_9_.out
        have c0_1 : w9_.cell? ⟨w.heap.size + 1, 1, none⟩ = some (.int .i8 hi1) := cell_of_row _ _ 1 _ _ _ A1_9_.out
        have c0_2 : w9_.cell? ⟨w.heap.size + 1, 2, none⟩ = some (v1) := cell_of_row _ _ 2 _ _ _ A1_9_.out
        have c1_0 : w9_.cell? ⟨w5_.heap.size, 0, none⟩ = some (.int .i8 wd1) := cell_of_row _ _ 0 _ _ _ X1_9_.out
        have c1_1 : w9_.cell? ⟨w5_.heap.size, 1, none⟩ = some (.int .i8 hi1) := cell_of_row _ _ 1 _ _ _ X1_9_.out
        have c1_2 : w9_.cell? ⟨w5_.heap.size, 2, none⟩ = some (.slice (some ⟨k5_, 0, none⟩) l1.length l1.length) := cell_of_row _ _ 2 _ _ _ X1_9_.out
        have la_ : w.heap.size + 1 < w9_.heap.size := blk_lt A1_9_.out
        have lx_ : w5_.heap.size < w9_.heap.size := blk_lt X1_9_.out
        go_wp2_with fail
        go_region_held3 (fun w' => w'.cell? ⟨w.heap.size + 1, 0, none⟩ = some (.int .i8 wd1) ∧ w'.cell? ⟨w.heap.size + 1, 1, none⟩ = some (.int .i8 hi1) ∧ w'.cell? ⟨w.heap.size + 1, 2, none⟩ = some (v1) ∧ w'.cell? ⟨w5_.heap.size, 0, none⟩ = some (.int .i8 wd1) ∧ w'.cell? ⟨w5_.heap.size, 1, none⟩ = some (.int .i8 hi1) ∧ w'.cell? ⟨w5_.heap.size, 2, none⟩ = some (.slice (some ⟨k5_, 0, none⟩) l1.length l1.length)) (go_keep)
          (first
          | (go_at_call 14
             refine (eqBoard_any wd1 hi1 _ _ l1 _ (V1_9_.out.below (kTrans (Below.drew (Below.refl _ _)) b10_)).sl (Sl.mk k10_ 0 _ p10_ z10_ (Nat.le_refl _)) a1 m1).mono ?_
             rintro e w11_ ⟨rfl, b11_⟩
             have c0_0 := (b11_.cell (p := ⟨w.heap.size + 1, 0, none⟩) (Nat.lt_of_lt_of_le la_ b10_.size)).trans c0_0
             have c0_1 := (b11_.cell (p := ⟨w.heap.size + 1, 1, none⟩) (Nat.lt_of_lt_of_le la_ b10_.size)).trans c0_1
             have c0_2 := (b11_.cell (p := ⟨w.heap.size + 1, 2, none⟩) (Nat.lt_of_lt_of_le la_ b10_.size)).trans c0_2
             have c1_0 := (b11_.cell (p := ⟨w5_.heap.size, 0, none⟩) (Nat.lt_of_lt_of_le lx_ b10_.size)).trans c1_0
             have c1_1 := (b11_.cell (p := ⟨w5_.heap.size, 1, none⟩) (Nat.lt_of_lt_of_le lx_ b10_.size)).trans c1_1
             have c1_2 := (b11_.cell (p := ⟨w5_.heap.size, 2, none⟩) (Nat.lt_of_lt_of_le lx_ b10_.size)).trans c1_2)
          | (go_at_call 11
             refine (toBoard_any wd1 hi1 v1 l1 _ (S1_9_.out.below (Below.drew (Below.refl _ _))).sl m1).mono ?_
             rintro e w10_ ⟨k10_, rfl, y10_, z10_, p10_, b10_⟩
             have c0_0 := (b10_.cell (p := ⟨w.heap.size + 1, 0, none⟩) la_).trans c0_0
             have c0_1 := (b10_.cell (p := ⟨w.heap.size + 1, 1, none⟩) la_).trans c0_1
             have c0_2 := (b10_.cell (p := ⟨w.heap.size + 1, 2, none⟩) la_).trans c0_2
             have c1_0 := (b10_.cell (p := ⟨w5_.heap.size, 0, none⟩) lx_).trans c1_0
             have c1_1 := (b10_.cell (p := ⟨w5_.heap.size, 1, none⟩) lx_).trans c1_1
             have c1_2 := (b10_.cell (p := ⟨w5_.heap.size, 2, none⟩) lx_).trans c1_2))
        have bb_ : Below w9_.heap.size w9_ w11_ := kTrans (kTrans (Below.drew (Below.refl _ _)) b10_) b11_
        clear b10_ b11_ y10_ z10_ p10_ la_ lx_
        have n11_ : w9_.heap.size ≤ w11_.heap.size := bb_.size
        have T11_ : Below w.heap.size w w11_ := kTrans T9_ bb_
        have S0_11_ := Lib.hid (S0_9_.out.below bb_)
        have S1_11_ := Lib.hid (S1_9_.out.below bb_)
        have A0_11_ := Lib.hid (blk_below A0_9_.out bb_)
        have A1_11_ := Lib.hid (blk_below A1_9_.out bb_)
        have Rw0_11_ := Lib.hid (Rw0_9_.out.below bb_)
        have Xw0_11_ := Lib.hid (blk_below Xw0_9_.out bb_)
        have V0_11_ := Lib.hid (V0_9_.out.below bb_)
        have V1_11_ := Lib.hid (V1_9_.out.below bb_)
        have X0_11_ := Lib.hid (blk_below X0_9_.out bb_)
        have Rg0_11_ := Lib.hid (Rg0_9_.out.below bb_)
        have X1_11_ := Lib.hid (blk_below X1_9_.out bb_)
        have Xg0_11_ := Lib.hid (blk_below Xg0_9_.out bb_)
        clear c0_0 c0_1 c0_2 c1_0 c1_1 c1_2 S0_9_ S1_9_ A0_9_ A1_9_ Rw0_9_ Xw0_9_ V0_9_ V1_9_ X0_9_ Rg0_9_ X1_9_ Xg0_9_ bb_ T9_
        have c0_0 : w11_.cell? ⟨w4_.heap.size, 0, none⟩ = some (.int .i8 wd0) := cell_of_row _ _ 0 _ _ _ X0_11_.out
        have c0_1 : w11_.cell? ⟨w4_.heap.size, 1, none⟩ = some (.int .i8 hi0) := cell_of_row _ _ 1 _ _ _ X0_11_.out
        have c0_2 : w11_.cell? ⟨w4_.heap.size, 2, none⟩ = some (.slice (some ⟨k4_, 0, none⟩) l0.length l0.length) := cell_of_row _ _ 2 _ _ _ X0_11_.out
        go_wp2_with fail
        refine (markBoard_any _ _ wd0 hi0 _ l0 (1) _ V0_11_.out (by omega) (by omega) (by omega) m0).mono ?_
        rintro e w12_ ⟨rfl, _, b12_⟩
        have n12_ : w11_.heap.size ≤ w12_.heap.size := b12_.size
        have T12_ := kOut T11_ b12_ (by omega)
        have S0_12_ := Lib.hid (S0_11_.out.out b12_ (by omega))
        have S1_12_ := Lib.hid (S1_11_.out.out b12_ (by omega))
        have A0_12_ := Lib.hid (blk_out A0_11_.out b12_ (by omega))
        have A1_12_ := Lib.hid (blk_out A1_11_.out b12_ (by omega))
        have Rw0_12_ := Lib.hid (Rw0_11_.out.out b12_ (by omega))
        have Xw0_12_ := Lib.hid (blk_out Xw0_11_.out b12_ (by omega))
        have V1_12_ := Lib.hid (V1_11_.out.out b12_ (by omega))
        have Rg0_12_ := Lib.hid (Rg0_11_.out.out b12_ (by omega))
        have X1_12_ := Lib.hid (blk_out X1_11_.out b12_ (by omega))
        have Xg0_12_ := Lib.hid (blk_out Xg0_11_.out b12_ (by omega))
        clear c0_0 c0_1 c0_2 S0_11_ S1_11_ A0_11_ A1_11_ Rw0_11_ Xw0_11_ V0_11_ V1_11_ X0_11_ Rg0_11_ X1_11_ Xg0_11_ b12_ T11_
        have c0_0 : w12_.cell? ⟨w5_.heap.size, 0, none⟩ = some (.int .i8 wd1) := cell_of_row _ _ 0 _ _ _ X1_12_.out
        have c0_1 : w12_.cell? ⟨w5_.heap.size, 1, none⟩ = some (.int .i8 hi1) := cell_of_row _ _ 1 _ _ _ X1_12_.out
        have c0_2 : w12_.cell? ⟨w5_.heap.size, 2, none⟩ = some (.slice (some ⟨k5_, 0, none⟩) l1.length l1.length) := cell_of_row _ _ 2 _ _ _ X1_12_.out
        go_wp2_with fail
        refine (markBoard_any _ _ wd1 hi1 _ l1 (1 + 5 * (l0.length : Int)) _ V1_12_.out (by omega) (by omega) (by omega) m1).mono ?_
        rintro e w13_ ⟨rfl, _, b13_⟩
        have n13_ : w12_.heap.size ≤ w13_.heap.size := b13_.size
        have T13_ := kOut T12_ b13_ (by omega)
        have S0_13_ := Lib.hid (S0_12_.out.out b13_ (by omega))
        have S1_13_ := Lib.hid (S1_12_.out.out b13_ (by omega))
        have A0_13_ := Lib.hid (blk_out A0_12_.out b13_ (by omega))
        have A1_13_ := Lib.hid (blk_out A1_12_.out b13_ (by omega))
        have Rw0_13_ := Lib.hid (Rw0_12_.out.out b13_ (by omega))
        have Xw0_13_ := Lib.hid (blk_out Xw0_12_.out b13_ (by omega))
        have Rg0_13_ := Lib.hid (Rg0_12_.out.out b13_ (by omega))
        have Xg0_13_ := Lib.hid (blk_out Xg0_12_.out b13_ (by omega))
        clear c0_0 c0_1 c0_2 S0_12_ S1_12_ A0_12_ A1_12_ Rw0_12_ Xw0_12_ V1_12_ Rg0_12_ X1_12_ Xg0_12_ b13_ T12_
        have c0_0 : w13_.cell? ⟨w6_.heap.size, 0, none⟩ = some (.int .i8 Wr) := cell_of_row _ _ 0 _ _ _ Xg0_13_.out
        have c0_1 : w13_.cell? ⟨w6_.heap.size, 1, none⟩ = some (.int .i8 Hr) := cell_of_row _ _ 1 _ _ _ Xg0_13_.out
        have c0_2 : w13_.cell? ⟨w6_.heap.size, 2, none⟩ = some (.slice uag0 lr.length ucg0) := cell_of_row _ _ 2 _ _ _ Xg0_13_.out
        have c1_0 : w13_.cell? ⟨xbw, 0, none⟩ = some (.int .i8 Wr) := cell_of_row _ _ 0 _ _ _ Xw0_13_.out
        have c1_1 : w13_.cell? ⟨xbw, 1, none⟩ = some (.int .i8 Hr) := cell_of_row _ _ 1 _ _ _ Xw0_13_.out
        have c1_2 : w13_.cell? ⟨xbw, 2, none⟩ = some (.slice uaw0 lr.length ucw0) := cell_of_row _ _ 2 _ _ _ Xw0_13_.out
        go_wp2_with fail
        refine (eqBoard_any Wr Hr _ _ lr _ Rg0_13_.out.sl Rw0_13_.out.sl al0 hr0).mono ?_
        rintro e w14_ ⟨rfl, b14_⟩
        have n14_ : w13_.heap.size ≤ w14_.heap.size := b14_.size
        have T14_ : Below w.heap.size w w14_ := kTrans T13_ b14_
        have S0_14_ := Lib.hid (S0_13_.out.below b14_)
        have S1_14_ := Lib.hid (S1_13_.out.below b14_)
        have A0_14_ := Lib.hid (blk_below A0_13_.out b14_)
        have A1_14_ := Lib.hid (blk_below A1_13_.out b14_)
        have Rw0_14_ := Lib.hid (Rw0_13_.out.below b14_)
        have Xw0_14_ := Lib.hid (blk_below Xw0_13_.out b14_)
        have Rg0_14_ := Lib.hid (Rg0_13_.out.below b14_)
        have Xg0_14_ := Lib.hid (blk_below Xg0_13_.out b14_)
        clear c0_0 c0_1 c0_2 c1_0 c1_1 c1_2 S0_13_ S1_13_ A0_13_ A1_13_ Rw0_13_ Xw0_13_ Rg0_13_ Xg0_13_ b14_ T13_
        have c0_0 : w14_.cell? ⟨w6_.heap.size, 0, none⟩ = some (.int .i8 Wr) := cell_of_row _ _ 0 _ _ _ Xg0_14_.out
        have c0_1 : w14_.cell? ⟨w6_.heap.size, 1, none⟩ = some (.int .i8 Hr) := cell_of_row _ _ 1 _ _ _ Xg0_14_.out
        have c0_2 : w14_.cell? ⟨w6_.heap.size, 2, none⟩ = some (.slice uag0 lr.length ucg0) := cell_of_row _ _ 2 _ _ _ Xg0_14_.out
        go_wp2_with fail
        refine (markBoard_any _ _ Wr Hr _ lr (1) _ Rg0_14_.out (by omega) (by omega) (by omega) hr0).mono ?_
        rintro e w15_ ⟨rfl, vm_, b15_⟩
        have n15_ : w14_.heap.size ≤ w15_.heap.size := b15_.size
        have T15_ := kOut T14_ b15_ (by omega)
        have Rg0_15_ := Lib.hid vm_
        clear vm_
        have S0_15_ := Lib.hid (S0_14_.out.out b15_ (by omega))
        have S1_15_ := Lib.hid (S1_14_.out.out b15_ (by omega))
        have A0_15_ := Lib.hid (blk_out A0_14_.out b15_ (by omega))
        have A1_15_ := Lib.hid (blk_out A1_14_.out b15_ (by omega))
        have Rw0_15_ := Lib.hid (Rw0_14_.out.out b15_ (by omega))
        have Xw0_15_ := Lib.hid (blk_out Xw0_14_.out b15_ (by omega))
        have Xg0_15_ := Lib.hid (blk_out Xg0_14_.out b15_ (by omega))
        clear c0_0 c0_1 c0_2 S0_14_ S1_14_ A0_14_ A1_14_ Rw0_14_ Xw0_14_ Rg0_14_ Xg0_14_ b15_ T14_
        have c0_0 : w15_.cell? ⟨w6_.heap.size, 0, none⟩ = some (.int .i8 Wr) := cell_of_row _ _ 0 _ _ _ Xg0_15_.out
        have c0_1 : w15_.cell? ⟨w6_.heap.size, 1, none⟩ = some (.int .i8 Hr) := cell_of_row _ _ 1 _ _ _ Xg0_15_.out
        have c0_2 : w15_.cell? ⟨w6_.heap.size, 2, none⟩ = some (.slice uag0 lr.length ucg0) := cell_of_row _ _ 2 _ _ _ Xg0_15_.out
        go_wp2_with fail
        refine (heldBoard_any _ _ lr.length Wr Hr _ (1) _ Rg0_15_.out (by omega) (by omega) hr0).mono ?_
        rintro e w16_ ⟨rfl, b16_⟩
        have n16_ : w15_.heap.size ≤ w16_.heap.size := b16_.size
        have T16_ : Below w.heap.size w w16_ := kTrans T15_ b16_
        have S0_16_ := Lib.hid (S0_15_.out.below b16_)
        have S1_16_ := Lib.hid (S1_15_.out.below b16_)
        have A0_16_ := Lib.hid (blk_below A0_15_.out b16_)
        have A1_16_ := Lib.hid (blk_below A1_15_.out b16_)
        have Rw0_16_ := Lib.hid (Rw0_15_.out.below b16_)
        have Xw0_16_ := Lib.hid (blk_below Xw0_15_.out b16_)
        have Rg0_16_ := Lib.hid (Rg0_15_.out.below b16_)
        have Xg0_16_ := Lib.hid (blk_below Xg0_15_.out b16_)
        clear c0_0 c0_1 c0_2 S0_15_ S1_15_ A0_15_ A1_15_ Rw0_15_ Xw0_15_ Rg0_15_ Xg0_15_ b16_ T15_
        go_upto_region 31 with fail
        go_cut [15, 16] (fun s1 s2 wx => ∃ (xb lo hi : Nat) (va : Option Addr) (vc : Nat), s1 = .pointer (some ⟨xb, 0, none⟩) ∧ s2 = .int .i64 C ∧ wx.heap[xb]? = some (.cells #[.int .i8 Wr, .int .i8 Hr, .slice va lr.length vc] 30 (0, 0)) ∧ SlW lo hi wx lr (.slice va lr.length vc) ∧ w16_.heap.size ≤ lo ∧ lo ≤ hi ∧ hi ≤ wx.heap.size ∧ w16_.heap.size ≤ xb ∧ (xb < lo ∨ hi ≤ xb) ∧ Below w16_.heap.size w16_ wx)
        case first =>
          have c0_0 : w16_.cell? ⟨w.heap.size, 0, none⟩ = some (.int .i8 wd0) := cell_of_row _ _ 0 _ _ _ A0_16_.out
          have c0_1 : w16_.cell? ⟨w.heap.size, 1, none⟩ = some (.int .i8 hi0) := cell_of_row _ _ 1 _ _ _ A0_16_.out
          have c0_2 : w16_.cell? ⟨w.heap.size, 2, none⟩ = some (v0) := cell_of_row _ _ 2 _ _ _ A0_16_.out
          have lb0_0 : w.heap.size < w16_.heap.size := blk_lt A0_16_.out
          have c1_0 : w16_.cell? ⟨w.heap.size + 1, 0, none⟩ = some (.int .i8 wd1) := cell_of_row _ _ 0 _ _ _ A1_16_.out
          have c1_1 : w16_.cell? ⟨w.heap.size + 1, 1, none⟩ = some (.int .i8 hi1) := cell_of_row _ _ 1 _ _ _ A1_16_.out
          have c1_2 : w16_.cell? ⟨w.heap.size + 1, 2, none⟩ = some (v1) := cell_of_row _ _ 2 _ _ _ A1_16_.out
          have lb1_0 : w.heap.size + 1 < w16_.heap.size := blk_lt A1_16_.out
          go_region_held3 (fun w' => w'.cell? ⟨w.heap.size, 0, none⟩ = some (.int .i8 wd0) ∧ w'.cell? ⟨w.heap.size, 1, none⟩ = some (.int .i8 hi0) ∧ w'.cell? ⟨w.heap.size, 2, none⟩ = some (v0) ∧ w'.cell? ⟨w.heap.size + 1, 0, none⟩ = some (.int .i8 wd1) ∧ w'.cell? ⟨w.heap.size + 1, 1, none⟩ = some (.int .i8 hi1) ∧ w'.cell? ⟨w.heap.size + 1, 2, none⟩ = some (v1)) (go_keep)
            (first
            | (go_at_call 18
               refine (Hi.out kk1 kk2 _ (hp1.out.below (by repeat (first | with_reducible exact Below.refl _ _ | (with_reducible refine kSet ?_ ?hB _; case hB => (simp; try omega)) | with_reducible refine kAlloc ?_ _ | with_reducible refine Below.drew ?_ | with_reducible refine kDrewN ?_ _ | with_reducible refine kTrans ?_ (by assumption))) (by omega)) (by first | omega | (simp; omega)) (hp2.out.below (by repeat (first | with_reducible exact Below.refl _ _ | (with_reducible refine kSet ?_ ?hB _; case hB => (simp; try omega)) | with_reducible refine kAlloc ?_ _ | with_reducible refine Below.drew ?_ | with_reducible refine kDrewN ?_ _ | with_reducible refine kTrans ?_ (by assumption))) (by omega)) (by first | omega | (simp; omega))).mono ?_
               rintro e hv3 ⟨uu, rfl, hv_, b3⟩
               obtain ⟨ua, uc, rfl⟩ := hv_.form
               have Hv := Lib.hid hv_
               clear hv_
               have nn3 : hv2.heap.size ≤ hv3.heap.size := Nat.le_trans (by first | exact Nat.le_refl _ | simp) b3.size
               try have ox := Lib.hid (show hv3.heap[hv2.heap.size]? = some (.cells #[.int .i8 0, .int .i8 0, .slice none 0 0] 30 (0, 0)) from blk_below (heap_alloc_new hv2 (.cells #[.int .i8 0, .int .i8 0, .slice none 0 0] 30)) b3)
               try have ox := Lib.hid (blk_below ox.out b3)
               have lb0_3 : w.heap.size < hv3.heap.size := Nat.lt_of_lt_of_le lb0_2 nn3
               have c0_0 := (b3.cell (p := ⟨w.heap.size, 0, none⟩) (by first | omega | (simp; omega))).trans (by first | exact c0_0 | exact (World.cell?_alloc_lt _ _ _ lb0_2).trans c0_0)
               have c0_1 := (b3.cell (p := ⟨w.heap.size, 1, none⟩) (by first | omega | (simp; omega))).trans (by first | exact c0_1 | exact (World.cell?_alloc_lt _ _ _ lb0_2).trans c0_1)
               have c0_2 := (b3.cell (p := ⟨w.heap.size, 2, none⟩) (by first | omega | (simp; omega))).trans (by first | exact c0_2 | exact (World.cell?_alloc_lt _ _ _ lb0_2).trans c0_2)
               have lb1_3 : w.heap.size + 1 < hv3.heap.size := Nat.lt_of_lt_of_le lb1_2 nn3
               have c1_0 := (b3.cell (p := ⟨w.heap.size + 1, 0, none⟩) (by first | omega | (simp; omega))).trans (by first | exact c1_0 | exact (World.cell?_alloc_lt _ _ _ lb1_2).trans c1_0)
               have c1_1 := (b3.cell (p := ⟨w.heap.size + 1, 1, none⟩) (by first | omega | (simp; omega))).trans (by first | exact c1_1 | exact (World.cell?_alloc_lt _ _ _ lb1_2).trans c1_1)
               have c1_2 := (b3.cell (p := ⟨w.heap.size + 1, 2, none⟩) (by first | omega | (simp; omega))).trans (by first | exact c1_2 | exact (World.cell?_alloc_lt _ _ _ lb1_2).trans c1_2)
               try have y0 := cell_of_row _ _ 0 _ _ _ ox.out
               try have y1 := cell_of_row _ _ 1 _ _ _ ox.out
               try have y2 := cell_of_row _ _ 2 _ _ _ ox.out
               try have yf := fun j => frozen_of_row _ _ j _ _ ox.out
               have na0_0 : ¬ w.heap.size = w16_.heap.size := by omega
               have nb0_0 : ¬ w16_.heap.size = w.heap.size := by omega
               have na0_1 : ¬ w.heap.size = hv1.heap.size := by omega
               have nb0_1 : ¬ hv1.heap.size = w.heap.size := by omega
               have na0_2 : ¬ w.heap.size = hv2.heap.size := by omega
               have nb0_2 : ¬ hv2.heap.size = w.heap.size := by omega
               have na0_3 : ¬ w.heap.size = hv3.heap.size := by omega
               have nb0_3 : ¬ hv3.heap.size = w.heap.size := by omega
               have na1_0 : ¬ w.heap.size + 1 = w16_.heap.size := by omega
               have nb1_0 : ¬ w16_.heap.size = w.heap.size + 1 := by omega
               have na1_1 : ¬ w.heap.size + 1 = hv1.heap.size := by omega
               have nb1_1 : ¬ hv1.heap.size = w.heap.size + 1 := by omega
               have na1_2 : ¬ w.heap.size + 1 = hv2.heap.size := by omega
               have nb1_2 : ¬ hv2.heap.size = w.heap.size + 1 := by omega
               have na1_3 : ¬ w.heap.size + 1 = hv3.heap.size := by omega
               have nb1_3 : ¬ hv3.heap.size = w.heap.size + 1 := by omega)
            | (go_at_call_of 11 v1
               refine (toBoard_any wd1 hi1 v1 l1 _ (S1_16_.out.below (by repeat (first | with_reducible exact Below.refl _ _ | (with_reducible refine kSet ?_ ?hB _; case hB => (simp; try omega)) | with_reducible refine kAlloc ?_ _ | with_reducible refine Below.drew ?_ | with_reducible refine kDrewN ?_ _ | with_reducible refine kTrans ?_ (by assumption)))).sl m1).mono ?_
               rintro e hv2 ⟨kk2, rfl, yy2, zz2, pp2, b2⟩
               have hp2 := Lib.hid pp2
               clear pp2 yy2
               have nn2 : hv1.heap.size ≤ hv2.heap.size := Nat.le_trans (by first | exact Nat.le_refl _ | simp) b2.size
               try have ox := Lib.hid (show hv2.heap[hv1.heap.size]? = some (.cells #[.int .i8 0, .int .i8 0, .slice none 0 0] 30 (0, 0)) from blk_below (heap_alloc_new hv1 (.cells #[.int .i8 0, .int .i8 0, .slice none 0 0] 30)) b2)
               try have ox := Lib.hid (blk_below ox.out b2)
               have lb0_2 : w.heap.size < hv2.heap.size := Nat.lt_of_lt_of_le lb0_1 nn2
               have c0_0 := (b2.cell (p := ⟨w.heap.size, 0, none⟩) (by first | omega | (simp; omega))).trans (by first | exact c0_0 | exact (World.cell?_alloc_lt _ _ _ lb0_1).trans c0_0)
               have c0_1 := (b2.cell (p := ⟨w.heap.size, 1, none⟩) (by first | omega | (simp; omega))).trans (by first | exact c0_1 | exact (World.cell?_alloc_lt _ _ _ lb0_1).trans c0_1)
               have c0_2 := (b2.cell (p := ⟨w.heap.size, 2, none⟩) (by first | omega | (simp; omega))).trans (by first | exact c0_2 | exact (World.cell?_alloc_lt _ _ _ lb0_1).trans c0_2)
               have lb1_2 : w.heap.size + 1 < hv2.heap.size := Nat.lt_of_lt_of_le lb1_1 nn2
               have c1_0 := (b2.cell (p := ⟨w.heap.size + 1, 0, none⟩) (by first | omega | (simp; omega))).trans (by first | exact c1_0 | exact (World.cell?_alloc_lt _ _ _ lb1_1).trans c1_0)
               have c1_1 := (b2.cell (p := ⟨w.heap.size + 1, 1, none⟩) (by first | omega | (simp; omega))).trans (by first | exact c1_1 | exact (World.cell?_alloc_lt _ _ _ lb1_1).trans c1_1)
               have c1_2 := (b2.cell (p := ⟨w.heap.size + 1, 2, none⟩) (by first | omega | (simp; omega))).trans (by first | exact c1_2 | exact (World.cell?_alloc_lt _ _ _ lb1_1).trans c1_2))
            | (go_at_call_of 11 v0
               refine (toBoard_any wd0 hi0 v0 l0 _ (S0_16_.out.below (by repeat (first | with_reducible exact Below.refl _ _ | (with_reducible refine kSet ?_ ?hB _; case hB => (simp; try omega)) | with_reducible refine kAlloc ?_ _ | with_reducible refine Below.drew ?_ | with_reducible refine kDrewN ?_ _ | with_reducible refine kTrans ?_ (by assumption)))).sl m0).mono ?_
               rintro e hv1 ⟨kk1, rfl, yy1, zz1, pp1, b1⟩
               have hp1 := Lib.hid pp1
               clear pp1 yy1
               have nn1 : w16_.heap.size ≤ hv1.heap.size := Nat.le_trans (by first | exact Nat.le_refl _ | simp) b1.size
               try have ox := Lib.hid (show hv1.heap[w16_.heap.size]? = some (.cells #[.int .i8 0, .int .i8 0, .slice none 0 0] 30 (0, 0)) from blk_below (heap_alloc_new w16_.drew (.cells #[.int .i8 0, .int .i8 0, .slice none 0 0] 30)) b1)
               have lb0_1 : w.heap.size < hv1.heap.size := Nat.lt_of_lt_of_le lb0_0 nn1
               have c0_0 := (b1.cell (p := ⟨w.heap.size, 0, none⟩) (by first | omega | (simp; omega))).trans (by first | exact c0_0 | exact (World.cell?_alloc_lt _ _ _ lb0_0).trans c0_0)
               have c0_1 := (b1.cell (p := ⟨w.heap.size, 1, none⟩) (by first | omega | (simp; omega))).trans (by first | exact c0_1 | exact (World.cell?_alloc_lt _ _ _ lb0_0).trans c0_1)
               have c0_2 := (b1.cell (p := ⟨w.heap.size, 2, none⟩) (by first | omega | (simp; omega))).trans (by first | exact c0_2 | exact (World.cell?_alloc_lt _ _ _ lb0_0).trans c0_2)
               have lb1_1 : w.heap.size + 1 < hv1.heap.size := Nat.lt_of_lt_of_le lb1_0 nn1
               have c1_0 := (b1.cell (p := ⟨w.heap.size + 1, 0, none⟩) (by first | omega | (simp; omega))).trans (by first | exact c1_0 | exact (World.cell?_alloc_lt _ _ _ lb1_0).trans c1_0)
               have c1_1 := (b1.cell (p := ⟨w.heap.size + 1, 1, none⟩) (by first | omega | (simp; omega))).trans (by first | exact c1_1 | exact (World.cell?_alloc_lt _ _ _ lb1_0).trans c1_1)
               have c1_2 := (b1.cell (p := ⟨w.heap.size + 1, 2, none⟩) (by first | omega | (simp; omega))).trans (by first | exact c1_2 | exact (World.cell?_alloc_lt _ _ _ lb1_0).trans c1_2)))
          · go_wp2_with fail
            go_meet
            exact ⟨hv3.heap.size, hv2.heap.size, hv3.heap.size, ua, uc, rfl, rfl, heap_alloc_new _ _, Hv.out.below (kAlloc (Below.refl _ _) _), by omega, by omega, by simp, by omega, .inr (Nat.le_refl _), kAlloc (kTrans (kTrans (kTrans (Below.drew (Below.refl _ _)) b1) b2) b3) _⟩
          · have hc : hv2.heap.size + 1 ≤ hv3.heap.size := by simpa using b3.size
            have Hv2 := Lib.hid (show SlW (hv2.heap.size + 1) hv3.heap.size hv3 lr (.slice ua lr.length uc) by simpa only [World.size_alloc] using Hv.out)
            go_wp2_with fail
            go_meet
            exact ⟨hv2.heap.size, hv2.heap.size + 1, hv3.heap.size, ua, uc, rfl, rfl, box3_set ox.out, Hv2.out.set3 (by show hv2.heap.size < hv2.heap.size + 1; omega) _ _ _, by omega, by omega, by simp [World.setCell], by omega, .inl (by omega), kSet (kSet (kSet (kTrans (kAlloc (kTrans (kTrans (Below.drew (Below.refl _ _)) b1) b2) _) b3) (show w16_.heap.size ≤ hv2.heap.size by omega) _) (show w16_.heap.size ≤ hv2.heap.size by omega) _) (show w16_.heap.size ≤ hv2.heap.size by omega) _⟩
          · have hc : hv1.heap.size + 1 ≤ hv2.heap.size := by simpa using b2.size
            go_wp2_with fail
            go_meet
            exact ⟨hv1.heap.size, hv2.heap.size, hv3.heap.size, ua, uc, rfl, rfl, box3_set ox.out, Hv.out.set3 (by show hv1.heap.size < hv2.heap.size; omega) _ _ _, by omega, by omega, by simp [World.setCell], by omega, .inl (by omega), kSet (kSet (kSet (kTrans (kTrans (kAlloc (kTrans (Below.drew (Below.refl _ _)) b1) _) b2) b3) (show w16_.heap.size ≤ hv1.heap.size by omega) _) (show w16_.heap.size ≤ hv1.heap.size by omega) _) (show w16_.heap.size ≤ hv1.heap.size by omega) _⟩
          · have hc : w16_.heap.size + 1 ≤ hv1.heap.size := by simpa using b1.size
            go_wp2_with fail
            go_meet
            exact ⟨w16_.heap.size, hv2.heap.size, hv3.heap.size, ua, uc, rfl, rfl, box3_set ox.out, Hv.out.set3 (by show w16_.heap.size < hv2.heap.size; omega) _ _ _, by omega, by omega, by simp [World.setCell], by omega, .inl (by omega), kSet (kSet (kSet (kTrans (kTrans (kTrans (kAlloc (Below.drew (Below.refl _ _)) _) b1) b2) b3) (show w16_.heap.size ≤ w16_.heap.size by omega) _) (show w16_.heap.size ≤ w16_.heap.size by omega) _) (show w16_.heap.size ≤ w16_.heap.size by omega) _⟩
        case rest =>
          skip
          obtain ⟨xbh, loh, hih, uah0, uch0, rfl, rfl, hx_, hv_, gh1, gh2, gh3, gh4, gh5, b17_⟩ := hcut
          obtain ⟨w17_, rfl⟩ : ∃ W : World, W = wc := ⟨_, rfl⟩
          have gh6 := blk_lt hx_
          have Rh0_17_ := Lib.hid hv_
          have Xh0_17_ := Lib.hid hx_
          clear hv_ hx_
          have n17_ : w16_.heap.size ≤ w17_.heap.size := b17_.size
          have T17_ : Below w.heap.size w w17_ := kTrans T16_ b17_
          have Rw0_17_ := Lib.hid (Rw0_16_.out.below b17_)
          have Xw0_17_ := Lib.hid (blk_below Xw0_16_.out b17_)
          have Rg0_17_ := Lib.hid (Rg0_16_.out.below b17_)
          have Xg0_17_ := Lib.hid (blk_below Xg0_16_.out b17_)
          clear S0_16_ S1_16_ A0_16_ A1_16_ Rw0_16_ Xw0_16_ Rg0_16_ Xg0_16_ b17_ T16_
          have c0_0 : w17_.cell? ⟨xbh, 0, none⟩ = some (.int .i8 Wr) := cell_of_row _ _ 0 _ _ _ Xh0_17_.out
          have c0_1 : w17_.cell? ⟨xbh, 1, none⟩ = some (.int .i8 Hr) := cell_of_row _ _ 1 _ _ _ Xh0_17_.out
          have c0_2 : w17_.cell? ⟨xbh, 2, none⟩ = some (.slice uah0 lr.length uch0) := cell_of_row _ _ 2 _ _ _ Xh0_17_.out
          have c1_0 : w17_.cell? ⟨xbw, 0, none⟩ = some (.int .i8 Wr) := cell_of_row _ _ 0 _ _ _ Xw0_17_.out
          have c1_1 : w17_.cell? ⟨xbw, 1, none⟩ = some (.int .i8 Hr) := cell_of_row _ _ 1 _ _ _ Xw0_17_.out
          have c1_2 : w17_.cell? ⟨xbw, 2, none⟩ = some (.slice uaw0 lr.length ucw0) := cell_of_row _ _ 2 _ _ _ Xw0_17_.out
          go_wp2_with fail
          refine (eqBoard_any Wr Hr _ _ lr _ Rh0_17_.out.sl Rw0_17_.out.sl al0 hr0).mono ?_
          rintro e w18_ ⟨rfl, b18_⟩
          have n18_ : w17_.heap.size ≤ w18_.heap.size := b18_.size
          have T18_ : Below w.heap.size w w18_ := kTrans T17_ b18_
          have Rw0_18_ := Lib.hid (Rw0_17_.out.below b18_)
          have Xw0_18_ := Lib.hid (blk_below Xw0_17_.out b18_)
          have Rg0_18_ := Lib.hid (Rg0_17_.out.below b18_)
          have Xg0_18_ := Lib.hid (blk_below Xg0_17_.out b18_)
          have Rh0_18_ := Lib.hid (Rh0_17_.out.below b18_)
          have Xh0_18_ := Lib.hid (blk_below Xh0_17_.out b18_)
          clear c0_0 c0_1 c0_2 c1_0 c1_1 c1_2 Rw0_17_ Xw0_17_ Rg0_17_ Xg0_17_ Rh0_17_ Xh0_17_ b18_ T17_
          have c0_0 : w18_.cell? ⟨w6_.heap.size, 0, none⟩ = some (.int .i8 Wr) := cell_of_row _ _ 0 _ _ _ Xg0_18_.out
          have c0_1 : w18_.cell? ⟨w6_.heap.size, 1, none⟩ = some (.int .i8 Hr) := cell_of_row _ _ 1 _ _ _ Xg0_18_.out
          have c0_2 : w18_.cell? ⟨w6_.heap.size, 2, none⟩ = some (.slice uag0 lr.length ucg0) := cell_of_row _ _ 2 _ _ _ Xg0_18_.out
          go_wp2_with fail
          refine (heldBoard_any _ _ lr.length Wr Hr _ (1) _ Rg0_18_.out (by omega) (by omega) hr0).mono ?_
          rintro e w19_ ⟨rfl, b19_⟩
          have n19_ : w18_.heap.size ≤ w19_.heap.size := b19_.size
          have T19_ : Below w.heap.size w w19_ := kTrans T18_ b19_
          have Rw0_19_ := Lib.hid (Rw0_18_.out.below b19_)
          have Xw0_19_ := Lib.hid (blk_below Xw0_18_.out b19_)
          have Rg0_19_ := Lib.hid (Rg0_18_.out.below b19_)
          have Xg0_19_ := Lib.hid (blk_below Xg0_18_.out b19_)
          have Rh0_19_ := Lib.hid (Rh0_18_.out.below b19_)
          have Xh0_19_ := Lib.hid (blk_below Xh0_18_.out b19_)
          clear c0_0 c0_1 c0_2 Rw0_18_ Xw0_18_ Rg0_18_ Xg0_18_ Rh0_18_ Xh0_18_ b19_ T18_
          go_wp2
          go_ret
          exact ⟨rfl, T19_⟩
end Go.Proofs.Ytlmnoopoohdbkaa.JoinBoards
