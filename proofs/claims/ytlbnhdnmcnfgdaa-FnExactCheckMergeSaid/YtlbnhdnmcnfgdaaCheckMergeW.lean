/- 'CheckMerge' answers as its model at every argument. No conditions. -/
import Derived.Test.YtlbnhdnmcnfgdaaCm3
import Derived.Test.YtlbnhdnmcnfgdaaCm4
import Derived.Test.YtlbnhdnmcnfgdaaIl
import Derived.Deep.RegionHeld3
import Derived.Deep.DeepCutAuto
namespace Go.Proofs.Ytlbnhdnmcnfgdaa.CheckMerge
open Go.ChangeShapes Go.WideShapes Go.ChangeAt Go.RowKit
set_option linter.unusedVariables false

set_option maxRecDepth 100000 in
set_option maxHeartbeats 16000000 in
theorem walk {w : World} (wd0 : Int) (v0 t0 : Value) (l0 : List Nd) (lo0 : List Int) (bw0 : i8 wd0) (s0 : SlNd w l0 v0) (a0 : NdsWf l0) (e0 : l0.length ≤ maxLen) (so0 : SlSh w lo0 t0) (ao0 : ShsWf lo0) (eo0 : lo0.length ≤ maxLen) (wd1 : Int) (v1 t1 : Value) (l1 : List Nd) (lo1 : List Int) (bw1 : i8 wd1) (s1 : SlNd w l1 v1) (a1 : NdsWf l1) (e1 : l1.length ≤ maxLen) (so1 : SlSh w lo1 t1) (ao1 : ShsWf lo1) (eo1 : lo1.length ≤ maxLen) (x2a : Option Addr) (x2c : Nat) (l2 : List Int) (s2 : SlIn w l2 (.slice x2a l2.length x2c)) (a2 : InsWf l2) (e2 : l2.length ≤ maxLen) :
    Calls Try.prog 9 #[.agg #[.int .i8 wd0, v0, t0], .agg #[.int .i8 wd1, v1, t1], .slice x2a l2.length x2c] w fun e w' => e = .returned (.bool true) ∧ Below w.heap.size w w' := by
  unfold maxLen at e2 e0 eo0 e1 eo1
  have S0_ := Lib.hid (NSO.start s0 so0)
  clear so0
  have S1_ := Lib.hid (NSO.start s1 so1)
  clear so1
  have S2_ := Lib.hid (SlOIn.start s2)
  clear s0 s1 s2
  by_cases hx2 : 1048576 < l2.length
  · have hy2 : (1048576 : Int) < (l2.length : Int) := by omega
    have hz2 : decide ((1048576 : Int) < (l2.length : Int)) = true := by simpa using hy2
    clear S0_ S1_ S2_
    go_enter Try.func9, Try.ntmps9
    go_wp2
    go_ret
    exact ⟨rfl, by repeat (first | with_reducible exact Below.refl _ _ | (with_reducible refine kSet ?_ ?hB _; case hB => (simp; try omega)) | with_reducible refine kAlloc ?_ _ | with_reducible refine Below.drew ?_ | with_reducible refine kDrewN ?_ _ | with_reducible refine kTrans ?_ (by assumption))⟩
  have hy2 : ¬ (1048576 : Int) < (l2.length : Int) := by omega
  have hz2 : decide ((1048576 : Int) < (l2.length : Int)) = false := by simpa using hy2
  by_cases h0 : 1048576 - (l0.length : Int) - (lo0.length : Int) < 0
  · skip
    have bE : Below w.heap.size w ((w.alloc (.cells #[.int .i8 wd0, v0, t0] 26)).alloc (.cells #[.int .i8 wd1, v1, t1] 26)) := (kAlloc (kAlloc (Below.refl _ _) _) _)
    go_enter Try.func9, Try.ntmps9
    go_wp2_with fail
    refine (szN wd0 v0 t0 l0 lo0 _ (S0_.out.below bE) (1048576) e0 eo0 (by omega) (by omega)).mono ?_
    rw [if_pos (by omega)]
    rintro e w1_ ⟨rfl, b1_⟩
    have B1_ : Below w.heap.size w w1_ := kTrans (kAlloc (kAlloc (Below.refl _ _) _) _) b1_
    have n1_ : w.heap.size + 2 ≤ w1_.heap.size := by have := b1_.size; simpa using this
    have T1_ : Below w.heap.size w w1_ := B1_
    have S0_1_ := Lib.hid (S0_.out.below B1_)
    have S1_1_ := Lib.hid (S1_.out.below B1_)
    have S2_1_ := Lib.hid (S2_.out.below B1_)
    have A0_1_ := Lib.hid (blk_below ((Below.heap_alloc (w.alloc (.cells #[.int .i8 wd0, v0, t0] 26)) (.cells #[.int .i8 wd1, v1, t1] 26) _ (by simp)).trans (heap_alloc_new w (.cells #[.int .i8 wd0, v0, t0] 26))) b1_)
    have A1_1_ := Lib.hid (blk_below (heap_two w (.cells #[.int .i8 wd0, v0, t0] 26) (.cells #[.int .i8 wd1, v1, t1] 26)) b1_)
    clear bE S0_ S1_ S2_ b1_ B1_
    go_wp2
    go_ret
    exact ⟨rfl, T1_⟩
  · skip
    have h0' : ¬ 1048576 - (l0.length : Int) < (lo0.length : Int) := by omega
    by_cases h1 : 1048576 - (l0.length : Int) - (lo0.length : Int) - (l1.length : Int) - (lo1.length : Int) < 0
    · skip
      have bE : Below w.heap.size w ((w.alloc (.cells #[.int .i8 wd0, v0, t0] 26)).alloc (.cells #[.int .i8 wd1, v1, t1] 26)) := (kAlloc (kAlloc (Below.refl _ _) _) _)
      go_enter Try.func9, Try.ntmps9
      go_wp2_with fail
      refine (szN wd0 v0 t0 l0 lo0 _ (S0_.out.below bE) (1048576) e0 eo0 (by omega) (by omega)).mono ?_
      rw [if_neg (by omega)]
      rintro e w1_ ⟨rfl, b1_⟩
      have B1_ : Below w.heap.size w w1_ := kTrans (kAlloc (kAlloc (Below.refl _ _) _) _) b1_
      have n1_ : w.heap.size + 2 ≤ w1_.heap.size := by have := b1_.size; simpa using this
      have T1_ : Below w.heap.size w w1_ := B1_
      have S0_1_ := Lib.hid (S0_.out.below B1_)
      have S1_1_ := Lib.hid (S1_.out.below B1_)
      have S2_1_ := Lib.hid (S2_.out.below B1_)
      have A0_1_ := Lib.hid (blk_below ((Below.heap_alloc (w.alloc (.cells #[.int .i8 wd0, v0, t0] 26)) (.cells #[.int .i8 wd1, v1, t1] 26) _ (by simp)).trans (heap_alloc_new w (.cells #[.int .i8 wd0, v0, t0] 26))) b1_)
      have A1_1_ := Lib.hid (blk_below (heap_two w (.cells #[.int .i8 wd0, v0, t0] 26) (.cells #[.int .i8 wd1, v1, t1] 26)) b1_)
      clear bE S0_ S1_ S2_ b1_ B1_
      have c0_0 : w1_.cell? ⟨w.heap.size + 1, 0, none⟩ = some (.int .i8 wd1) := cell_of_row _ _ 0 _ _ _ A1_1_.out
      have c0_1 : w1_.cell? ⟨w.heap.size + 1, 1, none⟩ = some (v1) := cell_of_row _ _ 1 _ _ _ A1_1_.out
      have c0_2 : w1_.cell? ⟨w.heap.size + 1, 2, none⟩ = some (t1) := cell_of_row _ _ 2 _ _ _ A1_1_.out
      go_wp2_with fail
      refine (szN wd1 v1 t1 l1 lo1 _ S1_1_.out (1048576 - (l0.length : Int) - (lo0.length : Int)) e1 eo1 (by omega) (by omega)).mono ?_
      rw [if_pos (by omega)]
      rintro e w2_ ⟨rfl, b2_⟩
      have n2_ : w1_.heap.size ≤ w2_.heap.size := b2_.size
      have T2_ : Below w.heap.size w w2_ := kTrans T1_ b2_
      have S0_2_ := Lib.hid (S0_1_.out.below b2_)
      have S1_2_ := Lib.hid (S1_1_.out.below b2_)
      have S2_2_ := Lib.hid (S2_1_.out.below b2_)
      have A0_2_ := Lib.hid (blk_below A0_1_.out b2_)
      have A1_2_ := Lib.hid (blk_below A1_1_.out b2_)
      clear c0_0 c0_1 c0_2 S0_1_ S1_1_ S2_1_ A0_1_ A1_1_ b2_ T1_
      go_wp2
      go_ret
      exact ⟨rfl, T2_⟩
    · skip
      have h1' : ¬ 1048576 - (l0.length : Int) - (lo0.length : Int) - (l1.length : Int) < (lo1.length : Int) := by omega
      have m0 : l0.length ≤ 1048576 := by omega
      have q0 : (3 : Int) * l0.length ≤ 3145728 := by omega
      have mo0 : lo0.length ≤ 1048576 := by omega
      have qo0 : (1 : Int) * lo0.length ≤ 1048576 := by omega
      have m1 : l1.length ≤ 1048576 := by omega
      have q1 : (3 : Int) * l1.length ≤ 3145728 := by omega
      have mo1 : lo1.length ≤ 1048576 := by omega
      have qo1 : (1 : Int) * lo1.length ≤ 1048576 := by omega
      have m2 : l2.length ≤ 1048576 := by omega
      have q2 : (1 : Int) * l2.length ≤ 1048576 := by omega
      obtain ⟨R1, hR1⟩ : ∃ R, R = netOk wd0 l0 lo0 := ⟨_, rfl⟩
      obtain ⟨R2, hR2⟩ : ∃ R, R = netOk wd1 l1 lo1 := ⟨_, rfl⟩
      obtain ⟨B, C, hQ⟩ : ∃ B C, mergeQ R1 R2 wd0 wd1 l0 l1 lo0 lo1 l2 = (B, C) := ⟨_, _, rfl⟩
      have Hs := Lib.hid (fun b0 k0 b1 k1 b2 w2 (hp0 : NK w2 b0 k0 l0 lo0) (hp1 : NK w2 b1 k1 l1 lo1) (hp2 : InsAt w2 b2 0 l2) (hz2 : b2 < w2.heap.size) => specCheckMerge_any b0 k0 b1 k1 b2 wd0 wd1 l0 l1 lo0 lo1 l2 w2 hp0 hp1 hp2 hz2 a0 ao0 a1 ao1 bw0 bw1 m0 mo0 m1 mo1 R1 R2 hR1 hR2 B C hQ)
      have Hi := Lib.hid (fun b0 k0 b1 k1 b2 w2 (hp0 : NK w2 b0 k0 l0 lo0) (hp1 : NK w2 b1 k1 l1 lo1) (hp2 : InsAt w2 b2 0 l2) (hz2 : b2 < w2.heap.size) => implCheckMerge_any b0 k0 b1 k1 b2 wd0 wd1 l0 l1 lo0 lo1 l2 w2 hp0 hp1 hp2 hz2 a0 ao0 a1 ao1 bw0 bw1 m0 mo0 m1 mo1 R1 R2 hR1 hR2 B C hQ)
      clear hR1 hR2 hQ
      have bE : Below w.heap.size w ((w.alloc (.cells #[.int .i8 wd0, v0, t0] 26)).alloc (.cells #[.int .i8 wd1, v1, t1] 26)) := (kAlloc (kAlloc (Below.refl _ _) _) _)
      go_enter Try.func9, Try.ntmps9
      go_wp2_with fail
      refine (szN wd0 v0 t0 l0 lo0 _ (S0_.out.below bE) (1048576) e0 eo0 (by omega) (by omega)).mono ?_
      rw [if_neg (by omega)]
      rintro e w1_ ⟨rfl, b1_⟩
      have B1_ : Below w.heap.size w w1_ := kTrans (kAlloc (kAlloc (Below.refl _ _) _) _) b1_
      have n1_ : w.heap.size + 2 ≤ w1_.heap.size := by have := b1_.size; simpa using this
      have T1_ : Below w.heap.size w w1_ := B1_
      have S0_1_ := Lib.hid (S0_.out.below B1_)
      have S1_1_ := Lib.hid (S1_.out.below B1_)
      have S2_1_ := Lib.hid (S2_.out.below B1_)
      have A0_1_ := Lib.hid (blk_below ((Below.heap_alloc (w.alloc (.cells #[.int .i8 wd0, v0, t0] 26)) (.cells #[.int .i8 wd1, v1, t1] 26) _ (by simp)).trans (heap_alloc_new w (.cells #[.int .i8 wd0, v0, t0] 26))) b1_)
      have A1_1_ := Lib.hid (blk_below (heap_two w (.cells #[.int .i8 wd0, v0, t0] 26) (.cells #[.int .i8 wd1, v1, t1] 26)) b1_)
      clear bE S0_ S1_ S2_ b1_ B1_
      have c0_0 : w1_.cell? ⟨w.heap.size + 1, 0, none⟩ = some (.int .i8 wd1) := cell_of_row _ _ 0 _ _ _ A1_1_.out
      have c0_1 : w1_.cell? ⟨w.heap.size + 1, 1, none⟩ = some (v1) := cell_of_row _ _ 1 _ _ _ A1_1_.out
      have c0_2 : w1_.cell? ⟨w.heap.size + 1, 2, none⟩ = some (t1) := cell_of_row _ _ 2 _ _ _ A1_1_.out
      go_wp2_with fail
      refine (szN wd1 v1 t1 l1 lo1 _ S1_1_.out (1048576 - (l0.length : Int) - (lo0.length : Int)) e1 eo1 (by omega) (by omega)).mono ?_
      rw [if_neg (by omega)]
      rintro e w2_ ⟨rfl, b2_⟩
      have n2_ : w1_.heap.size ≤ w2_.heap.size := b2_.size
      have T2_ : Below w.heap.size w w2_ := kTrans T1_ b2_
      have S0_2_ := Lib.hid (S0_1_.out.below b2_)
      have S1_2_ := Lib.hid (S1_1_.out.below b2_)
      have S2_2_ := Lib.hid (S2_1_.out.below b2_)
      have A0_2_ := Lib.hid (blk_below A0_1_.out b2_)
      have A1_2_ := Lib.hid (blk_below A1_1_.out b2_)
      clear c0_0 c0_1 c0_2 S0_1_ S1_1_ S2_1_ A0_1_ A1_1_ b2_ T1_
      have c0_0 : w2_.cell? ⟨w.heap.size, 0, none⟩ = some (.int .i8 wd0) := cell_of_row _ _ 0 _ _ _ A0_2_.out
      have c0_1 : w2_.cell? ⟨w.heap.size, 1, none⟩ = some (v0) := cell_of_row _ _ 1 _ _ _ A0_2_.out
      have c0_2 : w2_.cell? ⟨w.heap.size, 2, none⟩ = some (t0) := cell_of_row _ _ 2 _ _ _ A0_2_.out
      have c1_0 : w2_.cell? ⟨w.heap.size + 1, 0, none⟩ = some (.int .i8 wd1) := cell_of_row _ _ 0 _ _ _ A1_2_.out
      have c1_1 : w2_.cell? ⟨w.heap.size + 1, 1, none⟩ = some (v1) := cell_of_row _ _ 1 _ _ _ A1_2_.out
      have c1_2 : w2_.cell? ⟨w.heap.size + 1, 2, none⟩ = some (t1) := cell_of_row _ _ 2 _ _ _ A1_2_.out
      have lb0_0 : w.heap.size < w2_.heap.size := blk_lt A0_2_.out
      have lb1_0 : w.heap.size + 1 < w2_.heap.size := blk_lt A1_2_.out
      go_wp2_with fail
      go_region_held3 (fun w' => w'.cell? ⟨w.heap.size, 0, none⟩ = some (.int .i8 wd0) ∧ w'.cell? ⟨w.heap.size, 1, none⟩ = some (v0) ∧ w'.cell? ⟨w.heap.size, 2, none⟩ = some (t0) ∧ w'.cell? ⟨w.heap.size + 1, 0, none⟩ = some (.int .i8 wd1) ∧ w'.cell? ⟨w.heap.size + 1, 1, none⟩ = some (v1) ∧ w'.cell? ⟨w.heap.size + 1, 2, none⟩ = some (t1)) (go_keep)
        (first
        | (go_at_call 32
           refine (Hs.out kb1 kk1 kb2 kk2 hv2.heap.size _ ((hp1.out.below b2).below b3) (hp2.out.below b3) hp3.out zz3).mono ?_
           rintro e hv4 ⟨rfl, b4⟩
           have kv4 : Below w2_.heap.size w2_ hv4 := kTrans kv3 b4
           have lb0_4 : w.heap.size < hv4.heap.size := Nat.lt_of_lt_of_le lb0_3 b4.size
           have c0_0 := (b4.cell (p := ⟨w.heap.size, 0, none⟩) lb0_3).trans c0_0
           have c0_1 := (b4.cell (p := ⟨w.heap.size, 1, none⟩) lb0_3).trans c0_1
           have c0_2 := (b4.cell (p := ⟨w.heap.size, 2, none⟩) lb0_3).trans c0_2
           have lb1_4 : w.heap.size + 1 < hv4.heap.size := Nat.lt_of_lt_of_le lb1_3 b4.size
           have c1_0 := (b4.cell (p := ⟨w.heap.size + 1, 0, none⟩) lb1_3).trans c1_0
           have c1_1 := (b4.cell (p := ⟨w.heap.size + 1, 1, none⟩) lb1_3).trans c1_1
           have c1_2 := (b4.cell (p := ⟨w.heap.size + 1, 2, none⟩) lb1_3).trans c1_2)
        | (go_at_call 33
           refine (toInt64S_any (.slice x2a l2.length x2c) l2 _ (S2_2_.out.below kv2).sl m2).mono ?_
           rintro e hv3 ⟨rfl, pp3, zz3, ff3, b3⟩
           have hp3 := Lib.hid pp3
           clear pp3 ff3
           have kv3 : Below w2_.heap.size w2_ hv3 := kTrans kv2 b3
           have lb0_3 : w.heap.size < hv3.heap.size := Nat.lt_of_lt_of_le lb0_2 b3.size
           have c0_0 := (b3.cell (p := ⟨w.heap.size, 0, none⟩) lb0_2).trans c0_0
           have c0_1 := (b3.cell (p := ⟨w.heap.size, 1, none⟩) lb0_2).trans c0_1
           have c0_2 := (b3.cell (p := ⟨w.heap.size, 2, none⟩) lb0_2).trans c0_2
           have lb1_3 : w.heap.size + 1 < hv3.heap.size := Nat.lt_of_lt_of_le lb1_2 b3.size
           have c1_0 := (b3.cell (p := ⟨w.heap.size + 1, 0, none⟩) lb1_2).trans c1_0
           have c1_1 := (b3.cell (p := ⟨w.heap.size + 1, 1, none⟩) lb1_2).trans c1_1
           have c1_2 := (b3.cell (p := ⟨w.heap.size + 1, 2, none⟩) lb1_2).trans c1_2)
        | (go_at_call_of 14 v1
           refine (toN_own wd1 v1 t1 l1 lo1 _ (S1_2_.out.below kv1) m1 mo1).mono ?_
           rintro e hv2 ⟨kb2, kk2, rfl, pp2, b2⟩
           have hp2 := Lib.hid pp2.pk
           clear pp2
           have kv2 : Below w2_.heap.size w2_ hv2 := kTrans kv1 b2
           have lb0_2 : w.heap.size < hv2.heap.size := Nat.lt_of_lt_of_le lb0_1 b2.size
           have c0_0 := (b2.cell (p := ⟨w.heap.size, 0, none⟩) lb0_1).trans c0_0
           have c0_1 := (b2.cell (p := ⟨w.heap.size, 1, none⟩) lb0_1).trans c0_1
           have c0_2 := (b2.cell (p := ⟨w.heap.size, 2, none⟩) lb0_1).trans c0_2
           have lb1_2 : w.heap.size + 1 < hv2.heap.size := Nat.lt_of_lt_of_le lb1_1 b2.size
           have c1_0 := (b2.cell (p := ⟨w.heap.size + 1, 0, none⟩) lb1_1).trans c1_0
           have c1_1 := (b2.cell (p := ⟨w.heap.size + 1, 1, none⟩) lb1_1).trans c1_1
           have c1_2 := (b2.cell (p := ⟨w.heap.size + 1, 2, none⟩) lb1_1).trans c1_2)
        | (go_at_call_of 14 v0
           refine (toN_own wd0 v0 t0 l0 lo0 _ (S0_2_.out.below (Below.drew (Below.refl _ _))) m0 mo0).mono ?_
           rintro e hv1 ⟨kb1, kk1, rfl, pp1, b1⟩
           have hp1 := Lib.hid pp1.pk
           clear pp1
           have kv1 : Below w2_.heap.size w2_ hv1 := kTrans (Below.drew (Below.refl _ _)) b1
           have lb0_1 : w.heap.size < hv1.heap.size := Nat.lt_of_lt_of_le lb0_0 b1.size
           have c0_0 := (b1.cell (p := ⟨w.heap.size, 0, none⟩) lb0_0).trans c0_0
           have c0_1 := (b1.cell (p := ⟨w.heap.size, 1, none⟩) lb0_0).trans c0_1
           have c0_2 := (b1.cell (p := ⟨w.heap.size, 2, none⟩) lb0_0).trans c0_2
           have lb1_1 : w.heap.size + 1 < hv1.heap.size := Nat.lt_of_lt_of_le lb1_0 b1.size
           have c1_0 := (b1.cell (p := ⟨w.heap.size + 1, 0, none⟩) lb1_0).trans c1_0
           have c1_1 := (b1.cell (p := ⟨w.heap.size + 1, 1, none⟩) lb1_0).trans c1_1
           have c1_2 := (b1.cell (p := ⟨w.heap.size + 1, 2, none⟩) lb1_0).trans c1_2))
      have n3_ : w2_.heap.size ≤ hv4.heap.size := kv4.size
      have T3_ : Below w.heap.size w hv4 := kTrans T2_ kv4
      have S0_3_ := Lib.hid (S0_2_.out.below kv4)
      have S1_3_ := Lib.hid (S1_2_.out.below kv4)
      have S2_3_ := Lib.hid (S2_2_.out.below kv4)
      have A0_3_ := Lib.hid (blk_below A0_2_.out kv4)
      have A1_3_ := Lib.hid (blk_below A1_2_.out kv4)
      clear c0_0 c0_1 c0_2 c1_0 c1_1 c1_2 lb0_0 lb1_0 hp1 b1 kv1 lb0_1 lb1_1 hp2 b2 kv2 lb0_2 lb1_2 zz3 hp3 b3 kv3 lb0_3 lb1_3 b4 lb0_4 lb1_4 S0_2_ S1_2_ S2_2_ A0_2_ A1_2_ kv4 T2_
      have c0_0 : hv4.cell? ⟨w.heap.size, 0, none⟩ = some (.int .i8 wd0) := cell_of_row _ _ 0 _ _ _ A0_3_.out
      have c0_1 : hv4.cell? ⟨w.heap.size, 1, none⟩ = some (v0) := cell_of_row _ _ 1 _ _ _ A0_3_.out
      have c0_2 : hv4.cell? ⟨w.heap.size, 2, none⟩ = some (t0) := cell_of_row _ _ 2 _ _ _ A0_3_.out
      go_wp2_with fail
      refine (toN_own wd0 v0 t0 l0 lo0 _ S0_3_.out m0 mo0).mono ?_
      rintro e w4_ ⟨kb4_, kk4_, rfl, p4_, b4_⟩
      have n4_ : hv4.heap.size ≤ w4_.heap.size := b4_.size
      have T4_ : Below w.heap.size w w4_ := kTrans T3_ b4_
      have P0i_4_ := Lib.hid p4_.pk
      have V0_4_ := Lib.hid p4_
      clear p4_
      have S0_4_ := Lib.hid (S0_3_.out.below b4_)
      have S1_4_ := Lib.hid (S1_3_.out.below b4_)
      have S2_4_ := Lib.hid (S2_3_.out.below b4_)
      have A0_4_ := Lib.hid (blk_below A0_3_.out b4_)
      have A1_4_ := Lib.hid (blk_below A1_3_.out b4_)
      clear c0_0 c0_1 c0_2 S0_3_ S1_3_ S2_3_ A0_3_ A1_3_ b4_ T3_
      have bE : Below w4_.heap.size w4_ (w4_.alloc (.cells #[.int .i8 wd0, .slice (some ⟨kb4_, 0, none⟩) l0.length l0.length, .slice (some ⟨kk4_, 0, none⟩) lo0.length lo0.length] 31)) := (kAlloc (Below.refl _ _) _)
      have c0_0 : (w4_.alloc (.cells #[.int .i8 wd0, .slice (some ⟨kb4_, 0, none⟩) l0.length l0.length, .slice (some ⟨kk4_, 0, none⟩) lo0.length lo0.length] 31)).cell? ⟨w.heap.size + 1, 0, none⟩ = some (.int .i8 wd1) := cell_of_row _ _ 0 _ _ _ (blk_below A1_4_.out bE)
      have c0_1 : (w4_.alloc (.cells #[.int .i8 wd0, .slice (some ⟨kb4_, 0, none⟩) l0.length l0.length, .slice (some ⟨kk4_, 0, none⟩) lo0.length lo0.length] 31)).cell? ⟨w.heap.size + 1, 1, none⟩ = some (v1) := cell_of_row _ _ 1 _ _ _ (blk_below A1_4_.out bE)
      have c0_2 : (w4_.alloc (.cells #[.int .i8 wd0, .slice (some ⟨kb4_, 0, none⟩) l0.length l0.length, .slice (some ⟨kk4_, 0, none⟩) lo0.length lo0.length] 31)).cell? ⟨w.heap.size + 1, 2, none⟩ = some (t1) := cell_of_row _ _ 2 _ _ _ (blk_below A1_4_.out bE)
      go_wp2_with fail
      refine (toN_own wd1 v1 t1 l1 lo1 _ (S1_4_.out.below bE) m1 mo1).mono ?_
      rintro e w5_ ⟨kb5_, kk5_, rfl, p5_, b5_⟩
      have B5_ : Below w4_.heap.size w4_ w5_ := kTrans (kAlloc (Below.refl _ _) _) b5_
      have n5_ : w4_.heap.size + 1 ≤ w5_.heap.size := by have := b5_.size; simpa using this
      have T5_ : Below w.heap.size w w5_ := kTrans T4_ B5_
      simp only [World.size_alloc] at p5_
      have P1i_5_ := Lib.hid p5_.pk
      have V1_5_ := Lib.hid p5_
      clear p5_
      have S0_5_ := Lib.hid (S0_4_.out.below B5_)
      have S1_5_ := Lib.hid (S1_4_.out.below B5_)
      have S2_5_ := Lib.hid (S2_4_.out.below B5_)
      have A0_5_ := Lib.hid (blk_below A0_4_.out B5_)
      have A1_5_ := Lib.hid (blk_below A1_4_.out B5_)
      have P0i_5_ := Lib.hid (P0i_4_.out.below B5_)
      have V0_5_ := Lib.hid (V0_4_.out.below B5_)
      have X0_5_ := Lib.hid (blk_below (heap_alloc_new w4_ (.cells #[.int .i8 wd0, .slice (some ⟨kb4_, 0, none⟩) l0.length l0.length, .slice (some ⟨kk4_, 0, none⟩) lo0.length lo0.length] 31)) b5_)
      clear bE c0_0 c0_1 c0_2 S0_4_ S1_4_ S2_4_ A0_4_ A1_4_ P0i_4_ V0_4_ b5_ B5_ T4_
      have bE : Below w5_.heap.size w5_ (w5_.alloc (.cells #[.int .i8 wd1, .slice (some ⟨kb5_, 0, none⟩) l1.length l1.length, .slice (some ⟨kk5_, 0, none⟩) lo1.length lo1.length] 31)) := (kAlloc (Below.refl _ _) _)
      go_wp2_with fail
      refine (toInt64S_any (.slice x2a l2.length x2c) l2 _ (S2_5_.out.below bE).sl m2).mono ?_
      rintro e w6_ ⟨rfl, p6_, z6_, f6_, b6_⟩
      have B6_ : Below w5_.heap.size w5_ w6_ := kTrans (kAlloc (Below.refl _ _) _) b6_
      have n6_ : w5_.heap.size + 1 ≤ w6_.heap.size := by have := b6_.size; simpa using this
      have T6_ : Below w.heap.size w w6_ := kTrans T5_ B6_
      simp only [World.size_alloc] at p6_ z6_ f6_
      have P2i_6_ := Lib.hid p6_
      have V2_6_ := Lib.hid (SlWIn.mk (lo := w5_.heap.size + 1) (hi := w6_.heap.size) (w5_.heap.size + 1) 0 l2.length p6_ (Nat.le_refl _) z6_ z6_ f6_ (Nat.le_refl _))
      clear p6_ f6_
      have S0_6_ := Lib.hid (S0_5_.out.below B6_)
      have S1_6_ := Lib.hid (S1_5_.out.below B6_)
      have S2_6_ := Lib.hid (S2_5_.out.below B6_)
      have A0_6_ := Lib.hid (blk_below A0_5_.out B6_)
      have A1_6_ := Lib.hid (blk_below A1_5_.out B6_)
      have P0i_6_ := Lib.hid (P0i_5_.out.below B6_)
      have V0_6_ := Lib.hid (V0_5_.out.below B6_)
      have P1i_6_ := Lib.hid (P1i_5_.out.below B6_)
      have V1_6_ := Lib.hid (V1_5_.out.below B6_)
      have X0_6_ := Lib.hid (blk_below X0_5_.out B6_)
      have X1_6_ := Lib.hid (blk_below (heap_alloc_new w5_ (.cells #[.int .i8 wd1, .slice (some ⟨kb5_, 0, none⟩) l1.length l1.length, .slice (some ⟨kk5_, 0, none⟩) lo1.length lo1.length] 31)) b6_)
      clear bE S0_5_ S1_5_ S2_5_ A0_5_ A1_5_ P0i_5_ V0_5_ P1i_5_ V1_5_ X0_5_ b6_ B6_ T5_
      have c0_0 : w6_.cell? ⟨w4_.heap.size, 0, none⟩ = some (.int .i8 wd0) := cell_of_row _ _ 0 _ _ _ X0_6_.out
      have c0_1 : w6_.cell? ⟨w4_.heap.size, 1, none⟩ = some (.slice (some ⟨kb4_, 0, none⟩) l0.length l0.length) := cell_of_row _ _ 1 _ _ _ X0_6_.out
      have c0_2 : w6_.cell? ⟨w4_.heap.size, 2, none⟩ = some (.slice (some ⟨kk4_, 0, none⟩) lo0.length lo0.length) := cell_of_row _ _ 2 _ _ _ X0_6_.out
      have c1_0 : w6_.cell? ⟨w5_.heap.size, 0, none⟩ = some (.int .i8 wd1) := cell_of_row _ _ 0 _ _ _ X1_6_.out
      have c1_1 : w6_.cell? ⟨w5_.heap.size, 1, none⟩ = some (.slice (some ⟨kb5_, 0, none⟩) l1.length l1.length) := cell_of_row _ _ 1 _ _ _ X1_6_.out
      have c1_2 : w6_.cell? ⟨w5_.heap.size, 2, none⟩ = some (.slice (some ⟨kk5_, 0, none⟩) lo1.length lo1.length) := cell_of_row _ _ 2 _ _ _ X1_6_.out
      go_wp2_with fail
      refine (Hi.out kb4_ kk4_ kb5_ kk5_ (w5_.heap.size + 1) _ P0i_6_.out P1i_6_.out P2i_6_.out (by omega)).mono ?_
      rintro e w7_ ⟨rfl, b7_⟩
      have n7_ : w6_.heap.size ≤ w7_.heap.size := b7_.size
      have T7_ : Below w.heap.size w w7_ := kTrans T6_ b7_
      have S0_7_ := Lib.hid (S0_6_.out.below b7_)
      have S1_7_ := Lib.hid (S1_6_.out.below b7_)
      have S2_7_ := Lib.hid (S2_6_.out.below b7_)
      have A0_7_ := Lib.hid (blk_below A0_6_.out b7_)
      have A1_7_ := Lib.hid (blk_below A1_6_.out b7_)
      have V0_7_ := Lib.hid (V0_6_.out.below b7_)
      have V1_7_ := Lib.hid (V1_6_.out.below b7_)
      have X0_7_ := Lib.hid (blk_below X0_6_.out b7_)
      have V2_7_ := Lib.hid (V2_6_.out.below b7_)
      have X1_7_ := Lib.hid (blk_below X1_6_.out b7_)
      clear c0_0 c0_1 c0_2 c1_0 c1_1 c1_2 S0_6_ S1_6_ S2_6_ A0_6_ A1_6_ P0i_6_ V0_6_ P1i_6_ V1_6_ X0_6_ P2i_6_ V2_6_ X1_6_ b7_ T6_
      have c0_0 : w7_.cell? ⟨w.heap.size, 0, none⟩ = some (.int .i8 wd0) := cell_of_row _ _ 0 _ _ _ A0_7_.out
      have c0_1 : w7_.cell? ⟨w.heap.size, 1, none⟩ = some (v0) := cell_of_row _ _ 1 _ _ _ A0_7_.out
      have c0_2 : w7_.cell? ⟨w.heap.size, 2, none⟩ = some (t0) := cell_of_row _ _ 2 _ _ _ A0_7_.out
      have c1_0 : w7_.cell? ⟨w4_.heap.size, 0, none⟩ = some (.int .i8 wd0) := cell_of_row _ _ 0 _ _ _ X0_7_.out
      have c1_1 : w7_.cell? ⟨w4_.heap.size, 1, none⟩ = some (.slice (some ⟨kb4_, 0, none⟩) l0.length l0.length) := cell_of_row _ _ 1 _ _ _ X0_7_.out
      have c1_2 : w7_.cell? ⟨w4_.heap.size, 2, none⟩ = some (.slice (some ⟨kk4_, 0, none⟩) lo0.length lo0.length) := cell_of_row _ _ 2 _ _ _ X0_7_.out
      have la_ : w.heap.size < w7_.heap.size := blk_lt A0_7_.out
      have lx_ : w4_.heap.size < w7_.heap.size := blk_lt X0_7_.out
      go_wp2_with fail
      go_region_held3 (fun w' => w'.cell? ⟨w.heap.size, 0, none⟩ = some (.int .i8 wd0) ∧ w'.cell? ⟨w.heap.size, 1, none⟩ = some (v0) ∧ w'.cell? ⟨w.heap.size, 2, none⟩ = some (t0) ∧ w'.cell? ⟨w4_.heap.size, 0, none⟩ = some (.int .i8 wd0) ∧ w'.cell? ⟨w4_.heap.size, 1, none⟩ = some (.slice (some ⟨kb4_, 0, none⟩) l0.length l0.length) ∧ w'.cell? ⟨w4_.heap.size, 2, none⟩ = some (.slice (some ⟨kk4_, 0, none⟩) lo0.length lo0.length)) (go_keep)
        (first
        | (go_at_call 16
           refine (eqN wd0 _ _ _ _ l0 lo0 _ (V0_7_.out.below (kTrans (Below.drew (Below.refl _ _)) b8_)).pk p8_.pk a0 ao0 m0 mo0).mono ?_
           rintro e w9_ ⟨rfl, b9_⟩
           have c0_0 := (b9_.cell (p := ⟨w.heap.size, 0, none⟩) (Nat.lt_of_lt_of_le la_ b8_.size)).trans c0_0
           have c0_1 := (b9_.cell (p := ⟨w.heap.size, 1, none⟩) (Nat.lt_of_lt_of_le la_ b8_.size)).trans c0_1
           have c0_2 := (b9_.cell (p := ⟨w.heap.size, 2, none⟩) (Nat.lt_of_lt_of_le la_ b8_.size)).trans c0_2
           have c1_0 := (b9_.cell (p := ⟨w4_.heap.size, 0, none⟩) (Nat.lt_of_lt_of_le lx_ b8_.size)).trans c1_0
           have c1_1 := (b9_.cell (p := ⟨w4_.heap.size, 1, none⟩) (Nat.lt_of_lt_of_le lx_ b8_.size)).trans c1_1
           have c1_2 := (b9_.cell (p := ⟨w4_.heap.size, 2, none⟩) (Nat.lt_of_lt_of_le lx_ b8_.size)).trans c1_2)
        | (go_at_call 14
           refine (toN_own wd0 v0 t0 l0 lo0 _ (S0_7_.out.below (Below.drew (Below.refl _ _))) m0 mo0).mono ?_
           rintro e w8_ ⟨kb8_, kk8_, rfl, p8_, b8_⟩
           have c0_0 := (b8_.cell (p := ⟨w.heap.size, 0, none⟩) la_).trans c0_0
           have c0_1 := (b8_.cell (p := ⟨w.heap.size, 1, none⟩) la_).trans c0_1
           have c0_2 := (b8_.cell (p := ⟨w.heap.size, 2, none⟩) la_).trans c0_2
           have c1_0 := (b8_.cell (p := ⟨w4_.heap.size, 0, none⟩) lx_).trans c1_0
           have c1_1 := (b8_.cell (p := ⟨w4_.heap.size, 1, none⟩) lx_).trans c1_1
           have c1_2 := (b8_.cell (p := ⟨w4_.heap.size, 2, none⟩) lx_).trans c1_2))
      have bb_ : Below w7_.heap.size w7_ w9_ := kTrans (kTrans (Below.drew (Below.refl _ _)) b8_) b9_
      clear b8_ b9_ p8_ la_ lx_
      have n9_ : w7_.heap.size ≤ w9_.heap.size := bb_.size
      have T9_ : Below w.heap.size w w9_ := kTrans T7_ bb_
      have S0_9_ := Lib.hid (S0_7_.out.below bb_)
      have S1_9_ := Lib.hid (S1_7_.out.below bb_)
      have S2_9_ := Lib.hid (S2_7_.out.below bb_)
      have A0_9_ := Lib.hid (blk_below A0_7_.out bb_)
      have A1_9_ := Lib.hid (blk_below A1_7_.out bb_)
      have V0_9_ := Lib.hid (V0_7_.out.below bb_)
      have V1_9_ := Lib.hid (V1_7_.out.below bb_)
      have X0_9_ := Lib.hid (blk_below X0_7_.out bb_)
      have V2_9_ := Lib.hid (V2_7_.out.below bb_)
      have X1_9_ := Lib.hid (blk_below X1_7_.out bb_)
      clear c0_0 c0_1 c0_2 c1_0 c1_1 c1_2 S0_7_ S1_7_ S2_7_ A0_7_ A1_7_ V0_7_ V1_7_ X0_7_ V2_7_ X1_7_ bb_ T7_
      have c0_0 : w9_.cell? ⟨w.heap.size + 1, 0, none⟩ = some (.int .i8 wd1) := cell_of_row _ _ 0 _ _ _ A1_9_.out
      have c0_1 : w9_.cell? ⟨w.heap.size + 1, 1, none⟩ = some (v1) := cell_of_row _ _ 1 _ _ _ A1_9_.out
      have c0_2 : w9_.cell? ⟨w.heap.size + 1, 2, none⟩ = some (t1) := cell_of_row _ _ 2 _ _ _ A1_9_.out
      have c1_0 : w9_.cell? ⟨w5_.heap.size, 0, none⟩ = some (.int .i8 wd1) := cell_of_row _ _ 0 _ _ _ X1_9_.out
      have c1_1 : w9_.cell? ⟨w5_.heap.size, 1, none⟩ = some (.slice (some ⟨kb5_, 0, none⟩) l1.length l1.length) := cell_of_row _ _ 1 _ _ _ X1_9_.out
      have c1_2 : w9_.cell? ⟨w5_.heap.size, 2, none⟩ = some (.slice (some ⟨kk5_, 0, none⟩) lo1.length lo1.length) := cell_of_row _ _ 2 _ _ _ X1_9_.out
      have la_ : w.heap.size + 1 < w9_.heap.size := blk_lt A1_9_.out
      have lx_ : w5_.heap.size < w9_.heap.size := blk_lt X1_9_.out
      go_wp2_with fail
      go_region_held3 (fun w' => w'.cell? ⟨w.heap.size + 1, 0, none⟩ = some (.int .i8 wd1) ∧ w'.cell? ⟨w.heap.size + 1, 1, none⟩ = some (v1) ∧ w'.cell? ⟨w.heap.size + 1, 2, none⟩ = some (t1) ∧ w'.cell? ⟨w5_.heap.size, 0, none⟩ = some (.int .i8 wd1) ∧ w'.cell? ⟨w5_.heap.size, 1, none⟩ = some (.slice (some ⟨kb5_, 0, none⟩) l1.length l1.length) ∧ w'.cell? ⟨w5_.heap.size, 2, none⟩ = some (.slice (some ⟨kk5_, 0, none⟩) lo1.length lo1.length)) (go_keep)
        (first
        | (go_at_call 16
           refine (eqN wd1 _ _ _ _ l1 lo1 _ (V1_9_.out.below (kTrans (Below.drew (Below.refl _ _)) b10_)).pk p10_.pk a1 ao1 m1 mo1).mono ?_
           rintro e w11_ ⟨rfl, b11_⟩
           have c0_0 := (b11_.cell (p := ⟨w.heap.size + 1, 0, none⟩) (Nat.lt_of_lt_of_le la_ b10_.size)).trans c0_0
           have c0_1 := (b11_.cell (p := ⟨w.heap.size + 1, 1, none⟩) (Nat.lt_of_lt_of_le la_ b10_.size)).trans c0_1
           have c0_2 := (b11_.cell (p := ⟨w.heap.size + 1, 2, none⟩) (Nat.lt_of_lt_of_le la_ b10_.size)).trans c0_2
           have c1_0 := (b11_.cell (p := ⟨w5_.heap.size, 0, none⟩) (Nat.lt_of_lt_of_le lx_ b10_.size)).trans c1_0
           have c1_1 := (b11_.cell (p := ⟨w5_.heap.size, 1, none⟩) (Nat.lt_of_lt_of_le lx_ b10_.size)).trans c1_1
           have c1_2 := (b11_.cell (p := ⟨w5_.heap.size, 2, none⟩) (Nat.lt_of_lt_of_le lx_ b10_.size)).trans c1_2)
        | (go_at_call 14
           refine (toN_own wd1 v1 t1 l1 lo1 _ (S1_9_.out.below (Below.drew (Below.refl _ _))) m1 mo1).mono ?_
           rintro e w10_ ⟨kb10_, kk10_, rfl, p10_, b10_⟩
           have c0_0 := (b10_.cell (p := ⟨w.heap.size + 1, 0, none⟩) la_).trans c0_0
           have c0_1 := (b10_.cell (p := ⟨w.heap.size + 1, 1, none⟩) la_).trans c0_1
           have c0_2 := (b10_.cell (p := ⟨w.heap.size + 1, 2, none⟩) la_).trans c0_2
           have c1_0 := (b10_.cell (p := ⟨w5_.heap.size, 0, none⟩) lx_).trans c1_0
           have c1_1 := (b10_.cell (p := ⟨w5_.heap.size, 1, none⟩) lx_).trans c1_1
           have c1_2 := (b10_.cell (p := ⟨w5_.heap.size, 2, none⟩) lx_).trans c1_2))
      have bb_ : Below w9_.heap.size w9_ w11_ := kTrans (kTrans (Below.drew (Below.refl _ _)) b10_) b11_
      clear b10_ b11_ p10_ la_ lx_
      have n11_ : w9_.heap.size ≤ w11_.heap.size := bb_.size
      have T11_ : Below w.heap.size w w11_ := kTrans T9_ bb_
      have S0_11_ := Lib.hid (S0_9_.out.below bb_)
      have S1_11_ := Lib.hid (S1_9_.out.below bb_)
      have S2_11_ := Lib.hid (S2_9_.out.below bb_)
      have A0_11_ := Lib.hid (blk_below A0_9_.out bb_)
      have A1_11_ := Lib.hid (blk_below A1_9_.out bb_)
      have V0_11_ := Lib.hid (V0_9_.out.below bb_)
      have V1_11_ := Lib.hid (V1_9_.out.below bb_)
      have X0_11_ := Lib.hid (blk_below X0_9_.out bb_)
      have V2_11_ := Lib.hid (V2_9_.out.below bb_)
      have X1_11_ := Lib.hid (blk_below X1_9_.out bb_)
      clear c0_0 c0_1 c0_2 c1_0 c1_1 c1_2 S0_9_ S1_9_ S2_9_ A0_9_ A1_9_ V0_9_ V1_9_ X0_9_ V2_9_ X1_9_ bb_ T9_
      go_wp2_with fail
      refine (toInt64S_any (.slice x2a l2.length x2c) l2 _ S2_11_.out.sl m2).mono ?_
      rintro e w12_ ⟨rfl, p12_, z12_, f12_, b12_⟩
      have n12_ : w11_.heap.size ≤ w12_.heap.size := b12_.size
      have T12_ : Below w.heap.size w w12_ := kTrans T11_ b12_
      have P2c_12_ := Lib.hid p12_
      clear p12_ f12_
      have S0_12_ := Lib.hid (S0_11_.out.below b12_)
      have S1_12_ := Lib.hid (S1_11_.out.below b12_)
      have S2_12_ := Lib.hid (S2_11_.out.below b12_)
      have A0_12_ := Lib.hid (blk_below A0_11_.out b12_)
      have A1_12_ := Lib.hid (blk_below A1_11_.out b12_)
      have V0_12_ := Lib.hid (V0_11_.out.below b12_)
      have V1_12_ := Lib.hid (V1_11_.out.below b12_)
      have X0_12_ := Lib.hid (blk_below X0_11_.out b12_)
      have V2_12_ := Lib.hid (V2_11_.out.below b12_)
      have X1_12_ := Lib.hid (blk_below X1_11_.out b12_)
      clear S0_11_ S1_11_ S2_11_ A0_11_ A1_11_ V0_11_ V1_11_ X0_11_ V2_11_ X1_11_ b12_ T11_
      go_wp2_with fail
      refine (eqInt64S_any _ _ l2 _ V2_12_.out.sl (SlIn.mk _ 0 _ P2c_12_.out (by omega) (Nat.le_refl _)) a2 m2).mono ?_
      rintro e w13_ ⟨rfl, b13_⟩
      have n13_ : w12_.heap.size ≤ w13_.heap.size := b13_.size
      have T13_ : Below w.heap.size w w13_ := kTrans T12_ b13_
      have S0_13_ := Lib.hid (S0_12_.out.below b13_)
      have S1_13_ := Lib.hid (S1_12_.out.below b13_)
      have S2_13_ := Lib.hid (S2_12_.out.below b13_)
      have A0_13_ := Lib.hid (blk_below A0_12_.out b13_)
      have A1_13_ := Lib.hid (blk_below A1_12_.out b13_)
      have V0_13_ := Lib.hid (V0_12_.out.below b13_)
      have V1_13_ := Lib.hid (V1_12_.out.below b13_)
      have X0_13_ := Lib.hid (blk_below X0_12_.out b13_)
      have V2_13_ := Lib.hid (V2_12_.out.below b13_)
      have X1_13_ := Lib.hid (blk_below X1_12_.out b13_)
      clear S0_12_ S1_12_ S2_12_ A0_12_ A1_12_ V0_12_ V1_12_ X0_12_ V2_12_ X1_12_ P2c_12_ b13_ T12_
      go_wp2
      go_ret
      exact ⟨rfl, T13_⟩
end Go.Proofs.Ytlbnhdnmcnfgdaa.CheckMerge
