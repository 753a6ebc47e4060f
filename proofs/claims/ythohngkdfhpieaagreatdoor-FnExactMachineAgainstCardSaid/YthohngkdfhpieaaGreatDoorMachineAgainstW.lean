/- 'MachineAgainst' answers as its model at every argument. No conditions. -/
import Derived.Test.YthohngkdfhpieaaGreatDoorLm
import Derived.Test.YthohngkdfhpieaaGreatDoorMa
import Derived.Test.YthohngkdfhpieaaGreatDoorG16
import Derived.Deep.RegionHeld3
import Derived.Deep.DeepCutAuto
namespace Go.Proofs.YthohngkdfhpieaaGreatDoor.MachineAgainst
open Go.ChangeShapes Go.WideShapes Go.ChangeAt Go.RowKit
set_option linter.unusedVariables false

set_option maxRecDepth 100000 in
set_option maxHeartbeats 16000000 in
theorem walk {w : World} (hst_ : StayTab w) (wd0 hi0 : Int) (v0 t0 u0 : Value) (l0 : List Pc) (lo0 : List Po) (lc0 : List Cl) (bw0 : i8 wd0) (bh0 : i8 hi0) (s0 : Sl w l0 v0) (a0 : All8 l0) (e0 : l0.length ≤ 9223372036854775807) (so0 : SlPo w lo0 t0) (ao0 : PosWf lo0) (eo0 : lo0.length ≤ maxLen) (sc0 : SlCl w lc0 u0) (ac0 : ClsWf lc0) (ec0 : lc0.length ≤ maxLen) (wd1 : Int) (v1 t1 : Value) (l1 : List Nd) (lo1 : List Int) (bw1 : i8 wd1) (s1 : SlNd w l1 v1) (a1 : NdsWf l1) (e1 : l1.length ≤ maxLen) (so1 : SlSh w lo1 t1) (ao1 : ShsWf lo1) (eo1 : lo1.length ≤ maxLen) :
    Calls Tryz.prog 5 #[.agg #[.int .i8 wd0, .int .i8 hi0, v0, t0, u0], .agg #[.int .i8 wd1, v1, t1]] w fun e w' => e = .returned (.bool true) ∧ Below w.heap.size w w' := by
  unfold maxLen at eo0 ec0 e1 eo1
  have S0_ := Lib.hid (MSO.start s0 so0 sc0)
  clear so0 sc0
  have S1_ := Lib.hid (NSO.start s1 so1)
  clear so1
  clear s0 s1
  have ST_ := Lib.hid hst_
  have st0_ : 1 < w.heap.size := hst_.2.2
  clear hst_
  by_cases h0 : 1048576 - (l0.length : Int) - (lo0.length : Int) - (lc0.length : Int) < 0
  · skip
    have bE : Below w.heap.size w ((w.alloc (.cells #[.int .i8 wd0, .int .i8 hi0, v0, t0, u0] 29)).alloc (.cells #[.int .i8 wd1, v1, t1] 53)) := (kAlloc (kAlloc (Below.refl _ _) _) _)
    go_enter Tryz.func5, Tryz.ntmps5
    go_wp2_with fail
    refine (szM wd0 hi0 v0 t0 u0 l0 lo0 lc0 _ (S0_.out.below bE) (1048576) e0 eo0 ec0 (by omega) (by omega)).mono ?_
    rw [if_pos (by omega)]
    rintro e w1_ ⟨rfl, b1_⟩
    have B1_ : Below w.heap.size w w1_ := kTrans (kAlloc (kAlloc (Below.refl _ _) _) _) b1_
    have n1_ : w.heap.size + 2 ≤ w1_.heap.size := by have := b1_.size; simpa using this
    have T1_ : Below w.heap.size w w1_ := B1_
    have ST_1_ := Lib.hid (ST_.out.below B1_)
    have S0_1_ := Lib.hid (S0_.out.below B1_)
    have S1_1_ := Lib.hid (S1_.out.below B1_)
    have A0_1_ := Lib.hid (blk_below ((Below.heap_alloc (w.alloc (.cells #[.int .i8 wd0, .int .i8 hi0, v0, t0, u0] 29)) (.cells #[.int .i8 wd1, v1, t1] 53) _ (by simp)).trans (heap_alloc_new w (.cells #[.int .i8 wd0, .int .i8 hi0, v0, t0, u0] 29))) b1_)
    have A1_1_ := Lib.hid (blk_below (heap_two w (.cells #[.int .i8 wd0, .int .i8 hi0, v0, t0, u0] 29) (.cells #[.int .i8 wd1, v1, t1] 53)) b1_)
    clear bE ST_ S0_ S1_ b1_ B1_
    go_wp2
    go_ret
    exact ⟨rfl, T1_⟩
  · skip
    have h0' : ¬ 1048576 - (l0.length : Int) - (lo0.length : Int) < (lc0.length : Int) := by omega
    by_cases h1 : 1048576 - (l0.length : Int) - (lo0.length : Int) - (lc0.length : Int) - (l1.length : Int) - (lo1.length : Int) < 0
    · skip
      have bE : Below w.heap.size w ((w.alloc (.cells #[.int .i8 wd0, .int .i8 hi0, v0, t0, u0] 29)).alloc (.cells #[.int .i8 wd1, v1, t1] 53)) := (kAlloc (kAlloc (Below.refl _ _) _) _)
      go_enter Tryz.func5, Tryz.ntmps5
      go_wp2_with fail
      refine (szM wd0 hi0 v0 t0 u0 l0 lo0 lc0 _ (S0_.out.below bE) (1048576) e0 eo0 ec0 (by omega) (by omega)).mono ?_
      rw [if_neg (by omega)]
      rintro e w1_ ⟨rfl, b1_⟩
      have B1_ : Below w.heap.size w w1_ := kTrans (kAlloc (kAlloc (Below.refl _ _) _) _) b1_
      have n1_ : w.heap.size + 2 ≤ w1_.heap.size := by have := b1_.size; simpa using this
      have T1_ : Below w.heap.size w w1_ := B1_
      have ST_1_ := Lib.hid (ST_.out.below B1_)
      have S0_1_ := Lib.hid (S0_.out.below B1_)
      have S1_1_ := Lib.hid (S1_.out.below B1_)
      have A0_1_ := Lib.hid (blk_below ((Below.heap_alloc (w.alloc (.cells #[.int .i8 wd0, .int .i8 hi0, v0, t0, u0] 29)) (.cells #[.int .i8 wd1, v1, t1] 53) _ (by simp)).trans (heap_alloc_new w (.cells #[.int .i8 wd0, .int .i8 hi0, v0, t0, u0] 29))) b1_)
      have A1_1_ := Lib.hid (blk_below (heap_two w (.cells #[.int .i8 wd0, .int .i8 hi0, v0, t0, u0] 29) (.cells #[.int .i8 wd1, v1, t1] 53)) b1_)
      clear bE ST_ S0_ S1_ b1_ B1_
      have c0_0 : w1_.cell? ⟨w.heap.size + 1, 0, none⟩ = some (.int .i8 wd1) := cell_of_row _ _ 0 _ _ _ A1_1_.out
      have c0_1 : w1_.cell? ⟨w.heap.size + 1, 1, none⟩ = some (v1) := cell_of_row _ _ 1 _ _ _ A1_1_.out
      have c0_2 : w1_.cell? ⟨w.heap.size + 1, 2, none⟩ = some (t1) := cell_of_row _ _ 2 _ _ _ A1_1_.out
      go_wp2_with fail
      refine (szN wd1 v1 t1 l1 lo1 _ S1_1_.out (1048576 - (l0.length : Int) - (lo0.length : Int) - (lc0.length : Int)) e1 eo1 (by omega) (by omega)).mono ?_
      rw [if_pos (by omega)]
      rintro e w2_ ⟨rfl, b2_⟩
      have n2_ : w1_.heap.size ≤ w2_.heap.size := b2_.size
      have T2_ : Below w.heap.size w w2_ := kTrans T1_ b2_
      have ST_2_ := Lib.hid (ST_1_.out.below b2_)
      have S0_2_ := Lib.hid (S0_1_.out.below b2_)
      have S1_2_ := Lib.hid (S1_1_.out.below b2_)
      have A0_2_ := Lib.hid (blk_below A0_1_.out b2_)
      have A1_2_ := Lib.hid (blk_below A1_1_.out b2_)
      clear c0_0 c0_1 c0_2 ST_1_ S0_1_ S1_1_ A0_1_ A1_1_ b2_ T1_
      go_wp2
      go_ret
      exact ⟨rfl, T2_⟩
    · skip
      have h1' : ¬ 1048576 - (l0.length : Int) - (lo0.length : Int) - (lc0.length : Int) - (l1.length : Int) < (lo1.length : Int) := by omega
      have m0 : l0.length ≤ 1048576 := by omega
      have q0 : (5 : Int) * l0.length ≤ 5242880 := by omega
      have mo0 : lo0.length ≤ 1048576 := by omega
      have qo0 : (3 : Int) * lo0.length ≤ 3145728 := by omega
      have mc0 : lc0.length ≤ 1048576 := by omega
      have qc0 : (2 : Int) * lc0.length ≤ 2097152 := by omega
      have m1 : l1.length ≤ 1048576 := by omega
      have q1 : (3 : Int) * l1.length ≤ 3145728 := by omega
      have mo1 : lo1.length ≤ 1048576 := by omega
      have qo1 : (1 : Int) * lo1.length ≤ 1048576 := by omega
      obtain ⟨M0, hM0⟩ : ∃ M, M = machOk wd0 hi0 l0 lo0 lc0 := ⟨_, rfl⟩
      obtain ⟨F0, hF0⟩ := ans_pick (n := lo0.length) hM0
      obtain ⟨N0, hN0⟩ : ∃ N, 2 ^ lo0.length = N := ⟨_, rfl⟩
      obtain ⟨R, hR⟩ : ∃ R, R = netOk wd1 l1 lo1 := ⟨_, rfl⟩
      obtain ⟨x, hx, hx64⟩ := u64_nat (apartA_wf (tabsM (ansL l0 lc0 F0 N0) lc0.length N0) (pickT (tabsL wd1.toNat l1 []) lo1) 0 (by decide))
      obtain ⟨E, C, hQ⟩ : ∃ E C, maQ M0 R lo0.length wd1 lc0.length lo1.length x = (E, C) := ⟨_, _, rfl⟩
      have Hs := Lib.hid (fun b0 k0 q0 b1 k1 w2 (hp0 : PK w2 b0 k0 q0 l0 lo0 lc0) (hp1 : NK w2 b1 k1 l1 lo1) => specMachineAgainst_any w2 b0 k0 q0 _ _ _ wd0 hi0 l0 lo0 lc0 hp0.p0 hp0.p1 hp0.p2 hp0.z0 hp0.z1 hp0.z2 rfl rfl rfl a0 ao0 bw0 bh0 m0 mo0 mc0 M0 hM0 F0 hF0 N0 hN0 b1 k1 wd1 l1 lo1 hp1 a1 ao1 bw1 m1 mo1 R hR x hx hx64 E C hQ)
      have Hi := Lib.hid (fun b0 k0 q0 b1 k1 w2 (hp0 : PK w2 b0 k0 q0 l0 lo0 lc0) (hp1 : NK w2 b1 k1 l1 lo1) hs2 => implMachineAgainst_any w2 b0 k0 q0 _ _ _ wd0 hi0 l0 lo0 lc0 hp0.p0 hp0.p1 hp0.p2 hp0.z0 hp0.z1 hp0.z2 rfl rfl rfl a0 ao0 bw0 bh0 m0 mo0 mc0 M0 hM0 F0 hF0 N0 hN0 b1 k1 wd1 l1 lo1 hp1 a1 ao1 bw1 m1 mo1 R hR hs2 x hx hx64 E C hQ)
      clear hR hQ hx hM0 hF0 hN0
      have bE : Below w.heap.size w ((w.alloc (.cells #[.int .i8 wd0, .int .i8 hi0, v0, t0, u0] 29)).alloc (.cells #[.int .i8 wd1, v1, t1] 53)) := (kAlloc (kAlloc (Below.refl _ _) _) _)
      go_enter Tryz.func5, Tryz.ntmps5
      go_wp2_with fail
      refine (szM wd0 hi0 v0 t0 u0 l0 lo0 lc0 _ (S0_.out.below bE) (1048576) e0 eo0 ec0 (by omega) (by omega)).mono ?_
      rw [if_neg (by omega)]
      rintro e w1_ ⟨rfl, b1_⟩
      have B1_ : Below w.heap.size w w1_ := kTrans (kAlloc (kAlloc (Below.refl _ _) _) _) b1_
      have n1_ : w.heap.size + 2 ≤ w1_.heap.size := by have := b1_.size; simpa using this
      have T1_ : Below w.heap.size w w1_ := B1_
      have ST_1_ := Lib.hid (ST_.out.below B1_)
      have S0_1_ := Lib.hid (S0_.out.below B1_)
      have S1_1_ := Lib.hid (S1_.out.below B1_)
      have A0_1_ := Lib.hid (blk_below ((Below.heap_alloc (w.alloc (.cells #[.int .i8 wd0, .int .i8 hi0, v0, t0, u0] 29)) (.cells #[.int .i8 wd1, v1, t1] 53) _ (by simp)).trans (heap_alloc_new w (.cells #[.int .i8 wd0, .int .i8 hi0, v0, t0, u0] 29))) b1_)
      have A1_1_ := Lib.hid (blk_below (heap_two w (.cells #[.int .i8 wd0, .int .i8 hi0, v0, t0, u0] 29) (.cells #[.int .i8 wd1, v1, t1] 53)) b1_)
      clear bE ST_ S0_ S1_ b1_ B1_
      have c0_0 : w1_.cell? ⟨w.heap.size + 1, 0, none⟩ = some (.int .i8 wd1) := cell_of_row _ _ 0 _ _ _ A1_1_.out
      have c0_1 : w1_.cell? ⟨w.heap.size + 1, 1, none⟩ = some (v1) := cell_of_row _ _ 1 _ _ _ A1_1_.out
      have c0_2 : w1_.cell? ⟨w.heap.size + 1, 2, none⟩ = some (t1) := cell_of_row _ _ 2 _ _ _ A1_1_.out
      go_wp2_with fail
      refine (szN wd1 v1 t1 l1 lo1 _ S1_1_.out (1048576 - (l0.length : Int) - (lo0.length : Int) - (lc0.length : Int)) e1 eo1 (by omega) (by omega)).mono ?_
      rw [if_neg (by omega)]
      rintro e w2_ ⟨rfl, b2_⟩
      have n2_ : w1_.heap.size ≤ w2_.heap.size := b2_.size
      have T2_ : Below w.heap.size w w2_ := kTrans T1_ b2_
      have ST_2_ := Lib.hid (ST_1_.out.below b2_)
      have S0_2_ := Lib.hid (S0_1_.out.below b2_)
      have S1_2_ := Lib.hid (S1_1_.out.below b2_)
      have A0_2_ := Lib.hid (blk_below A0_1_.out b2_)
      have A1_2_ := Lib.hid (blk_below A1_1_.out b2_)
      clear c0_0 c0_1 c0_2 ST_1_ S0_1_ S1_1_ A0_1_ A1_1_ b2_ T1_
      have c0_0 : w2_.cell? ⟨w.heap.size, 0, none⟩ = some (.int .i8 wd0) := cell_of_row _ _ 0 _ _ _ A0_2_.out
      have c0_1 : w2_.cell? ⟨w.heap.size, 1, none⟩ = some (.int .i8 hi0) := cell_of_row _ _ 1 _ _ _ A0_2_.out
      have c0_2 : w2_.cell? ⟨w.heap.size, 2, none⟩ = some (v0) := cell_of_row _ _ 2 _ _ _ A0_2_.out
      have c0_3 : w2_.cell? ⟨w.heap.size, 3, none⟩ = some (t0) := cell_of_row _ _ 3 _ _ _ A0_2_.out
      have c0_4 : w2_.cell? ⟨w.heap.size, 4, none⟩ = some (u0) := cell_of_row _ _ 4 _ _ _ A0_2_.out
      have c1_0 : w2_.cell? ⟨w.heap.size + 1, 0, none⟩ = some (.int .i8 wd1) := cell_of_row _ _ 0 _ _ _ A1_2_.out
      have c1_1 : w2_.cell? ⟨w.heap.size + 1, 1, none⟩ = some (v1) := cell_of_row _ _ 1 _ _ _ A1_2_.out
      have c1_2 : w2_.cell? ⟨w.heap.size + 1, 2, none⟩ = some (t1) := cell_of_row _ _ 2 _ _ _ A1_2_.out
      have lb0_0 : w.heap.size < w2_.heap.size := blk_lt A0_2_.out
      have lb1_0 : w.heap.size + 1 < w2_.heap.size := blk_lt A1_2_.out
      go_wp2_with fail
      go_region_held3 (fun w' => w'.cell? ⟨w.heap.size, 0, none⟩ = some (.int .i8 wd0) ∧ w'.cell? ⟨w.heap.size, 1, none⟩ = some (.int .i8 hi0) ∧ w'.cell? ⟨w.heap.size, 2, none⟩ = some (v0) ∧ w'.cell? ⟨w.heap.size, 3, none⟩ = some (t0) ∧ w'.cell? ⟨w.heap.size, 4, none⟩ = some (u0) ∧ w'.cell? ⟨w.heap.size + 1, 0, none⟩ = some (.int .i8 wd1) ∧ w'.cell? ⟨w.heap.size + 1, 1, none⟩ = some (v1) ∧ w'.cell? ⟨w.heap.size + 1, 2, none⟩ = some (t1)) (go_keep)
        (first
        | (go_at_call 20
           refine (Hs.out kb1 kk1 kq1 kb2 kk2 _ (hp1.out.below b2) hp2.out).mono ?_
           rintro e hv3 ⟨rfl, b3⟩
           have kv3 : Below w2_.heap.size w2_ hv3 := kTrans kv2 b3
           have lb0_3 : w.heap.size < hv3.heap.size := Nat.lt_of_lt_of_le lb0_2 b3.size
           have c0_0 := (b3.cell (p := ⟨w.heap.size, 0, none⟩) lb0_2).trans c0_0
           have c0_1 := (b3.cell (p := ⟨w.heap.size, 1, none⟩) lb0_2).trans c0_1
           have c0_2 := (b3.cell (p := ⟨w.heap.size, 2, none⟩) lb0_2).trans c0_2
           have c0_3 := (b3.cell (p := ⟨w.heap.size, 3, none⟩) lb0_2).trans c0_3
           have c0_4 := (b3.cell (p := ⟨w.heap.size, 4, none⟩) lb0_2).trans c0_4
           have lb1_3 : w.heap.size + 1 < hv3.heap.size := Nat.lt_of_lt_of_le lb1_2 b3.size
           have c1_0 := (b3.cell (p := ⟨w.heap.size + 1, 0, none⟩) lb1_2).trans c1_0
           have c1_1 := (b3.cell (p := ⟨w.heap.size + 1, 1, none⟩) lb1_2).trans c1_1
           have c1_2 := (b3.cell (p := ⟨w.heap.size + 1, 2, none⟩) lb1_2).trans c1_2)
        | (go_at_call_of 21 v1
           refine (toN_own wd1 v1 t1 l1 lo1 _ (S1_2_.out.below kv1) m1 mo1).mono ?_
           rintro e hv2 ⟨kb2, kk2, rfl, pp2, b2⟩
           have hp2 := Lib.hid pp2.pk
           clear pp2
           have kv2 : Below w2_.heap.size w2_ hv2 := kTrans kv1 b2
           have lb0_2 : w.heap.size < hv2.heap.size := Nat.lt_of_lt_of_le lb0_1 b2.size
           have c0_0 := (b2.cell (p := ⟨w.heap.size, 0, none⟩) lb0_1).trans c0_0
           have c0_1 := (b2.cell (p := ⟨w.heap.size, 1, none⟩) lb0_1).trans c0_1
           have c0_2 := (b2.cell (p := ⟨w.heap.size, 2, none⟩) lb0_1).trans c0_2
           have c0_3 := (b2.cell (p := ⟨w.heap.size, 3, none⟩) lb0_1).trans c0_3
           have c0_4 := (b2.cell (p := ⟨w.heap.size, 4, none⟩) lb0_1).trans c0_4
           have lb1_2 : w.heap.size + 1 < hv2.heap.size := Nat.lt_of_lt_of_le lb1_1 b2.size
           have c1_0 := (b2.cell (p := ⟨w.heap.size + 1, 0, none⟩) lb1_1).trans c1_0
           have c1_1 := (b2.cell (p := ⟨w.heap.size + 1, 1, none⟩) lb1_1).trans c1_1
           have c1_2 := (b2.cell (p := ⟨w.heap.size + 1, 2, none⟩) lb1_1).trans c1_2)
        | (go_at_call_of 10 v0
           refine (toM_own wd0 hi0 v0 t0 u0 l0 lo0 lc0 _ (S0_2_.out.below (Below.drew (Below.refl _ _))) m0 mo0 mc0).mono ?_
           rintro e hv1 ⟨kb1, kk1, kq1, rfl, pp1, b1⟩
           have hp1 := Lib.hid pp1.pk
           clear pp1
           have kv1 : Below w2_.heap.size w2_ hv1 := kTrans (Below.drew (Below.refl _ _)) b1
           have lb0_1 : w.heap.size < hv1.heap.size := Nat.lt_of_lt_of_le lb0_0 b1.size
           have c0_0 := (b1.cell (p := ⟨w.heap.size, 0, none⟩) lb0_0).trans c0_0
           have c0_1 := (b1.cell (p := ⟨w.heap.size, 1, none⟩) lb0_0).trans c0_1
           have c0_2 := (b1.cell (p := ⟨w.heap.size, 2, none⟩) lb0_0).trans c0_2
           have c0_3 := (b1.cell (p := ⟨w.heap.size, 3, none⟩) lb0_0).trans c0_3
           have c0_4 := (b1.cell (p := ⟨w.heap.size, 4, none⟩) lb0_0).trans c0_4
           have lb1_1 : w.heap.size + 1 < hv1.heap.size := Nat.lt_of_lt_of_le lb1_0 b1.size
           have c1_0 := (b1.cell (p := ⟨w.heap.size + 1, 0, none⟩) lb1_0).trans c1_0
           have c1_1 := (b1.cell (p := ⟨w.heap.size + 1, 1, none⟩) lb1_0).trans c1_1
           have c1_2 := (b1.cell (p := ⟨w.heap.size + 1, 2, none⟩) lb1_0).trans c1_2))
      have n3_ : w2_.heap.size ≤ hv3.heap.size := kv3.size
      have T3_ : Below w.heap.size w hv3 := kTrans T2_ kv3
      have ST_3_ := Lib.hid (ST_2_.out.below kv3)
      have S0_3_ := Lib.hid (S0_2_.out.below kv3)
      have S1_3_ := Lib.hid (S1_2_.out.below kv3)
      have A0_3_ := Lib.hid (blk_below A0_2_.out kv3)
      have A1_3_ := Lib.hid (blk_below A1_2_.out kv3)
      clear c0_0 c0_1 c0_2 c0_3 c0_4 c1_0 c1_1 c1_2 lb0_0 lb1_0 hp1 b1 kv1 lb0_1 lb1_1 hp2 b2 kv2 lb0_2 lb1_2 b3 lb0_3 lb1_3 ST_2_ S0_2_ S1_2_ A0_2_ A1_2_ kv3 T2_
      have c0_0 : hv3.cell? ⟨w.heap.size, 0, none⟩ = some (.int .i8 wd0) := cell_of_row _ _ 0 _ _ _ A0_3_.out
      have c0_1 : hv3.cell? ⟨w.heap.size, 1, none⟩ = some (.int .i8 hi0) := cell_of_row _ _ 1 _ _ _ A0_3_.out
      have c0_2 : hv3.cell? ⟨w.heap.size, 2, none⟩ = some (v0) := cell_of_row _ _ 2 _ _ _ A0_3_.out
      have c0_3 : hv3.cell? ⟨w.heap.size, 3, none⟩ = some (t0) := cell_of_row _ _ 3 _ _ _ A0_3_.out
      have c0_4 : hv3.cell? ⟨w.heap.size, 4, none⟩ = some (u0) := cell_of_row _ _ 4 _ _ _ A0_3_.out
      go_wp2_with fail
      refine (toM_own wd0 hi0 v0 t0 u0 l0 lo0 lc0 _ S0_3_.out m0 mo0 mc0).mono ?_
      rintro e w4_ ⟨kb4_, kk4_, kq4_, rfl, p4_, b4_⟩
      have n4_ : hv3.heap.size ≤ w4_.heap.size := b4_.size
      have T4_ : Below w.heap.size w w4_ := kTrans T3_ b4_
      have P0i_4_ := Lib.hid p4_.pk
      have V0_4_ := Lib.hid p4_
      clear p4_
      have ST_4_ := Lib.hid (ST_3_.out.below b4_)
      have S0_4_ := Lib.hid (S0_3_.out.below b4_)
      have S1_4_ := Lib.hid (S1_3_.out.below b4_)
      have A0_4_ := Lib.hid (blk_below A0_3_.out b4_)
      have A1_4_ := Lib.hid (blk_below A1_3_.out b4_)
      clear c0_0 c0_1 c0_2 c0_3 c0_4 ST_3_ S0_3_ S1_3_ A0_3_ A1_3_ b4_ T3_
      have bE : Below w4_.heap.size w4_ (w4_.alloc (.cells #[.int .i8 wd0, .int .i8 hi0, .slice (some ⟨kb4_, 0, none⟩) l0.length l0.length, .slice (some ⟨kk4_, 0, none⟩) lo0.length lo0.length, .slice (some ⟨kq4_, 0, none⟩) lc0.length lc0.length] 40)) := (kAlloc (Below.refl _ _) _)
      have c0_0 : (w4_.alloc (.cells #[.int .i8 wd0, .int .i8 hi0, .slice (some ⟨kb4_, 0, none⟩) l0.length l0.length, .slice (some ⟨kk4_, 0, none⟩) lo0.length lo0.length, .slice (some ⟨kq4_, 0, none⟩) lc0.length lc0.length] 40)).cell? ⟨w.heap.size + 1, 0, none⟩ = some (.int .i8 wd1) := cell_of_row _ _ 0 _ _ _ (blk_below A1_4_.out bE)
      have c0_1 : (w4_.alloc (.cells #[.int .i8 wd0, .int .i8 hi0, .slice (some ⟨kb4_, 0, none⟩) l0.length l0.length, .slice (some ⟨kk4_, 0, none⟩) lo0.length lo0.length, .slice (some ⟨kq4_, 0, none⟩) lc0.length lc0.length] 40)).cell? ⟨w.heap.size + 1, 1, none⟩ = some (v1) := cell_of_row _ _ 1 _ _ _ (blk_below A1_4_.out bE)
      have c0_2 : (w4_.alloc (.cells #[.int .i8 wd0, .int .i8 hi0, .slice (some ⟨kb4_, 0, none⟩) l0.length l0.length, .slice (some ⟨kk4_, 0, none⟩) lo0.length lo0.length, .slice (some ⟨kq4_, 0, none⟩) lc0.length lc0.length] 40)).cell? ⟨w.heap.size + 1, 2, none⟩ = some (t1) := cell_of_row _ _ 2 _ _ _ (blk_below A1_4_.out bE)
      go_wp2_with fail
      refine (toN_own wd1 v1 t1 l1 lo1 _ (S1_4_.out.below bE) m1 mo1).mono ?_
      rintro e w5_ ⟨kb5_, kk5_, rfl, p5_, b5_⟩
      have B5_ : Below w4_.heap.size w4_ w5_ := kTrans (kAlloc (Below.refl _ _) _) b5_
      have n5_ : w4_.heap.size + 1 ≤ w5_.heap.size := by have := b5_.size; simpa using this
      have T5_ : Below w.heap.size w w5_ := kTrans T4_ B5_
      simp only [World.size_alloc] at p5_
      have P1i_5_ := Lib.hid p5_.pk
      have V1_5_ := Lib.hid p5_
      clear p5_
      have ST_5_ := Lib.hid (ST_4_.out.below B5_)
      have S0_5_ := Lib.hid (S0_4_.out.below B5_)
      have S1_5_ := Lib.hid (S1_4_.out.below B5_)
      have A0_5_ := Lib.hid (blk_below A0_4_.out B5_)
      have A1_5_ := Lib.hid (blk_below A1_4_.out B5_)
      have P0i_5_ := Lib.hid (P0i_4_.out.below B5_)
      have V0_5_ := Lib.hid (V0_4_.out.below B5_)
      have X0_5_ := Lib.hid (blk_below (heap_alloc_new w4_ (.cells #[.int .i8 wd0, .int .i8 hi0, .slice (some ⟨kb4_, 0, none⟩) l0.length l0.length, .slice (some ⟨kk4_, 0, none⟩) lo0.length lo0.length, .slice (some ⟨kq4_, 0, none⟩) lc0.length lc0.length] 40)) b5_)
      clear bE c0_0 c0_1 c0_2 ST_4_ S0_4_ S1_4_ A0_4_ A1_4_ P0i_4_ V0_4_ b5_ B5_ T4_
      have bE : Below w5_.heap.size w5_ (w5_.alloc (.cells #[.int .i8 wd1, .slice (some ⟨kb5_, 0, none⟩) l1.length l1.length, .slice (some ⟨kk5_, 0, none⟩) lo1.length lo1.length] 58)) := (kAlloc (Below.refl _ _) _)
      have c0_0 : (w5_.alloc (.cells #[.int .i8 wd1, .slice (some ⟨kb5_, 0, none⟩) l1.length l1.length, .slice (some ⟨kk5_, 0, none⟩) lo1.length lo1.length] 58)).cell? ⟨w4_.heap.size, 0, none⟩ = some (.int .i8 wd0) := cell_of_row _ _ 0 _ _ _ (blk_below X0_5_.out bE)
      have c0_1 : (w5_.alloc (.cells #[.int .i8 wd1, .slice (some ⟨kb5_, 0, none⟩) l1.length l1.length, .slice (some ⟨kk5_, 0, none⟩) lo1.length lo1.length] 58)).cell? ⟨w4_.heap.size, 1, none⟩ = some (.int .i8 hi0) := cell_of_row _ _ 1 _ _ _ (blk_below X0_5_.out bE)
      have c0_2 : (w5_.alloc (.cells #[.int .i8 wd1, .slice (some ⟨kb5_, 0, none⟩) l1.length l1.length, .slice (some ⟨kk5_, 0, none⟩) lo1.length lo1.length] 58)).cell? ⟨w4_.heap.size, 2, none⟩ = some (.slice (some ⟨kb4_, 0, none⟩) l0.length l0.length) := cell_of_row _ _ 2 _ _ _ (blk_below X0_5_.out bE)
      have c0_3 : (w5_.alloc (.cells #[.int .i8 wd1, .slice (some ⟨kb5_, 0, none⟩) l1.length l1.length, .slice (some ⟨kk5_, 0, none⟩) lo1.length lo1.length] 58)).cell? ⟨w4_.heap.size, 3, none⟩ = some (.slice (some ⟨kk4_, 0, none⟩) lo0.length lo0.length) := cell_of_row _ _ 3 _ _ _ (blk_below X0_5_.out bE)
      have c0_4 : (w5_.alloc (.cells #[.int .i8 wd1, .slice (some ⟨kb5_, 0, none⟩) l1.length l1.length, .slice (some ⟨kk5_, 0, none⟩) lo1.length lo1.length] 58)).cell? ⟨w4_.heap.size, 4, none⟩ = some (.slice (some ⟨kq4_, 0, none⟩) lc0.length lc0.length) := cell_of_row _ _ 4 _ _ _ (blk_below X0_5_.out bE)
      go_wp2_with fail
      refine (Hi.out kb4_ kk4_ kq4_ kb5_ kk5_ _ (P0i_5_.out.below bE) (P1i_5_.out.below bE) (ST_5_.out.below bE)).mono ?_
      rintro e w6_ ⟨rfl, b6_⟩
      have B6_ : Below w5_.heap.size w5_ w6_ := kTrans (kAlloc (Below.refl _ _) _) b6_
      have n6_ : w5_.heap.size + 1 ≤ w6_.heap.size := by have := b6_.size; simpa using this
      have T6_ : Below w.heap.size w w6_ := kTrans T5_ B6_
      have ST_6_ := Lib.hid (ST_5_.out.below B6_)
      have S0_6_ := Lib.hid (S0_5_.out.below B6_)
      have S1_6_ := Lib.hid (S1_5_.out.below B6_)
      have A0_6_ := Lib.hid (blk_below A0_5_.out B6_)
      have A1_6_ := Lib.hid (blk_below A1_5_.out B6_)
      have V0_6_ := Lib.hid (V0_5_.out.below B6_)
      have V1_6_ := Lib.hid (V1_5_.out.below B6_)
      have X0_6_ := Lib.hid (blk_below X0_5_.out B6_)
      have X1_6_ := Lib.hid (blk_below (heap_alloc_new w5_ (.cells #[.int .i8 wd1, .slice (some ⟨kb5_, 0, none⟩) l1.length l1.length, .slice (some ⟨kk5_, 0, none⟩) lo1.length lo1.length] 58)) b6_)
      clear bE c0_0 c0_1 c0_2 c0_3 c0_4 ST_5_ S0_5_ S1_5_ A0_5_ A1_5_ P0i_5_ V0_5_ P1i_5_ V1_5_ X0_5_ b6_ B6_ T5_
      have c0_0 : w6_.cell? ⟨w.heap.size, 0, none⟩ = some (.int .i8 wd0) := cell_of_row _ _ 0 _ _ _ A0_6_.out
      have c0_1 : w6_.cell? ⟨w.heap.size, 1, none⟩ = some (.int .i8 hi0) := cell_of_row _ _ 1 _ _ _ A0_6_.out
      have c0_2 : w6_.cell? ⟨w.heap.size, 2, none⟩ = some (v0) := cell_of_row _ _ 2 _ _ _ A0_6_.out
      have c0_3 : w6_.cell? ⟨w.heap.size, 3, none⟩ = some (t0) := cell_of_row _ _ 3 _ _ _ A0_6_.out
      have c0_4 : w6_.cell? ⟨w.heap.size, 4, none⟩ = some (u0) := cell_of_row _ _ 4 _ _ _ A0_6_.out
      have c1_0 : w6_.cell? ⟨w4_.heap.size, 0, none⟩ = some (.int .i8 wd0) := cell_of_row _ _ 0 _ _ _ X0_6_.out
      have c1_1 : w6_.cell? ⟨w4_.heap.size, 1, none⟩ = some (.int .i8 hi0) := cell_of_row _ _ 1 _ _ _ X0_6_.out
      have c1_2 : w6_.cell? ⟨w4_.heap.size, 2, none⟩ = some (.slice (some ⟨kb4_, 0, none⟩) l0.length l0.length) := cell_of_row _ _ 2 _ _ _ X0_6_.out
      have c1_3 : w6_.cell? ⟨w4_.heap.size, 3, none⟩ = some (.slice (some ⟨kk4_, 0, none⟩) lo0.length lo0.length) := cell_of_row _ _ 3 _ _ _ X0_6_.out
      have c1_4 : w6_.cell? ⟨w4_.heap.size, 4, none⟩ = some (.slice (some ⟨kq4_, 0, none⟩) lc0.length lc0.length) := cell_of_row _ _ 4 _ _ _ X0_6_.out
      have la_ : w.heap.size < w6_.heap.size := mBlk_lt A0_6_.out
      have lx_ : w4_.heap.size < w6_.heap.size := mBlk_lt X0_6_.out
      go_wp2_with fail
      go_region_held3 (fun w' => w'.cell? ⟨w.heap.size, 0, none⟩ = some (.int .i8 wd0) ∧ w'.cell? ⟨w.heap.size, 1, none⟩ = some (.int .i8 hi0) ∧ w'.cell? ⟨w.heap.size, 2, none⟩ = some (v0) ∧ w'.cell? ⟨w.heap.size, 3, none⟩ = some (t0) ∧ w'.cell? ⟨w.heap.size, 4, none⟩ = some (u0) ∧ w'.cell? ⟨w4_.heap.size, 0, none⟩ = some (.int .i8 wd0) ∧ w'.cell? ⟨w4_.heap.size, 1, none⟩ = some (.int .i8 hi0) ∧ w'.cell? ⟨w4_.heap.size, 2, none⟩ = some (.slice (some ⟨kb4_, 0, none⟩) l0.length l0.length) ∧ w'.cell? ⟨w4_.heap.size, 3, none⟩ = some (.slice (some ⟨kk4_, 0, none⟩) lo0.length lo0.length) ∧ w'.cell? ⟨w4_.heap.size, 4, none⟩ = some (.slice (some ⟨kq4_, 0, none⟩) lc0.length lc0.length)) (go_keep)
        (first
        | (go_at_call 13
           refine (eqM wd0 hi0 _ _ _ _ _ _ l0 lo0 lc0 _ (V0_6_.out.below (kTrans (Below.drew (Below.refl _ _)) b7_)).pk p7_.pk a0 ao0 ac0 bw0 bh0 m0 mo0 mc0).mono ?_
           rintro e w8_ ⟨rfl, b8_⟩
           have c0_0 := (b8_.cell (p := ⟨w.heap.size, 0, none⟩) (Nat.lt_of_lt_of_le la_ b7_.size)).trans c0_0
           have c0_1 := (b8_.cell (p := ⟨w.heap.size, 1, none⟩) (Nat.lt_of_lt_of_le la_ b7_.size)).trans c0_1
           have c0_2 := (b8_.cell (p := ⟨w.heap.size, 2, none⟩) (Nat.lt_of_lt_of_le la_ b7_.size)).trans c0_2
           have c0_3 := (b8_.cell (p := ⟨w.heap.size, 3, none⟩) (Nat.lt_of_lt_of_le la_ b7_.size)).trans c0_3
           have c0_4 := (b8_.cell (p := ⟨w.heap.size, 4, none⟩) (Nat.lt_of_lt_of_le la_ b7_.size)).trans c0_4
           have c1_0 := (b8_.cell (p := ⟨w4_.heap.size, 0, none⟩) (Nat.lt_of_lt_of_le lx_ b7_.size)).trans c1_0
           have c1_1 := (b8_.cell (p := ⟨w4_.heap.size, 1, none⟩) (Nat.lt_of_lt_of_le lx_ b7_.size)).trans c1_1
           have c1_2 := (b8_.cell (p := ⟨w4_.heap.size, 2, none⟩) (Nat.lt_of_lt_of_le lx_ b7_.size)).trans c1_2
           have c1_3 := (b8_.cell (p := ⟨w4_.heap.size, 3, none⟩) (Nat.lt_of_lt_of_le lx_ b7_.size)).trans c1_3
           have c1_4 := (b8_.cell (p := ⟨w4_.heap.size, 4, none⟩) (Nat.lt_of_lt_of_le lx_ b7_.size)).trans c1_4)
        | (go_at_call 10
           refine (toM_own wd0 hi0 v0 t0 u0 l0 lo0 lc0 _ (S0_6_.out.below (Below.drew (Below.refl _ _))) m0 mo0 mc0).mono ?_
           rintro e w7_ ⟨kb7_, kk7_, kq7_, rfl, p7_, b7_⟩
           have c0_0 := (b7_.cell (p := ⟨w.heap.size, 0, none⟩) la_).trans c0_0
           have c0_1 := (b7_.cell (p := ⟨w.heap.size, 1, none⟩) la_).trans c0_1
           have c0_2 := (b7_.cell (p := ⟨w.heap.size, 2, none⟩) la_).trans c0_2
           have c0_3 := (b7_.cell (p := ⟨w.heap.size, 3, none⟩) la_).trans c0_3
           have c0_4 := (b7_.cell (p := ⟨w.heap.size, 4, none⟩) la_).trans c0_4
           have c1_0 := (b7_.cell (p := ⟨w4_.heap.size, 0, none⟩) lx_).trans c1_0
           have c1_1 := (b7_.cell (p := ⟨w4_.heap.size, 1, none⟩) lx_).trans c1_1
           have c1_2 := (b7_.cell (p := ⟨w4_.heap.size, 2, none⟩) lx_).trans c1_2
           have c1_3 := (b7_.cell (p := ⟨w4_.heap.size, 3, none⟩) lx_).trans c1_3
           have c1_4 := (b7_.cell (p := ⟨w4_.heap.size, 4, none⟩) lx_).trans c1_4))
      have bb_ : Below w6_.heap.size w6_ w8_ := kTrans (kTrans (Below.drew (Below.refl _ _)) b7_) b8_
      clear b7_ b8_ p7_ la_ lx_
      have n8_ : w6_.heap.size ≤ w8_.heap.size := bb_.size
      have T8_ : Below w.heap.size w w8_ := kTrans T6_ bb_
      have ST_8_ := Lib.hid (ST_6_.out.below bb_)
      have S0_8_ := Lib.hid (S0_6_.out.below bb_)
      have S1_8_ := Lib.hid (S1_6_.out.below bb_)
      have A0_8_ := Lib.hid (blk_below A0_6_.out bb_)
      have A1_8_ := Lib.hid (blk_below A1_6_.out bb_)
      have V0_8_ := Lib.hid (V0_6_.out.below bb_)
      have V1_8_ := Lib.hid (V1_6_.out.below bb_)
      have X0_8_ := Lib.hid (blk_below X0_6_.out bb_)
      have X1_8_ := Lib.hid (blk_below X1_6_.out bb_)
      clear c0_0 c0_1 c0_2 c0_3 c0_4 c1_0 c1_1 c1_2 c1_3 c1_4 ST_6_ S0_6_ S1_6_ A0_6_ A1_6_ V0_6_ V1_6_ X0_6_ X1_6_ bb_ T6_
      have c0_0 : w8_.cell? ⟨w.heap.size + 1, 0, none⟩ = some (.int .i8 wd1) := cell_of_row _ _ 0 _ _ _ A1_8_.out
      have c0_1 : w8_.cell? ⟨w.heap.size + 1, 1, none⟩ = some (v1) := cell_of_row _ _ 1 _ _ _ A1_8_.out
      have c0_2 : w8_.cell? ⟨w.heap.size + 1, 2, none⟩ = some (t1) := cell_of_row _ _ 2 _ _ _ A1_8_.out
      have c1_0 : w8_.cell? ⟨w5_.heap.size, 0, none⟩ = some (.int .i8 wd1) := cell_of_row _ _ 0 _ _ _ X1_8_.out
      have c1_1 : w8_.cell? ⟨w5_.heap.size, 1, none⟩ = some (.slice (some ⟨kb5_, 0, none⟩) l1.length l1.length) := cell_of_row _ _ 1 _ _ _ X1_8_.out
      have c1_2 : w8_.cell? ⟨w5_.heap.size, 2, none⟩ = some (.slice (some ⟨kk5_, 0, none⟩) lo1.length lo1.length) := cell_of_row _ _ 2 _ _ _ X1_8_.out
      have la_ : w.heap.size + 1 < w8_.heap.size := blk_lt A1_8_.out
      have lx_ : w5_.heap.size < w8_.heap.size := blk_lt X1_8_.out
      go_wp2_with fail
      go_region_held3 (fun w' => w'.cell? ⟨w.heap.size + 1, 0, none⟩ = some (.int .i8 wd1) ∧ w'.cell? ⟨w.heap.size + 1, 1, none⟩ = some (v1) ∧ w'.cell? ⟨w.heap.size + 1, 2, none⟩ = some (t1) ∧ w'.cell? ⟨w5_.heap.size, 0, none⟩ = some (.int .i8 wd1) ∧ w'.cell? ⟨w5_.heap.size, 1, none⟩ = some (.slice (some ⟨kb5_, 0, none⟩) l1.length l1.length) ∧ w'.cell? ⟨w5_.heap.size, 2, none⟩ = some (.slice (some ⟨kk5_, 0, none⟩) lo1.length lo1.length)) (go_keep)
        (first
        | (go_at_call 23
           refine (eqN wd1 _ _ _ _ l1 lo1 _ (V1_8_.out.below (kTrans (Below.drew (Below.refl _ _)) b9_)).pk p9_.pk a1 ao1 m1 mo1).mono ?_
           rintro e w10_ ⟨rfl, b10_⟩
           have c0_0 := (b10_.cell (p := ⟨w.heap.size + 1, 0, none⟩) (Nat.lt_of_lt_of_le la_ b9_.size)).trans c0_0
           have c0_1 := (b10_.cell (p := ⟨w.heap.size + 1, 1, none⟩) (Nat.lt_of_lt_of_le la_ b9_.size)).trans c0_1
           have c0_2 := (b10_.cell (p := ⟨w.heap.size + 1, 2, none⟩) (Nat.lt_of_lt_of_le la_ b9_.size)).trans c0_2
           have c1_0 := (b10_.cell (p := ⟨w5_.heap.size, 0, none⟩) (Nat.lt_of_lt_of_le lx_ b9_.size)).trans c1_0
           have c1_1 := (b10_.cell (p := ⟨w5_.heap.size, 1, none⟩) (Nat.lt_of_lt_of_le lx_ b9_.size)).trans c1_1
           have c1_2 := (b10_.cell (p := ⟨w5_.heap.size, 2, none⟩) (Nat.lt_of_lt_of_le lx_ b9_.size)).trans c1_2)
        | (go_at_call 21
           refine (toN_own wd1 v1 t1 l1 lo1 _ (S1_8_.out.below (Below.drew (Below.refl _ _))) m1 mo1).mono ?_
           rintro e w9_ ⟨kb9_, kk9_, rfl, p9_, b9_⟩
           have c0_0 := (b9_.cell (p := ⟨w.heap.size + 1, 0, none⟩) la_).trans c0_0
           have c0_1 := (b9_.cell (p := ⟨w.heap.size + 1, 1, none⟩) la_).trans c0_1
           have c0_2 := (b9_.cell (p := ⟨w.heap.size + 1, 2, none⟩) la_).trans c0_2
           have c1_0 := (b9_.cell (p := ⟨w5_.heap.size, 0, none⟩) lx_).trans c1_0
           have c1_1 := (b9_.cell (p := ⟨w5_.heap.size, 1, none⟩) lx_).trans c1_1
           have c1_2 := (b9_.cell (p := ⟨w5_.heap.size, 2, none⟩) lx_).trans c1_2))
      have bb_ : Below w8_.heap.size w8_ w10_ := kTrans (kTrans (Below.drew (Below.refl _ _)) b9_) b10_
      clear b9_ b10_ p9_ la_ lx_
      have n10_ : w8_.heap.size ≤ w10_.heap.size := bb_.size
      have T10_ : Below w.heap.size w w10_ := kTrans T8_ bb_
      have ST_10_ := Lib.hid (ST_8_.out.below bb_)
      have S0_10_ := Lib.hid (S0_8_.out.below bb_)
      have S1_10_ := Lib.hid (S1_8_.out.below bb_)
      have A0_10_ := Lib.hid (blk_below A0_8_.out bb_)
      have A1_10_ := Lib.hid (blk_below A1_8_.out bb_)
      have V0_10_ := Lib.hid (V0_8_.out.below bb_)
      have V1_10_ := Lib.hid (V1_8_.out.below bb_)
      have X0_10_ := Lib.hid (blk_below X0_8_.out bb_)
      have X1_10_ := Lib.hid (blk_below X1_8_.out bb_)
      clear c0_0 c0_1 c0_2 c1_0 c1_1 c1_2 ST_8_ S0_8_ S1_8_ A0_8_ A1_8_ V0_8_ V1_8_ X0_8_ X1_8_ bb_ T8_
      go_wp2
      go_ret
      exact ⟨rfl, T10_⟩
end Go.Proofs.YthohngkdfhpieaaGreatDoor.MachineAgainst
