/- 'OutputsIn' answers as its model at every argument. No conditions. -/
import Derived.Test.YtaapdjidiahmpaaGreatDoorLm
import Derived.Test.YtaapdjidiahmpaaGreatDoorTo
import Derived.Deep.RegionHeld3
import Derived.Deep.DeepCutAuto
namespace Go.Proofs.YtaapdjidiahmpaaGreatDoor.OutputsIn
open Go.ChangeShapes Go.WideShapes Go.ChangeAt Go.RowKit
set_option linter.unusedVariables false

set_option maxRecDepth 100000 in
set_option maxHeartbeats 16000000 in
theorem walk {w : World} (hst_ : StayAt w) (wd0 hi0 : Int) (v0 t0 u0 : Value) (l0 : List Pc) (lo0 : List Po) (lc0 : List Cl) (bw0 : i8 wd0) (bh0 : i8 hi0) (s0 : Sl w l0 v0) (a0 : All8 l0) (e0 : l0.length ≤ 9223372036854775807) (so0 : SlPo w lo0 t0) (ao0 : PosWf lo0) (eo0 : lo0.length ≤ maxLen) (sc0 : SlCl w lc0 u0) (ac0 : ClsWf lc0) (ec0 : lc0.length ≤ maxLen) (row : Int) (w1 : (Lit.int .i64 row).wf = true) (x2a : Option Addr) (x2c : Nat) (l2 : List Int) (s2 : SlIn w l2 (.slice x2a l2.length x2c)) (a2 : InsWf l2) (e2 : l2.length ≤ maxLen) :
    Calls Tryz.prog 3 #[.agg #[.int .i8 wd0, .int .i8 hi0, v0, t0, u0], .int .i64 row, .slice x2a l2.length x2c] w fun e w' => e = .returned (.bool true) ∧ Below w.heap.size w w' := by
  unfold maxLen at e2 eo0 ec0
  have S0_ := Lib.hid (MSO.start s0 so0 sc0)
  clear so0 sc0
  have S2_ := Lib.hid (SlOIn.start s2)
  clear s0 s2
  have ST_ := Lib.hid hst_
  have st0_ : 0 < w.heap.size := hst_.2
  clear hst_
  by_cases hx2 : 1048576 < l2.length
  · have hy2 : (1048576 : Int) < (l2.length : Int) := by omega
    have hz2 : decide ((1048576 : Int) < (l2.length : Int)) = true := by simpa using hy2
    clear S0_ S2_
    go_enter Tryz.func3, Tryz.ntmps3
    go_wp2
    go_ret
    exact ⟨rfl, by repeat (first | with_reducible exact Below.refl _ _ | (with_reducible refine kSet ?_ ?hB _; case hB => (simp; try omega)) | with_reducible refine kAlloc ?_ _ | with_reducible refine Below.drew ?_ | with_reducible refine kDrewN ?_ _ | with_reducible refine kTrans ?_ (by assumption))⟩
  have hy2 : ¬ (1048576 : Int) < (l2.length : Int) := by omega
  have hz2 : decide ((1048576 : Int) < (l2.length : Int)) = false := by simpa using hy2
  by_cases h0 : 1048576 - (l0.length : Int) - (lo0.length : Int) - (lc0.length : Int) < 0
  · skip
    have bE : Below w.heap.size w (w.alloc (.cells #[.int .i8 wd0, .int .i8 hi0, v0, t0, u0] 29)) := (kAlloc (Below.refl _ _) _)
    go_enter Tryz.func3, Tryz.ntmps3
    go_wp2_with fail
    refine (szM wd0 hi0 v0 t0 u0 l0 lo0 lc0 _ (S0_.out.below bE) (1048576) e0 eo0 ec0 (by omega) (by omega)).mono ?_
    rw [if_pos (by omega)]
    rintro e w1_ ⟨rfl, b1_⟩
    have B1_ : Below w.heap.size w w1_ := kTrans (kAlloc (Below.refl _ _) _) b1_
    have n1_ : w.heap.size + 1 ≤ w1_.heap.size := by have := b1_.size; simpa using this
    have T1_ : Below w.heap.size w w1_ := B1_
    have ST_1_ := Lib.hid (ST_.out.below B1_)
    have S0_1_ := Lib.hid (S0_.out.below B1_)
    have S2_1_ := Lib.hid (S2_.out.below B1_)
    have A0_1_ := Lib.hid (blk_below (heap_alloc_new w (.cells #[.int .i8 wd0, .int .i8 hi0, v0, t0, u0] 29)) b1_)
    clear bE ST_ S0_ S2_ b1_ B1_
    go_wp2
    go_ret
    exact ⟨rfl, T1_⟩
  · skip
    have h0' : ¬ 1048576 - (l0.length : Int) - (lo0.length : Int) < (lc0.length : Int) := by omega
    have m0 : l0.length ≤ 1048576 := by omega
    have q0 : (5 : Int) * l0.length ≤ 5242880 := by omega
    have mo0 : lo0.length ≤ 1048576 := by omega
    have qo0 : (3 : Int) * lo0.length ≤ 3145728 := by omega
    have mc0 : lc0.length ≤ 1048576 := by omega
    have qc0 : (2 : Int) * lc0.length ≤ 2097152 := by omega
    have m2 : l2.length ≤ 1048576 := by omega
    have q2 : (1 : Int) * l2.length ≤ 1048576 := by omega
    obtain ⟨M, hM⟩ : ∃ M, M = machOk wd0 hi0 l0 lo0 lc0 := ⟨_, rfl⟩
    obtain ⟨O, hO⟩ : ∃ O, O = rowOk lo0.length row l2 := ⟨_, rfl⟩
    obtain ⟨T, hT, alT, hrT⟩ := row_pick (c := lc0) hM hO
    obtain ⟨N, C, hQ⟩ : ∃ N C, outQ M O T = (N, C) := ⟨_, _, rfl⟩
    have Hs := Lib.hid (fun b0 k0 q0 b2 w2 (hp0 : PK w2 b0 k0 q0 l0 lo0 lc0) hp2 hb2 => specOutputsIn_any b0 k0 q0 b2 wd0 hi0 row l0 lo0 lc0 l2 w2 hp0.p0 hp0.p1 hp0.p2 hp2 hp0.z0 hp0.z1 hp0.z2 hb2 a0 ao0 bw0 bh0 m0 mo0 mc0 m2 M O hM hO T hT N C hQ)
    have Hi := Lib.hid (fun b0 k0 q0 b2 w2 (hp0 : PK w2 b0 k0 q0 l0 lo0 lc0) hp2 hb2 hs2 => implOutputsIn_any b0 k0 q0 b2 wd0 hi0 row l0 lo0 lc0 l2 w2 hp0.p0 hp0.p1 hp0.p2 hp2 hp0.z0 hp0.z1 hp0.z2 hb2 a0 ao0 bw0 bh0 m0 mo0 mc0 m2 M O hM hO hs2 T hT N C hQ)
    clear hQ hM hO hT alT hrT
    have bE : Below w.heap.size w (w.alloc (.cells #[.int .i8 wd0, .int .i8 hi0, v0, t0, u0] 29)) := (kAlloc (Below.refl _ _) _)
    go_enter Tryz.func3, Tryz.ntmps3
    go_wp2_with fail
    refine (szM wd0 hi0 v0 t0 u0 l0 lo0 lc0 _ (S0_.out.below bE) (1048576) e0 eo0 ec0 (by omega) (by omega)).mono ?_
    rw [if_neg (by omega)]
    rintro e w1_ ⟨rfl, b1_⟩
    have B1_ : Below w.heap.size w w1_ := kTrans (kAlloc (Below.refl _ _) _) b1_
    have n1_ : w.heap.size + 1 ≤ w1_.heap.size := by have := b1_.size; simpa using this
    have T1_ : Below w.heap.size w w1_ := B1_
    have ST_1_ := Lib.hid (ST_.out.below B1_)
    have S0_1_ := Lib.hid (S0_.out.below B1_)
    have S2_1_ := Lib.hid (S2_.out.below B1_)
    have A0_1_ := Lib.hid (blk_below (heap_alloc_new w (.cells #[.int .i8 wd0, .int .i8 hi0, v0, t0, u0] 29)) b1_)
    clear bE ST_ S0_ S2_ b1_ B1_
    have c0_0 : w1_.cell? ⟨w.heap.size, 0, none⟩ = some (.int .i8 wd0) := cell_of_row _ _ 0 _ _ _ A0_1_.out
    have c0_1 : w1_.cell? ⟨w.heap.size, 1, none⟩ = some (.int .i8 hi0) := cell_of_row _ _ 1 _ _ _ A0_1_.out
    have c0_2 : w1_.cell? ⟨w.heap.size, 2, none⟩ = some (v0) := cell_of_row _ _ 2 _ _ _ A0_1_.out
    have c0_3 : w1_.cell? ⟨w.heap.size, 3, none⟩ = some (t0) := cell_of_row _ _ 3 _ _ _ A0_1_.out
    have c0_4 : w1_.cell? ⟨w.heap.size, 4, none⟩ = some (u0) := cell_of_row _ _ 4 _ _ _ A0_1_.out
    go_wp2_with fail
    refine (toM_own wd0 hi0 v0 t0 u0 l0 lo0 lc0 _ S0_1_.out m0 mo0 mc0).mono ?_
    rintro e w2_ ⟨kb2_, kk2_, kq2_, rfl, p2_, b2_⟩
    have n2_ : w1_.heap.size ≤ w2_.heap.size := b2_.size
    have T2_ : Below w.heap.size w w2_ := kTrans T1_ b2_
    have P0s_2_ := Lib.hid p2_.pk
    clear p2_
    have ST_2_ := Lib.hid (ST_1_.out.below b2_)
    have S0_2_ := Lib.hid (S0_1_.out.below b2_)
    have S2_2_ := Lib.hid (S2_1_.out.below b2_)
    have A0_2_ := Lib.hid (blk_below A0_1_.out b2_)
    clear c0_0 c0_1 c0_2 c0_3 c0_4 ST_1_ S0_1_ S2_1_ A0_1_ b2_ T1_
    go_wp2_with fail
    refine (toInt64S_any (.slice x2a l2.length x2c) l2 _ S2_2_.out.sl m2).mono ?_
    rintro e w3_ ⟨rfl, p3_, z3_, f3_, b3_⟩
    have n3_ : w2_.heap.size ≤ w3_.heap.size := b3_.size
    have T3_ : Below w.heap.size w w3_ := kTrans T2_ b3_
    have P2s_3_ := Lib.hid p3_
    clear p3_ f3_
    have ST_3_ := Lib.hid (ST_2_.out.below b3_)
    have S0_3_ := Lib.hid (S0_2_.out.below b3_)
    have S2_3_ := Lib.hid (S2_2_.out.below b3_)
    have A0_3_ := Lib.hid (blk_below A0_2_.out b3_)
    have P0s_3_ := Lib.hid (P0s_2_.out.below b3_)
    clear ST_2_ S0_2_ S2_2_ A0_2_ P0s_2_ b3_ T2_
    go_wp2_with fail
    refine (Hs.out kb2_ kk2_ kq2_ (w2_.heap.size) _ P0s_3_.out P2s_3_.out (by omega)).mono ?_
    rintro e w4_ ⟨rfl, b4_⟩
    have n4_ : w3_.heap.size ≤ w4_.heap.size := b4_.size
    have T4_ : Below w.heap.size w w4_ := kTrans T3_ b4_
    have ST_4_ := Lib.hid (ST_3_.out.below b4_)
    have S0_4_ := Lib.hid (S0_3_.out.below b4_)
    have S2_4_ := Lib.hid (S2_3_.out.below b4_)
    have A0_4_ := Lib.hid (blk_below A0_3_.out b4_)
    clear ST_3_ S0_3_ S2_3_ A0_3_ P0s_3_ P2s_3_ b4_ T3_
    have c0_0 : w4_.cell? ⟨w.heap.size, 0, none⟩ = some (.int .i8 wd0) := cell_of_row _ _ 0 _ _ _ A0_4_.out
    have c0_1 : w4_.cell? ⟨w.heap.size, 1, none⟩ = some (.int .i8 hi0) := cell_of_row _ _ 1 _ _ _ A0_4_.out
    have c0_2 : w4_.cell? ⟨w.heap.size, 2, none⟩ = some (v0) := cell_of_row _ _ 2 _ _ _ A0_4_.out
    have c0_3 : w4_.cell? ⟨w.heap.size, 3, none⟩ = some (t0) := cell_of_row _ _ 3 _ _ _ A0_4_.out
    have c0_4 : w4_.cell? ⟨w.heap.size, 4, none⟩ = some (u0) := cell_of_row _ _ 4 _ _ _ A0_4_.out
    go_wp2_with fail
    refine (toM_own wd0 hi0 v0 t0 u0 l0 lo0 lc0 _ S0_4_.out m0 mo0 mc0).mono ?_
    rintro e w5_ ⟨kb5_, kk5_, kq5_, rfl, p5_, b5_⟩
    have n5_ : w4_.heap.size ≤ w5_.heap.size := b5_.size
    have T5_ : Below w.heap.size w w5_ := kTrans T4_ b5_
    have P0i_5_ := Lib.hid p5_.pk
    have V0_5_ := Lib.hid p5_
    clear p5_
    have ST_5_ := Lib.hid (ST_4_.out.below b5_)
    have S0_5_ := Lib.hid (S0_4_.out.below b5_)
    have S2_5_ := Lib.hid (S2_4_.out.below b5_)
    have A0_5_ := Lib.hid (blk_below A0_4_.out b5_)
    clear c0_0 c0_1 c0_2 c0_3 c0_4 ST_4_ S0_4_ S2_4_ A0_4_ b5_ T4_
    have bE : Below w5_.heap.size w5_ (w5_.alloc (.cells #[.int .i8 wd0, .int .i8 hi0, .slice (some ⟨kb5_, 0, none⟩) l0.length l0.length, .slice (some ⟨kk5_, 0, none⟩) lo0.length lo0.length, .slice (some ⟨kq5_, 0, none⟩) lc0.length lc0.length] 40)) := (kAlloc (Below.refl _ _) _)
    go_wp2_with fail
    refine (toInt64S_any (.slice x2a l2.length x2c) l2 _ (S2_5_.out.below bE).sl m2).mono ?_
    rintro e w6_ ⟨rfl, p6_, z6_, f6_, b6_⟩
    have B6_ : Below w5_.heap.size w5_ w6_ := kTrans (kAlloc (Below.refl _ _) _) b6_
    have n6_ : w5_.heap.size + 1 ≤ w6_.heap.size := by have := b6_.size; simpa using this
    have T6_ : Below w.heap.size w w6_ := kTrans T5_ B6_
    simp only [World.size_alloc] at p6_ z6_ f6_
    have P2i_6_ := Lib.hid p6_
    have V2_6_ := Lib.hid (SlWIn.mk (lo := w5_.heap.size + 1) (hi := w6_.heap.size) (w5_.heap.size + 1) 0 l2.length p6_ (Nat.le_refl _) z6_ z6_ f6_ (Nat.le_refl _))
    clear p6_ f6_
    have ST_6_ := Lib.hid (ST_5_.out.below B6_)
    have S0_6_ := Lib.hid (S0_5_.out.below B6_)
    have S2_6_ := Lib.hid (S2_5_.out.below B6_)
    have A0_6_ := Lib.hid (blk_below A0_5_.out B6_)
    have P0i_6_ := Lib.hid (P0i_5_.out.below B6_)
    have V0_6_ := Lib.hid (V0_5_.out.below B6_)
    have X0_6_ := Lib.hid (blk_below (heap_alloc_new w5_ (.cells #[.int .i8 wd0, .int .i8 hi0, .slice (some ⟨kb5_, 0, none⟩) l0.length l0.length, .slice (some ⟨kk5_, 0, none⟩) lo0.length lo0.length, .slice (some ⟨kq5_, 0, none⟩) lc0.length lc0.length] 40)) b6_)
    clear bE ST_5_ S0_5_ S2_5_ A0_5_ P0i_5_ V0_5_ b6_ B6_ T5_
    have c0_0 : w6_.cell? ⟨w5_.heap.size, 0, none⟩ = some (.int .i8 wd0) := cell_of_row _ _ 0 _ _ _ X0_6_.out
    have c0_1 : w6_.cell? ⟨w5_.heap.size, 1, none⟩ = some (.int .i8 hi0) := cell_of_row _ _ 1 _ _ _ X0_6_.out
    have c0_2 : w6_.cell? ⟨w5_.heap.size, 2, none⟩ = some (.slice (some ⟨kb5_, 0, none⟩) l0.length l0.length) := cell_of_row _ _ 2 _ _ _ X0_6_.out
    have c0_3 : w6_.cell? ⟨w5_.heap.size, 3, none⟩ = some (.slice (some ⟨kk5_, 0, none⟩) lo0.length lo0.length) := cell_of_row _ _ 3 _ _ _ X0_6_.out
    have c0_4 : w6_.cell? ⟨w5_.heap.size, 4, none⟩ = some (.slice (some ⟨kq5_, 0, none⟩) lc0.length lc0.length) := cell_of_row _ _ 4 _ _ _ X0_6_.out
    go_wp2_with fail
    refine (Hi.out kb5_ kk5_ kq5_ (w5_.heap.size + 1) _ P0i_6_.out P2i_6_.out (by omega) ST_6_.out).mono ?_
    rintro e w7_ ⟨rfl, b7_⟩
    have n7_ : w6_.heap.size ≤ w7_.heap.size := b7_.size
    have T7_ : Below w.heap.size w w7_ := kTrans T6_ b7_
    have ST_7_ := Lib.hid (ST_6_.out.below b7_)
    have S0_7_ := Lib.hid (S0_6_.out.below b7_)
    have S2_7_ := Lib.hid (S2_6_.out.below b7_)
    have A0_7_ := Lib.hid (blk_below A0_6_.out b7_)
    have V0_7_ := Lib.hid (V0_6_.out.below b7_)
    have V2_7_ := Lib.hid (V2_6_.out.below b7_)
    have X0_7_ := Lib.hid (blk_below X0_6_.out b7_)
    clear c0_0 c0_1 c0_2 c0_3 c0_4 ST_6_ S0_6_ S2_6_ A0_6_ P0i_6_ V0_6_ P2i_6_ V2_6_ X0_6_ b7_ T6_
    have c0_0 : w7_.cell? ⟨w.heap.size, 0, none⟩ = some (.int .i8 wd0) := cell_of_row _ _ 0 _ _ _ A0_7_.out
    have c0_1 : w7_.cell? ⟨w.heap.size, 1, none⟩ = some (.int .i8 hi0) := cell_of_row _ _ 1 _ _ _ A0_7_.out
    have c0_2 : w7_.cell? ⟨w.heap.size, 2, none⟩ = some (v0) := cell_of_row _ _ 2 _ _ _ A0_7_.out
    have c0_3 : w7_.cell? ⟨w.heap.size, 3, none⟩ = some (t0) := cell_of_row _ _ 3 _ _ _ A0_7_.out
    have c0_4 : w7_.cell? ⟨w.heap.size, 4, none⟩ = some (u0) := cell_of_row _ _ 4 _ _ _ A0_7_.out
    have c1_0 : w7_.cell? ⟨w5_.heap.size, 0, none⟩ = some (.int .i8 wd0) := cell_of_row _ _ 0 _ _ _ X0_7_.out
    have c1_1 : w7_.cell? ⟨w5_.heap.size, 1, none⟩ = some (.int .i8 hi0) := cell_of_row _ _ 1 _ _ _ X0_7_.out
    have c1_2 : w7_.cell? ⟨w5_.heap.size, 2, none⟩ = some (.slice (some ⟨kb5_, 0, none⟩) l0.length l0.length) := cell_of_row _ _ 2 _ _ _ X0_7_.out
    have c1_3 : w7_.cell? ⟨w5_.heap.size, 3, none⟩ = some (.slice (some ⟨kk5_, 0, none⟩) lo0.length lo0.length) := cell_of_row _ _ 3 _ _ _ X0_7_.out
    have c1_4 : w7_.cell? ⟨w5_.heap.size, 4, none⟩ = some (.slice (some ⟨kq5_, 0, none⟩) lc0.length lc0.length) := cell_of_row _ _ 4 _ _ _ X0_7_.out
    have la_ : w.heap.size < w7_.heap.size := mBlk_lt A0_7_.out
    have lx_ : w5_.heap.size < w7_.heap.size := mBlk_lt X0_7_.out
    go_wp2_with fail
    go_region_held3 (fun w' => w'.cell? ⟨w.heap.size, 0, none⟩ = some (.int .i8 wd0) ∧ w'.cell? ⟨w.heap.size, 1, none⟩ = some (.int .i8 hi0) ∧ w'.cell? ⟨w.heap.size, 2, none⟩ = some (v0) ∧ w'.cell? ⟨w.heap.size, 3, none⟩ = some (t0) ∧ w'.cell? ⟨w.heap.size, 4, none⟩ = some (u0) ∧ w'.cell? ⟨w5_.heap.size, 0, none⟩ = some (.int .i8 wd0) ∧ w'.cell? ⟨w5_.heap.size, 1, none⟩ = some (.int .i8 hi0) ∧ w'.cell? ⟨w5_.heap.size, 2, none⟩ = some (.slice (some ⟨kb5_, 0, none⟩) l0.length l0.length) ∧ w'.cell? ⟨w5_.heap.size, 3, none⟩ = some (.slice (some ⟨kk5_, 0, none⟩) lo0.length lo0.length) ∧ w'.cell? ⟨w5_.heap.size, 4, none⟩ = some (.slice (some ⟨kq5_, 0, none⟩) lc0.length lc0.length)) (go_keep)
      (first
      | (go_at_call 17
         refine (eqM wd0 hi0 _ _ _ _ _ _ l0 lo0 lc0 _ (V0_7_.out.below (kTrans (Below.drew (Below.refl _ _)) b8_)).pk p8_.pk a0 ao0 ac0 bw0 bh0 m0 mo0 mc0).mono ?_
         rintro e w9_ ⟨rfl, b9_⟩
         have c0_0 := (b9_.cell (p := ⟨w.heap.size, 0, none⟩) (Nat.lt_of_lt_of_le la_ b8_.size)).trans c0_0
         have c0_1 := (b9_.cell (p := ⟨w.heap.size, 1, none⟩) (Nat.lt_of_lt_of_le la_ b8_.size)).trans c0_1
         have c0_2 := (b9_.cell (p := ⟨w.heap.size, 2, none⟩) (Nat.lt_of_lt_of_le la_ b8_.size)).trans c0_2
         have c0_3 := (b9_.cell (p := ⟨w.heap.size, 3, none⟩) (Nat.lt_of_lt_of_le la_ b8_.size)).trans c0_3
         have c0_4 := (b9_.cell (p := ⟨w.heap.size, 4, none⟩) (Nat.lt_of_lt_of_le la_ b8_.size)).trans c0_4
         have c1_0 := (b9_.cell (p := ⟨w5_.heap.size, 0, none⟩) (Nat.lt_of_lt_of_le lx_ b8_.size)).trans c1_0
         have c1_1 := (b9_.cell (p := ⟨w5_.heap.size, 1, none⟩) (Nat.lt_of_lt_of_le lx_ b8_.size)).trans c1_1
         have c1_2 := (b9_.cell (p := ⟨w5_.heap.size, 2, none⟩) (Nat.lt_of_lt_of_le lx_ b8_.size)).trans c1_2
         have c1_3 := (b9_.cell (p := ⟨w5_.heap.size, 3, none⟩) (Nat.lt_of_lt_of_le lx_ b8_.size)).trans c1_3
         have c1_4 := (b9_.cell (p := ⟨w5_.heap.size, 4, none⟩) (Nat.lt_of_lt_of_le lx_ b8_.size)).trans c1_4)
      | (go_at_call 14
         refine (toM_own wd0 hi0 v0 t0 u0 l0 lo0 lc0 _ (S0_7_.out.below (Below.drew (Below.refl _ _))) m0 mo0 mc0).mono ?_
         rintro e w8_ ⟨kb8_, kk8_, kq8_, rfl, p8_, b8_⟩
         have c0_0 := (b8_.cell (p := ⟨w.heap.size, 0, none⟩) la_).trans c0_0
         have c0_1 := (b8_.cell (p := ⟨w.heap.size, 1, none⟩) la_).trans c0_1
         have c0_2 := (b8_.cell (p := ⟨w.heap.size, 2, none⟩) la_).trans c0_2
         have c0_3 := (b8_.cell (p := ⟨w.heap.size, 3, none⟩) la_).trans c0_3
         have c0_4 := (b8_.cell (p := ⟨w.heap.size, 4, none⟩) la_).trans c0_4
         have c1_0 := (b8_.cell (p := ⟨w5_.heap.size, 0, none⟩) lx_).trans c1_0
         have c1_1 := (b8_.cell (p := ⟨w5_.heap.size, 1, none⟩) lx_).trans c1_1
         have c1_2 := (b8_.cell (p := ⟨w5_.heap.size, 2, none⟩) lx_).trans c1_2
         have c1_3 := (b8_.cell (p := ⟨w5_.heap.size, 3, none⟩) lx_).trans c1_3
         have c1_4 := (b8_.cell (p := ⟨w5_.heap.size, 4, none⟩) lx_).trans c1_4))
    have bb_ : Below w7_.heap.size w7_ w9_ := kTrans (kTrans (Below.drew (Below.refl _ _)) b8_) b9_
    clear b8_ b9_ p8_ la_ lx_
    have n9_ : w7_.heap.size ≤ w9_.heap.size := bb_.size
    have T9_ : Below w.heap.size w w9_ := kTrans T7_ bb_
    have ST_9_ := Lib.hid (ST_7_.out.below bb_)
    have S0_9_ := Lib.hid (S0_7_.out.below bb_)
    have S2_9_ := Lib.hid (S2_7_.out.below bb_)
    have A0_9_ := Lib.hid (blk_below A0_7_.out bb_)
    have V0_9_ := Lib.hid (V0_7_.out.below bb_)
    have V2_9_ := Lib.hid (V2_7_.out.below bb_)
    have X0_9_ := Lib.hid (blk_below X0_7_.out bb_)
    clear c0_0 c0_1 c0_2 c0_3 c0_4 c1_0 c1_1 c1_2 c1_3 c1_4 ST_7_ S0_7_ S2_7_ A0_7_ V0_7_ V2_7_ X0_7_ bb_ T7_
    go_wp2_with fail
    refine (toInt64S_any (.slice x2a l2.length x2c) l2 _ S2_9_.out.sl m2).mono ?_
    rintro e w10_ ⟨rfl, p10_, z10_, f10_, b10_⟩
    have n10_ : w9_.heap.size ≤ w10_.heap.size := b10_.size
    have T10_ : Below w.heap.size w w10_ := kTrans T9_ b10_
    have P2c_10_ := Lib.hid p10_
    clear p10_ f10_
    have ST_10_ := Lib.hid (ST_9_.out.below b10_)
    have S0_10_ := Lib.hid (S0_9_.out.below b10_)
    have S2_10_ := Lib.hid (S2_9_.out.below b10_)
    have A0_10_ := Lib.hid (blk_below A0_9_.out b10_)
    have V0_10_ := Lib.hid (V0_9_.out.below b10_)
    have V2_10_ := Lib.hid (V2_9_.out.below b10_)
    have X0_10_ := Lib.hid (blk_below X0_9_.out b10_)
    clear ST_9_ S0_9_ S2_9_ A0_9_ V0_9_ V2_9_ X0_9_ b10_ T9_
    go_wp2_with fail
    refine (eqInt64S_any _ _ l2 _ V2_10_.out.sl (SlIn.mk _ 0 _ P2c_10_.out (by omega) (Nat.le_refl _)) a2 m2).mono ?_
    rintro e w11_ ⟨rfl, b11_⟩
    have n11_ : w10_.heap.size ≤ w11_.heap.size := b11_.size
    have T11_ : Below w.heap.size w w11_ := kTrans T10_ b11_
    have ST_11_ := Lib.hid (ST_10_.out.below b11_)
    have S0_11_ := Lib.hid (S0_10_.out.below b11_)
    have S2_11_ := Lib.hid (S2_10_.out.below b11_)
    have A0_11_ := Lib.hid (blk_below A0_10_.out b11_)
    have V0_11_ := Lib.hid (V0_10_.out.below b11_)
    have V2_11_ := Lib.hid (V2_10_.out.below b11_)
    have X0_11_ := Lib.hid (blk_below X0_10_.out b11_)
    clear ST_10_ S0_10_ S2_10_ A0_10_ V0_10_ V2_10_ X0_10_ P2c_10_ b11_ T10_
    go_wp2
    go_ret
    exact ⟨rfl, T11_⟩

set_option maxRecDepth 100000 in
theorem lifted (os : Os) (started : os.Started) (H : Type) (enc : TypeId × Value → H) :
    ReturnsInHanded {} Tryz.checked os 3 .any (fun w args => (Rows.fnExactOutputsInSpec.pre enc Tryz.prog Tryz.f3 [] false w args ∧ laidMetH Tryz.prog laid1 w) ∧ sizedMet enc Tryz.prog Tryz.f3 (OpenSpec.ofChange Rows.fnExactOutputsInSpec) false w args) (Rows.fnExactOutputsInSpec.post enc Tryz.prog Tryz.f3 false true false false) := by
  refine returnsInHanded_of_change_and (C := Tryz.checked) (X := fun w _ => laidMetH Tryz.prog laid1 w) (fun _ _ _ hh h => h.of_heap hh) own started (by kernel_rfl) Tryz.func3
    (ChangeSpec.witness_shaped (enc := enc) (C := Tryz.checked) (os := os) (X := fun w _ => laidMetH Tryz.prog laid1 w) false (World.doorLaid Tryz.prog 400 os) #[.agg #[.int .i8 0, .int .i8 0, .slice none 0 0, .slice none 0 0, .slice none 0 0], .int .i64 0, .slice none 0 0] 8 rfl (World.shaped_of_RefB (by kernel_rfl) (by kernel_rfl)) (by kernel_rfl) (by kernel_rfl) (by kernel_rfl) (door_met os _)) ?_
  intro W base args ds gs before hval0 hW _ _ hL _
  have hval : ∀ (j : Nat) t v, Tryz.f3.params[j]? = some t → args[j]? = some v → Value.okWide Tryz.prog W .any base t v := hval0
  have hW' := hW
  obtain ⟨p, q, hA0, hV, rfl, hfz, hnd⟩ := hW
  have hA : DataW.TrodAll enc Tryz.prog W 0 (fun _ => true) true Tryz.f3.params.toList args.toList ds p := hA0
  rw [Tryz.params3] at hA hval
  have r_ := hA
  obtain ⟨v0, vs0, d0, ds0, pp0, qq0, hargs0, hds0, _, h0, r_⟩ := trodAll_cons r_
  obtain ⟨v1, vs1, d1, ds1, pp1, qq1, hargs1, hds1, _, h1, r_⟩ := trodAll_cons r_
  obtain ⟨v2, vs2, d2, ds2, pp2, qq2, hargs2, hds2, _, h2, r_⟩ := trodAll_cons r_
  obtain ⟨hv_, hd_, _⟩ := trodAll_nil r_
  subst hv_ hd_
  subst hargs2 hds2
  subst hargs1 hds1
  obtain rfl : args = #[v0, v1, v2] := by cases args; simp_all
  subst hds0
  obtain ⟨f0_, f1_, f2_, g0_, g1_, g2_, e1_, e2_, e3_, e4_, e5_, e6_, e7_, e8_, e9_⟩ := machine_struct
  obtain ⟨wd0, hi0, s0, t0, u0, l0, lo0, lc0, rfl, bw0, bh0, sl0, al0, le0, sp0, ap0, lp0, sc0, ac0, ln0⟩ := open_machine e1_.1 e1_.2 e2_ e3_ e4_ e5_ e6_ e7_ e8_ e9_ piece_cells piece_flat Po_cells Po_flat Cl_cells Cl_flat (hval 0 29 v0 rfl rfl) h0
  obtain ⟨a1, rfl, rfl, rfl, w1⟩ := open_int Tryz.underlying2 (hval 1 2 v1 rfl rfl) h1
  obtain ⟨qa2, qn2, qc2, rfl⟩ := okWide_slice Tryz.underlying30 (hval 2 30 v2 rfl rfl)
  obtain ⟨fu2, hx2⟩ := h2
  obtain ⟨l2, sl2, al2, le2⟩ := open_Ins Tryz.underlying30 In_cells In_flat hx2
  obtain rfl := SlIn.len sl2
  refine (walk (w := W) (stay_of_laid hL) wd0 hi0 s0 t0 u0 l0 lo0 lc0 bw0 bh0 sl0 al0 le0 sp0 ap0 lp0 sc0 ac0 ln0 a1 w1 qa2 qc2 l2 sl2 al2 le2).mono fun e W' ⟨he, hg⟩ => ?_
  subst he
  exact ⟨_, rfl, law_post1 kids full laidOut staysRowed Tryz.underlying4 (by decide) rfl rfl (fun _ => rfl) hW' hg⟩

theorem over : Rows.fnExactOutputsInRow.holds Tryz.pinned (OpenSpec.ofChange Rows.fnExactOutputsInSpec) :=
  OpenClaim.holds_of_wide 3 Tryz.f3 rfl rfl rfl rfl rfl rfl rfl ⟨rfl, rfl, rfl, rfl, rfl⟩ rfl rfl rfl rfl rfl (by kernel_rfl) Tryz.func3 (by kernel_rfl)
    (of_decide_eq_true (by kernel_rfl)) (by unfold Func.isWrapper; first | (rw [if_pos (by decide +kernel)]; kernel_rfl) | (rw [if_neg (by decide +kernel)]; exact ⟨rfl, rfl⟩))
    (fun os started H enc _ => lifted os started H enc)

/-- The statement. -/
theorem proved : Rows.FnExactOutputsInCardSaid :=
  Claim7.holds_tied_plain_at .later [] [.data] true (true, "c2068e43cf7cf88ae8cb227520b4a90a023b37fe13c2c230b66be344e249d299") true
    over (fun _ h => by cases h) (by kernel_rfl) (fun _ h => by cases h) fnExactOutputsIn_row_tie rfl ⟨rfl, rfl⟩ (by kernel_rfl) rfl
    (fun f fn hf hfn => by
      obtain rfl : f = 3 := Option.some.inj ((show Tryz.prog.funcNamed "loop.example/g01274/laws.FnExactOutputsIn" = some 3 by kernel_rfl).symm.trans hf) |>.symm
      obtain rfl : fn = Tryz.f3 := (Option.some.inj (Tryz.func3.symm.trans hfn)).symm
      exact ⟨by kernel_rfl, fun j t ht => by
        rw [Tryz.params3] at ht
        have hm : t ∈ [29, 2, 30] := by simpa using Array.mem_of_getElem? ht
        have hall : ([29, 2, 30].all fun u => !Tryz.prog.wantsStandIn u) = true := by kernel_rfl
        exact (show Tryz.prog.wantsStandIn t = false by simpa using List.all_eq_true.1 hall t hm)⟩)
    (by kernel_rfl)
#print axioms proved
end Go.Proofs.YtaapdjidiahmpaaGreatDoor.OutputsIn
