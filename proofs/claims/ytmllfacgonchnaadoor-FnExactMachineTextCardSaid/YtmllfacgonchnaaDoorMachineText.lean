/- 'MachineText' answers as its model at every argument. No conditions. -/
import Derived.Test.YtmllfacgonchnaaDoorLm
import Derived.Test.YtmllfacgonchnaaDoorStm
import Derived.Test.YtmllfacgonchnaaDoorMxI
import Derived.Test.YtmllfacgonchnaaDoorMxS
import Derived.Deep.RegionHeld3
import Derived.Deep.DeepCutAuto
namespace Go.Proofs.YtmllfacgonchnaaDoor.MachineText
open Go.ChangeShapes Go.WideShapes Go.ChangeAt Go.RowKit
set_option linter.unusedVariables false

set_option maxRecDepth 100000 in
set_option maxHeartbeats 16000000 in
theorem walk {w : World} (hst_ : StayAt w) (wd0 hi0 : Int) (v0 t0 u0 : Value) (l0 : List Pc) (lo0 : List Po) (lc0 : List Cl) (bw0 : i8 wd0) (bh0 : i8 hi0) (s0 : Sl w l0 v0) (a0 : All8 l0) (e0 : l0.length ≤ 9223372036854775807) (so0 : SlPo w lo0 t0) (ao0 : PosWf lo0) (eo0 : lo0.length ≤ maxLen) (sc0 : SlCl w lc0 u0) (ac0 : ClsWf lc0) (ec0 : lc0.length ≤ maxLen) :
    Calls Tryd.prog 8 #[.agg #[.int .i8 wd0, .int .i8 hi0, v0, t0, u0]] w fun e w' => e = .returned (.bool true) ∧ Below w.heap.size w w' := by
  unfold maxLen at eo0 ec0
  have S0_ := Lib.hid (MSO.start s0 so0 sc0)
  clear so0 sc0
  clear s0
  have ST_ := Lib.hid hst_
  have st0_ : True := trivial
  clear hst_
  by_cases h0 : 1048576 - (l0.length : Int) - (lo0.length : Int) - (lc0.length : Int) < 0
  · skip
    have bE : Below w.heap.size w (w.alloc (.cells #[.int .i8 wd0, .int .i8 hi0, v0, t0, u0] 67)) := (kAlloc (Below.refl _ _) _)
    go_enter Tryd.func8, Tryd.ntmps8
    go_wp2_with fail
    refine (szM wd0 hi0 v0 t0 u0 l0 lo0 lc0 _ (S0_.out.below bE) (1048576) e0 eo0 ec0 (by omega) (by omega)).mono ?_
    rw [if_pos (by omega)]
    rintro e w1_ ⟨rfl, b1_⟩
    have B1_ : Below w.heap.size w w1_ := kTrans (kAlloc (Below.refl _ _) _) b1_
    have n1_ : w.heap.size + 1 ≤ w1_.heap.size := by have := b1_.size; simpa using this
    have T1_ : Below w.heap.size w w1_ := B1_
    have ST_1_ := Lib.hid (ST_.out.below B1_)
    have S0_1_ := Lib.hid (S0_.out.below B1_)
    have A0_1_ := Lib.hid (blk_below (heap_alloc_new w (.cells #[.int .i8 wd0, .int .i8 hi0, v0, t0, u0] 67)) b1_)
    clear bE ST_ S0_ b1_ B1_
    go_wp2
    go_ret
    exact ⟨rfl, T1_⟩
  · skip
    have h0' : ¬ 1048576 - (l0.length : Int) - (lo0.length : Int) < (lc0.length : Int) := by omega
    have m0 : l0.length ≤ 1048576 := by omega
    have q0 : (5 : Int) * l0.length ≤ 5242880 := by omega
    have mo0 : lo0.length ≤ 1048576 := by omega
    have qo0 : (3 : Int) * lo0.length ≤ 3145728 := by omega
    have mc0 : lc0.length ≤ 1048576 := by omega
    have qc0 : (2 : Int) * lc0.length ≤ 2097152 := by omega
    obtain ⟨R, hR⟩ : ∃ R, R = machOk wd0 hi0 l0 lo0 lc0 := ⟨_, rfl⟩
    obtain ⟨S, hS⟩ : ∃ S, bsT (mxQ R wd0 hi0 l0 lo0 lc0) = S := ⟨_, rfl⟩
    have Hs := Lib.hid (fun b0 k0 q0 w2 (hp0 : PK w2 b0 k0 q0 l0 lo0 lc0) => specMachineText_any b0 k0 q0 _ _ _ wd0 hi0 l0 lo0 lc0 w2 hp0.p0 hp0.p1 hp0.p2 hp0.z0 hp0.z1 hp0.z2 rfl rfl rfl a0 ao0 bw0 bh0 m0 mo0 mc0 R hR S hS)
    have Hi := Lib.hid (fun b0 k0 q0 w2 (hp0 : PK w2 b0 k0 q0 l0 lo0 lc0) (hs2 : StayAt w2) => implMachineText_any b0 k0 q0 _ _ _ wd0 hi0 l0 lo0 lc0 w2 hp0.p0 hp0.p1 hp0.p2 hp0.z0 hp0.z1 hp0.z2 rfl rfl rfl a0 ao0 bw0 bh0 m0 mo0 mc0 R hR S hS ⟨hs2.kind, hs2.side⟩)
    clear hR hS
    have bE : Below w.heap.size w (w.alloc (.cells #[.int .i8 wd0, .int .i8 hi0, v0, t0, u0] 67)) := (kAlloc (Below.refl _ _) _)
    go_enter Tryd.func8, Tryd.ntmps8
    go_wp2_with fail
    refine (szM wd0 hi0 v0 t0 u0 l0 lo0 lc0 _ (S0_.out.below bE) (1048576) e0 eo0 ec0 (by omega) (by omega)).mono ?_
    rw [if_neg (by omega)]
    rintro e w1_ ⟨rfl, b1_⟩
    have B1_ : Below w.heap.size w w1_ := kTrans (kAlloc (Below.refl _ _) _) b1_
    have n1_ : w.heap.size + 1 ≤ w1_.heap.size := by have := b1_.size; simpa using this
    have T1_ : Below w.heap.size w w1_ := B1_
    have ST_1_ := Lib.hid (ST_.out.below B1_)
    have S0_1_ := Lib.hid (S0_.out.below B1_)
    have A0_1_ := Lib.hid (blk_below (heap_alloc_new w (.cells #[.int .i8 wd0, .int .i8 hi0, v0, t0, u0] 67)) b1_)
    clear bE ST_ S0_ b1_ B1_
    have c0_0 : w1_.cell? ⟨w.heap.size, 0, none⟩ = some (.int .i8 wd0) := cell_of_row _ _ 0 _ _ _ A0_1_.out
    have c0_1 : w1_.cell? ⟨w.heap.size, 1, none⟩ = some (.int .i8 hi0) := cell_of_row _ _ 1 _ _ _ A0_1_.out
    have c0_2 : w1_.cell? ⟨w.heap.size, 2, none⟩ = some (v0) := cell_of_row _ _ 2 _ _ _ A0_1_.out
    have c0_3 : w1_.cell? ⟨w.heap.size, 3, none⟩ = some (t0) := cell_of_row _ _ 3 _ _ _ A0_1_.out
    have c0_4 : w1_.cell? ⟨w.heap.size, 4, none⟩ = some (u0) := cell_of_row _ _ 4 _ _ _ A0_1_.out
    go_wp2_with fail
    refine (toM_own wd0 hi0 v0 t0 u0 l0 lo0 lc0 _ S0_1_.out m0 mo0 mc0).mono ?_
    rintro e w2_ ⟨kb2_, kk2_, kq2_, rfl, p2_, b2_⟩
    have n2_ : w1_.heap.size ≤ w2_.heap.size := b2_.size
    have T2_ : Below w.heap.size w w2_ := kTrans T1_ b2_
    have P0s_2_ := Lib.hid p2_.pk
    clear p2_
    have ST_2_ := Lib.hid (ST_1_.out.below b2_)
    have S0_2_ := Lib.hid (S0_1_.out.below b2_)
    have A0_2_ := Lib.hid (blk_below A0_1_.out b2_)
    clear c0_0 c0_1 c0_2 c0_3 c0_4 ST_1_ S0_1_ A0_1_ b2_ T1_
    go_wp2_with fail
    refine (Hs.out kb2_ kk2_ kq2_ _ P0s_2_.out).mono ?_
    rintro e w3_ ⟨rfl, b3_⟩
    have n3_ : w2_.heap.size ≤ w3_.heap.size := b3_.size
    have T3_ : Below w.heap.size w w3_ := kTrans T2_ b3_
    have ST_3_ := Lib.hid (ST_2_.out.below b3_)
    have S0_3_ := Lib.hid (S0_2_.out.below b3_)
    have A0_3_ := Lib.hid (blk_below A0_2_.out b3_)
    clear ST_2_ S0_2_ A0_2_ P0s_2_ b3_ T2_
    have c0_0 : w3_.cell? ⟨w.heap.size, 0, none⟩ = some (.int .i8 wd0) := cell_of_row _ _ 0 _ _ _ A0_3_.out
    have c0_1 : w3_.cell? ⟨w.heap.size, 1, none⟩ = some (.int .i8 hi0) := cell_of_row _ _ 1 _ _ _ A0_3_.out
    have c0_2 : w3_.cell? ⟨w.heap.size, 2, none⟩ = some (v0) := cell_of_row _ _ 2 _ _ _ A0_3_.out
    have c0_3 : w3_.cell? ⟨w.heap.size, 3, none⟩ = some (t0) := cell_of_row _ _ 3 _ _ _ A0_3_.out
    have c0_4 : w3_.cell? ⟨w.heap.size, 4, none⟩ = some (u0) := cell_of_row _ _ 4 _ _ _ A0_3_.out
    go_wp2_with fail
    refine (toM_own wd0 hi0 v0 t0 u0 l0 lo0 lc0 _ S0_3_.out m0 mo0 mc0).mono ?_
    rintro e w4_ ⟨kb4_, kk4_, kq4_, rfl, p4_, b4_⟩
    have n4_ : w3_.heap.size ≤ w4_.heap.size := b4_.size
    have T4_ : Below w.heap.size w w4_ := kTrans T3_ b4_
    have P0i_4_ := Lib.hid p4_.pk
    have V0_4_ := Lib.hid p4_
    clear p4_
    have ST_4_ := Lib.hid (ST_3_.out.below b4_)
    have S0_4_ := Lib.hid (S0_3_.out.below b4_)
    have A0_4_ := Lib.hid (blk_below A0_3_.out b4_)
    clear c0_0 c0_1 c0_2 c0_3 c0_4 ST_3_ S0_3_ A0_3_ b4_ T3_
    have bE : Below w4_.heap.size w4_ (w4_.alloc (.cells #[.int .i8 wd0, .int .i8 hi0, .slice (some ⟨kb4_, 0, none⟩) l0.length l0.length, .slice (some ⟨kk4_, 0, none⟩) lo0.length lo0.length, .slice (some ⟨kq4_, 0, none⟩) lc0.length lc0.length] 73)) := (kAlloc (Below.refl _ _) _)
    go_wp2_with fail
    refine (Hi.out kb4_ kk4_ kq4_ _ (P0i_4_.out.below bE) (ST_4_.out.below bE)).mono ?_
    rintro e w5_ ⟨rfl, b5_⟩
    have B5_ : Below w4_.heap.size w4_ w5_ := kTrans (kAlloc (Below.refl _ _) _) b5_
    have n5_ : w4_.heap.size + 1 ≤ w5_.heap.size := by have := b5_.size; simpa using this
    have T5_ : Below w.heap.size w w5_ := kTrans T4_ B5_
    have ST_5_ := Lib.hid (ST_4_.out.below B5_)
    have S0_5_ := Lib.hid (S0_4_.out.below B5_)
    have A0_5_ := Lib.hid (blk_below A0_4_.out B5_)
    have V0_5_ := Lib.hid (V0_4_.out.below B5_)
    have X0_5_ := Lib.hid (blk_below (heap_alloc_new w4_ (.cells #[.int .i8 wd0, .int .i8 hi0, .slice (some ⟨kb4_, 0, none⟩) l0.length l0.length, .slice (some ⟨kk4_, 0, none⟩) lo0.length lo0.length, .slice (some ⟨kq4_, 0, none⟩) lc0.length lc0.length] 73)) b5_)
    clear bE ST_4_ S0_4_ A0_4_ P0i_4_ V0_4_ b5_ B5_ T4_
    have c0_0 : w5_.cell? ⟨w.heap.size, 0, none⟩ = some (.int .i8 wd0) := cell_of_row _ _ 0 _ _ _ A0_5_.out
    have c0_1 : w5_.cell? ⟨w.heap.size, 1, none⟩ = some (.int .i8 hi0) := cell_of_row _ _ 1 _ _ _ A0_5_.out
    have c0_2 : w5_.cell? ⟨w.heap.size, 2, none⟩ = some (v0) := cell_of_row _ _ 2 _ _ _ A0_5_.out
    have c0_3 : w5_.cell? ⟨w.heap.size, 3, none⟩ = some (t0) := cell_of_row _ _ 3 _ _ _ A0_5_.out
    have c0_4 : w5_.cell? ⟨w.heap.size, 4, none⟩ = some (u0) := cell_of_row _ _ 4 _ _ _ A0_5_.out
    have c1_0 : w5_.cell? ⟨w4_.heap.size, 0, none⟩ = some (.int .i8 wd0) := cell_of_row _ _ 0 _ _ _ X0_5_.out
    have c1_1 : w5_.cell? ⟨w4_.heap.size, 1, none⟩ = some (.int .i8 hi0) := cell_of_row _ _ 1 _ _ _ X0_5_.out
    have c1_2 : w5_.cell? ⟨w4_.heap.size, 2, none⟩ = some (.slice (some ⟨kb4_, 0, none⟩) l0.length l0.length) := cell_of_row _ _ 2 _ _ _ X0_5_.out
    have c1_3 : w5_.cell? ⟨w4_.heap.size, 3, none⟩ = some (.slice (some ⟨kk4_, 0, none⟩) lo0.length lo0.length) := cell_of_row _ _ 3 _ _ _ X0_5_.out
    have c1_4 : w5_.cell? ⟨w4_.heap.size, 4, none⟩ = some (.slice (some ⟨kq4_, 0, none⟩) lc0.length lc0.length) := cell_of_row _ _ 4 _ _ _ X0_5_.out
    have la_ : w.heap.size < w5_.heap.size := mBlk_lt A0_5_.out
    have lx_ : w4_.heap.size < w5_.heap.size := mBlk_lt X0_5_.out
    go_wp2_with fail
    go_region_held3 (fun w' => w'.cell? ⟨w.heap.size, 0, none⟩ = some (.int .i8 wd0) ∧ w'.cell? ⟨w.heap.size, 1, none⟩ = some (.int .i8 hi0) ∧ w'.cell? ⟨w.heap.size, 2, none⟩ = some (v0) ∧ w'.cell? ⟨w.heap.size, 3, none⟩ = some (t0) ∧ w'.cell? ⟨w.heap.size, 4, none⟩ = some (u0) ∧ w'.cell? ⟨w4_.heap.size, 0, none⟩ = some (.int .i8 wd0) ∧ w'.cell? ⟨w4_.heap.size, 1, none⟩ = some (.int .i8 hi0) ∧ w'.cell? ⟨w4_.heap.size, 2, none⟩ = some (.slice (some ⟨kb4_, 0, none⟩) l0.length l0.length) ∧ w'.cell? ⟨w4_.heap.size, 3, none⟩ = some (.slice (some ⟨kk4_, 0, none⟩) lo0.length lo0.length) ∧ w'.cell? ⟨w4_.heap.size, 4, none⟩ = some (.slice (some ⟨kq4_, 0, none⟩) lc0.length lc0.length)) (go_keep)
      (first
      | (go_at_call 36
         refine (eqM wd0 hi0 _ _ _ _ _ _ l0 lo0 lc0 _ (V0_5_.out.below (kTrans (Below.drew (Below.refl _ _)) b6_)).pk p6_.pk a0 ao0 ac0 bw0 bh0 m0 mo0 mc0).mono ?_
         rintro e w7_ ⟨rfl, b7_⟩
         have c0_0 := (b7_.cell (p := ⟨w.heap.size, 0, none⟩) (Nat.lt_of_lt_of_le la_ b6_.size)).trans c0_0
         have c0_1 := (b7_.cell (p := ⟨w.heap.size, 1, none⟩) (Nat.lt_of_lt_of_le la_ b6_.size)).trans c0_1
         have c0_2 := (b7_.cell (p := ⟨w.heap.size, 2, none⟩) (Nat.lt_of_lt_of_le la_ b6_.size)).trans c0_2
         have c0_3 := (b7_.cell (p := ⟨w.heap.size, 3, none⟩) (Nat.lt_of_lt_of_le la_ b6_.size)).trans c0_3
         have c0_4 := (b7_.cell (p := ⟨w.heap.size, 4, none⟩) (Nat.lt_of_lt_of_le la_ b6_.size)).trans c0_4
         have c1_0 := (b7_.cell (p := ⟨w4_.heap.size, 0, none⟩) (Nat.lt_of_lt_of_le lx_ b6_.size)).trans c1_0
         have c1_1 := (b7_.cell (p := ⟨w4_.heap.size, 1, none⟩) (Nat.lt_of_lt_of_le lx_ b6_.size)).trans c1_1
         have c1_2 := (b7_.cell (p := ⟨w4_.heap.size, 2, none⟩) (Nat.lt_of_lt_of_le lx_ b6_.size)).trans c1_2
         have c1_3 := (b7_.cell (p := ⟨w4_.heap.size, 3, none⟩) (Nat.lt_of_lt_of_le lx_ b6_.size)).trans c1_3
         have c1_4 := (b7_.cell (p := ⟨w4_.heap.size, 4, none⟩) (Nat.lt_of_lt_of_le lx_ b6_.size)).trans c1_4)
      | (go_at_call 34
         refine (toM_own wd0 hi0 v0 t0 u0 l0 lo0 lc0 _ (S0_5_.out.below (Below.drew (Below.refl _ _))) m0 mo0 mc0).mono ?_
         rintro e w6_ ⟨kb6_, kk6_, kq6_, rfl, p6_, b6_⟩
         have c0_0 := (b6_.cell (p := ⟨w.heap.size, 0, none⟩) la_).trans c0_0
         have c0_1 := (b6_.cell (p := ⟨w.heap.size, 1, none⟩) la_).trans c0_1
         have c0_2 := (b6_.cell (p := ⟨w.heap.size, 2, none⟩) la_).trans c0_2
         have c0_3 := (b6_.cell (p := ⟨w.heap.size, 3, none⟩) la_).trans c0_3
         have c0_4 := (b6_.cell (p := ⟨w.heap.size, 4, none⟩) la_).trans c0_4
         have c1_0 := (b6_.cell (p := ⟨w4_.heap.size, 0, none⟩) lx_).trans c1_0
         have c1_1 := (b6_.cell (p := ⟨w4_.heap.size, 1, none⟩) lx_).trans c1_1
         have c1_2 := (b6_.cell (p := ⟨w4_.heap.size, 2, none⟩) lx_).trans c1_2
         have c1_3 := (b6_.cell (p := ⟨w4_.heap.size, 3, none⟩) lx_).trans c1_3
         have c1_4 := (b6_.cell (p := ⟨w4_.heap.size, 4, none⟩) lx_).trans c1_4))
    have bb_ : Below w5_.heap.size w5_ w7_ := kTrans (kTrans (Below.drew (Below.refl _ _)) b6_) b7_
    clear b6_ b7_ p6_ la_ lx_
    have n7_ : w5_.heap.size ≤ w7_.heap.size := bb_.size
    have T7_ : Below w.heap.size w w7_ := kTrans T5_ bb_
    have ST_7_ := Lib.hid (ST_5_.out.below bb_)
    have S0_7_ := Lib.hid (S0_5_.out.below bb_)
    have A0_7_ := Lib.hid (blk_below A0_5_.out bb_)
    have V0_7_ := Lib.hid (V0_5_.out.below bb_)
    have X0_7_ := Lib.hid (blk_below X0_5_.out bb_)
    clear c0_0 c0_1 c0_2 c0_3 c0_4 c1_0 c1_1 c1_2 c1_3 c1_4 ST_5_ S0_5_ A0_5_ V0_5_ X0_5_ bb_ T5_
    go_wp2
    go_ret
    exact ⟨rfl, T7_⟩

set_option maxRecDepth 100000 in
theorem lifted (os : Os) (started : os.Started) (H : Type) (enc : TypeId × Value → H) :
    ReturnsInHanded {} Tryd.checked os 8 .any (fun w args => (Rows.fnExactMachineTextSpec.pre enc Tryd.prog Tryd.f8 [] false w args ∧ laidMetH Tryd.prog laid1 w) ∧ sizedMet enc Tryd.prog Tryd.f8 (OpenSpec.ofChange Rows.fnExactMachineTextSpec) false w args) (Rows.fnExactMachineTextSpec.post enc Tryd.prog Tryd.f8 false true false false) := by
  refine returnsInHanded_of_change_and (C := Tryd.checked) (X := fun w _ => laidMetH Tryd.prog laid1 w) (fun _ _ _ hh h => h.of_heap hh) own started (by kernel_rfl) Tryd.func8
    (ChangeSpec.witness_shaped (enc := enc) (C := Tryd.checked) (os := os) (X := fun w _ => laidMetH Tryd.prog laid1 w) false (World.doorLaid Tryd.prog 400 os) #[.agg #[.int .i8 0, .int .i8 0, .slice none 0 0, .slice none 0 0, .slice none 0 0]] 8 rfl (World.shaped_of_RefB (by kernel_rfl) (by kernel_rfl)) (by kernel_rfl) (by kernel_rfl) (by kernel_rfl) (door_met os _)) ?_
  intro W base args ds gs before hval0 hW _ _ hL _
  have hval : ∀ (j : Nat) t v, Tryd.f8.params[j]? = some t → args[j]? = some v → Value.okWide Tryd.prog W .any base t v := hval0
  have hW' := hW
  obtain ⟨p, q, hA0, hV, rfl, hfz, hnd⟩ := hW
  have hA : DataW.TrodAll enc Tryd.prog W 0 (fun _ => true) true Tryd.f8.params.toList args.toList ds p := hA0
  rw [Tryd.params8] at hA hval
  have r_ := hA
  obtain ⟨v0, vs0, d0, ds0, pp0, qq0, hargs0, hds0, _, h0, r_⟩ := trodAll_cons r_
  obtain ⟨hv_, hd_, _⟩ := trodAll_nil r_
  subst hv_ hd_
  obtain rfl : args = #[v0] := by cases args; simp_all
  subst hds0
  obtain ⟨f0_, f1_, f2_, g0_, g1_, g2_, e1_, e2_, e3_, e4_, e5_, e6_, e7_, e8_, e9_⟩ := machine_struct
  obtain ⟨wd0, hi0, s0, t0, u0, l0, lo0, lc0, rfl, bw0, bh0, sl0, al0, le0, sp0, ap0, lp0, sc0, ac0, ln0⟩ := open_machine e1_.1 e1_.2 e2_ e3_ e4_ e5_ e6_ e7_ e8_ e9_ piece_cells piece_flat Po_cells Po_flat Cl_cells Cl_flat (hval 0 67 v0 rfl rfl) h0
  refine (walk (w := W) (stay_of_laid hL) wd0 hi0 s0 t0 u0 l0 lo0 lc0 bw0 bh0 sl0 al0 le0 sp0 ap0 lp0 sc0 ac0 ln0).mono fun e W' ⟨he, hg⟩ => ?_
  subst he
  exact ⟨_, rfl, law_post1 kids full laidOut staysRowed Tryd.underlying4 (by decide) rfl rfl (fun _ _ => rfl) hW' hg⟩

theorem over : Rows.fnExactMachineTextRow.holds Tryd.pinned (OpenSpec.ofChange Rows.fnExactMachineTextSpec) :=
  OpenClaim.holds_of_wide 8 Tryd.f8 rfl rfl rfl rfl rfl rfl rfl ⟨rfl, rfl, rfl, rfl, rfl⟩ rfl rfl rfl rfl rfl (by kernel_rfl) Tryd.func8 (by kernel_rfl)
    (of_decide_eq_true (by kernel_rfl)) (by unfold Func.isWrapper; first | (rw [if_pos (by decide +kernel)]; kernel_rfl) | (rw [if_neg (by decide +kernel)]; exact ⟨rfl, rfl⟩))
    (fun os started H enc _ => lifted os started H enc)

/-- The statement. -/
theorem proved : Rows.FnExactMachineTextCardSaid :=
  Claim7.holds_tied_plain_at .later [] [.data, .data, .data, .data, .data] true (true, "c86dbfffaf70c3c0f6e28a002827983a45b0fea8336726e3de167ec463d17b2d") false
    over (fun _ h => by cases h) (by kernel_rfl) (fun _ h => by cases h) fnExactMachineText_row_tie rfl ⟨rfl, rfl⟩ (by kernel_rfl) rfl
    (fun f fn hf hfn => by
      obtain rfl : f = 8 := Option.some.inj ((show Tryd.prog.funcNamed "loop.example/g01274/laws.FnExactMachineText" = some 8 by kernel_rfl).symm.trans hf) |>.symm
      obtain rfl : fn = Tryd.f8 := (Option.some.inj (Tryd.func8.symm.trans hfn)).symm
      exact ⟨by kernel_rfl, fun j t ht => by
        rw [Tryd.params8] at ht
        have hm : t ∈ [67] := by simpa using Array.mem_of_getElem? ht
        have hall : ([67].all fun u => !Tryd.prog.wantsStandIn u) = true := by kernel_rfl
        exact (show Tryd.prog.wantsStandIn t = false by simpa using List.all_eq_true.1 hall t hm)⟩)
    (by kernel_rfl)
#print axioms proved
end Go.Proofs.YtmllfacgonchnaaDoor.MachineText
