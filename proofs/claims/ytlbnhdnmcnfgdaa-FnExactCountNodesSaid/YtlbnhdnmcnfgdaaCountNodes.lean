/- 'CountNodes' answers as its model at every argument. No conditions. -/
import Derived.Test.YtlbnhdnmcnfgdaaNc
import Derived.Deep.RegionHeld3
import Derived.Deep.DeepCutAuto
namespace Go.Proofs.Ytlbnhdnmcnfgdaa.CountNodes
open Go.ChangeShapes Go.WideShapes Go.ChangeAt Go.RowKit
set_option linter.unusedVariables false

theorem same (ni : Int) (l : List Nd) (p : List Int) (h8 : NdsWf l) (h9 : ShsWf p) (bw : i8 ni) (m0 : l.length ≤ 1048576) (m1 : p.length ≤ 1048576) : ∃ A0 A1 A2 A3 C : Int,
    (∀ b k w, NK w b k l p → Calls Try.prog 29 #[.agg #[.int .i8 ni, .slice (some ⟨b, 0, none⟩) l.length l.length, .slice (some ⟨k, 0, none⟩) p.length p.length]] w fun e w' => e = .returned (.tuple #[.agg #[.int .i64 A0, .int .i64 A1, .int .i64 A2, .int .i64 A3], .int .i64 C]) ∧ Below w.heap.size w w') ∧
    (∀ b k w, NK w b k l p → Calls Try.prog 30 #[.agg #[.int .i8 ni, .slice (some ⟨b, 0, none⟩) l.length l.length, .slice (some ⟨k, 0, none⟩) p.length p.length]] w fun e w' => e = .returned (.tuple #[.agg #[.int .i64 A0, .int .i64 A1, .int .i64 A2, .int .i64 A3], .int .i64 C]) ∧ Below w.heap.size w w') :=
  ⟨_, _, _, _, _, fun b k w hp => specCountNodes_any b k _ _ ni l p w rfl rfl hp h8 h9 bw m0 m1 _ rfl, fun b k w hp => implCountNodes_any b k _ _ ni l p w rfl rfl hp h8 h9 bw m0 m1 _ rfl⟩

set_option maxRecDepth 100000 in
set_option maxHeartbeats 16000000 in
theorem walk {w : World} (wd0 : Int) (v0 t0 : Value) (l0 : List Nd) (lo0 : List Int) (bw0 : i8 wd0) (s0 : SlNd w l0 v0) (a0 : NdsWf l0) (e0 : l0.length ≤ maxLen) (so0 : SlSh w lo0 t0) (ao0 : ShsWf lo0) (eo0 : lo0.length ≤ maxLen) :
    Calls Try.prog 8 #[.agg #[.int .i8 wd0, v0, t0]] w fun e w' => e = .returned (.bool true) ∧ Below w.heap.size w w' := by
  unfold maxLen at e0 eo0
  have S0_ := Lib.hid (NSO.start s0 so0)
  clear so0
  clear s0
  by_cases h0 : 1048576 - (l0.length : Int) - (lo0.length : Int) < 0
  · skip
    have bE : Below w.heap.size w (w.alloc (.cells #[.int .i8 wd0, v0, t0] 26)) := (kAlloc (Below.refl _ _) _)
    go_enter Try.func8, Try.ntmps8
    go_wp2_with fail
    refine (szN wd0 v0 t0 l0 lo0 _ (S0_.out.below bE) (1048576) e0 eo0 (by omega) (by omega)).mono ?_
    rw [if_pos (by omega)]
    rintro e w1_ ⟨rfl, b1_⟩
    have B1_ : Below w.heap.size w w1_ := kTrans (kAlloc (Below.refl _ _) _) b1_
    have n1_ : w.heap.size + 1 ≤ w1_.heap.size := by have := b1_.size; simpa using this
    have T1_ : Below w.heap.size w w1_ := B1_
    have S0_1_ := Lib.hid (S0_.out.below B1_)
    have A0_1_ := Lib.hid (blk_below (heap_alloc_new w (.cells #[.int .i8 wd0, v0, t0] 26)) b1_)
    clear bE S0_ b1_ B1_
    go_wp2
    go_ret
    exact ⟨rfl, T1_⟩
  · skip
    have h0' : ¬ 1048576 - (l0.length : Int) < (lo0.length : Int) := by omega
    have m0 : l0.length ≤ 1048576 := by omega
    have q0 : (3 : Int) * l0.length ≤ 3145728 := by omega
    have mo0 : lo0.length ≤ 1048576 := by omega
    have qo0 : (1 : Int) * lo0.length ≤ 1048576 := by omega
    obtain ⟨A0, A1, A2, A3, C, hs, hi_⟩ := same wd0 l0 lo0 a0 ao0 bw0 m0 mo0
    have Hs := Lib.hid (fun b0 k0 w2 (hp0 : NK w2 b0 k0 l0 lo0) => hs b0 k0 w2 hp0)
    have Hi := Lib.hid (fun b0 k0 w2 (hp0 : NK w2 b0 k0 l0 lo0) => hi_ b0 k0 w2 hp0)
    clear hs hi_
    have bE : Below w.heap.size w (w.alloc (.cells #[.int .i8 wd0, v0, t0] 26)) := (kAlloc (Below.refl _ _) _)
    go_enter Try.func8, Try.ntmps8
    go_wp2_with fail
    refine (szN wd0 v0 t0 l0 lo0 _ (S0_.out.below bE) (1048576) e0 eo0 (by omega) (by omega)).mono ?_
    rw [if_neg (by omega)]
    rintro e w1_ ⟨rfl, b1_⟩
    have B1_ : Below w.heap.size w w1_ := kTrans (kAlloc (Below.refl _ _) _) b1_
    have n1_ : w.heap.size + 1 ≤ w1_.heap.size := by have := b1_.size; simpa using this
    have T1_ : Below w.heap.size w w1_ := B1_
    have S0_1_ := Lib.hid (S0_.out.below B1_)
    have A0_1_ := Lib.hid (blk_below (heap_alloc_new w (.cells #[.int .i8 wd0, v0, t0] 26)) b1_)
    clear bE S0_ b1_ B1_
    have c0_0 : w1_.cell? ⟨w.heap.size, 0, none⟩ = some (.int .i8 wd0) := cell_of_row _ _ 0 _ _ _ A0_1_.out
    have c0_1 : w1_.cell? ⟨w.heap.size, 1, none⟩ = some (v0) := cell_of_row _ _ 1 _ _ _ A0_1_.out
    have c0_2 : w1_.cell? ⟨w.heap.size, 2, none⟩ = some (t0) := cell_of_row _ _ 2 _ _ _ A0_1_.out
    go_wp2_with fail
    refine (toN_own wd0 v0 t0 l0 lo0 _ S0_1_.out m0 mo0).mono ?_
    rintro e w2_ ⟨kb2_, kk2_, rfl, p2_, b2_⟩
    have n2_ : w1_.heap.size ≤ w2_.heap.size := b2_.size
    have T2_ : Below w.heap.size w w2_ := kTrans T1_ b2_
    have P0s_2_ := Lib.hid p2_.pk
    clear p2_
    have S0_2_ := Lib.hid (S0_1_.out.below b2_)
    have A0_2_ := Lib.hid (blk_below A0_1_.out b2_)
    clear c0_0 c0_1 c0_2 S0_1_ A0_1_ b2_ T1_
    go_wp2_with fail
    refine (Hs.out kb2_ kk2_ _ P0s_2_.out).mono ?_
    rintro e w3_ ⟨rfl, b3_⟩
    have n3_ : w2_.heap.size ≤ w3_.heap.size := b3_.size
    have T3_ : Below w.heap.size w w3_ := kTrans T2_ b3_
    have S0_3_ := Lib.hid (S0_2_.out.below b3_)
    have A0_3_ := Lib.hid (blk_below A0_2_.out b3_)
    clear S0_2_ A0_2_ P0s_2_ b3_ T2_
    have bE : Below w3_.heap.size w3_ (w3_.alloc (.cells #[.int .i64 A0, .int .i64 A1, .int .i64 A2, .int .i64 A3] 45)) := (kAlloc (Below.refl _ _) _)
    have c0_0 : (w3_.alloc (.cells #[.int .i64 A0, .int .i64 A1, .int .i64 A2, .int .i64 A3] 45)).cell? ⟨w.heap.size, 0, none⟩ = some (.int .i8 wd0) := cell_of_row _ _ 0 _ _ _ (blk_below A0_3_.out bE)
    have c0_1 : (w3_.alloc (.cells #[.int .i64 A0, .int .i64 A1, .int .i64 A2, .int .i64 A3] 45)).cell? ⟨w.heap.size, 1, none⟩ = some (v0) := cell_of_row _ _ 1 _ _ _ (blk_below A0_3_.out bE)
    have c0_2 : (w3_.alloc (.cells #[.int .i64 A0, .int .i64 A1, .int .i64 A2, .int .i64 A3] 45)).cell? ⟨w.heap.size, 2, none⟩ = some (t0) := cell_of_row _ _ 2 _ _ _ (blk_below A0_3_.out bE)
    go_wp2_with fail
    refine (toN_own wd0 v0 t0 l0 lo0 _ (S0_3_.out.below bE) m0 mo0).mono ?_
    rintro e w4_ ⟨kb4_, kk4_, rfl, p4_, b4_⟩
    have B4_ : Below w3_.heap.size w3_ w4_ := kTrans (kAlloc (Below.refl _ _) _) b4_
    have n4_ : w3_.heap.size + 1 ≤ w4_.heap.size := by have := b4_.size; simpa using this
    have T4_ : Below w.heap.size w w4_ := kTrans T3_ B4_
    simp only [World.size_alloc] at p4_
    have P0i_4_ := Lib.hid p4_.pk
    have V0_4_ := Lib.hid p4_
    clear p4_
    have S0_4_ := Lib.hid (S0_3_.out.below B4_)
    have A0_4_ := Lib.hid (blk_below A0_3_.out B4_)
    have Xw0_4_ := Lib.hid (blk_below (heap_alloc_new w3_ (.cells #[.int .i64 A0, .int .i64 A1, .int .i64 A2, .int .i64 A3] 45)) b4_)
    clear bE c0_0 c0_1 c0_2 S0_3_ A0_3_ b4_ B4_ T3_
    have bE : Below w4_.heap.size w4_ (w4_.alloc (.cells #[.int .i8 wd0, .slice (some ⟨kb4_, 0, none⟩) l0.length l0.length, .slice (some ⟨kk4_, 0, none⟩) lo0.length lo0.length] 31)) := (kAlloc (Below.refl _ _) _)
    go_wp2_with fail
    refine (Hi.out kb4_ kk4_ _ (P0i_4_.out.below bE)).mono ?_
    rintro e w5_ ⟨rfl, b5_⟩
    have B5_ : Below w4_.heap.size w4_ w5_ := kTrans (kAlloc (Below.refl _ _) _) b5_
    have n5_ : w4_.heap.size + 1 ≤ w5_.heap.size := by have := b5_.size; simpa using this
    have T5_ : Below w.heap.size w w5_ := kTrans T4_ B5_
    have S0_5_ := Lib.hid (S0_4_.out.below B5_)
    have A0_5_ := Lib.hid (blk_below A0_4_.out B5_)
    have V0_5_ := Lib.hid (V0_4_.out.below B5_)
    have Xw0_5_ := Lib.hid (blk_below Xw0_4_.out B5_)
    have X0_5_ := Lib.hid (blk_below (heap_alloc_new w4_ (.cells #[.int .i8 wd0, .slice (some ⟨kb4_, 0, none⟩) l0.length l0.length, .slice (some ⟨kk4_, 0, none⟩) lo0.length lo0.length] 31)) b5_)
    clear bE S0_4_ A0_4_ P0i_4_ V0_4_ Xw0_4_ b5_ B5_ T4_
    have bE : Below w5_.heap.size w5_ (w5_.alloc (.cells #[.int .i64 A0, .int .i64 A1, .int .i64 A2, .int .i64 A3] 45)) := (kAlloc (Below.refl _ _) _)
    have c1_0 : (w5_.alloc (.cells #[.int .i64 A0, .int .i64 A1, .int .i64 A2, .int .i64 A3] 45)).cell? ⟨w3_.heap.size, 0, none⟩ = some (.int .i64 A0) := cell_of_row _ _ 0 _ _ _ (blk_below Xw0_5_.out bE)
    have c1_1 : (w5_.alloc (.cells #[.int .i64 A0, .int .i64 A1, .int .i64 A2, .int .i64 A3] 45)).cell? ⟨w3_.heap.size, 1, none⟩ = some (.int .i64 A1) := cell_of_row _ _ 1 _ _ _ (blk_below Xw0_5_.out bE)
    have c1_2 : (w5_.alloc (.cells #[.int .i64 A0, .int .i64 A1, .int .i64 A2, .int .i64 A3] 45)).cell? ⟨w3_.heap.size, 2, none⟩ = some (.int .i64 A2) := cell_of_row _ _ 2 _ _ _ (blk_below Xw0_5_.out bE)
    have c1_3 : (w5_.alloc (.cells #[.int .i64 A0, .int .i64 A1, .int .i64 A2, .int .i64 A3] 45)).cell? ⟨w3_.heap.size, 3, none⟩ = some (.int .i64 A3) := cell_of_row _ _ 3 _ _ _ (blk_below Xw0_5_.out bE)
    go_wp2_with fail
    refine (eqInt64A4_same A0 A1 A2 A3 _).mono ?_
    rintro e w6_ ⟨rfl, b6_⟩
    have B6_ : Below w5_.heap.size w5_ w6_ := kTrans (kAlloc (Below.refl _ _) _) b6_
    have n6_ : w5_.heap.size + 1 ≤ w6_.heap.size := by have := b6_.size; simpa using this
    have T6_ : Below w.heap.size w w6_ := kTrans T5_ B6_
    have S0_6_ := Lib.hid (S0_5_.out.below B6_)
    have A0_6_ := Lib.hid (blk_below A0_5_.out B6_)
    have V0_6_ := Lib.hid (V0_5_.out.below B6_)
    have Xw0_6_ := Lib.hid (blk_below Xw0_5_.out B6_)
    have X0_6_ := Lib.hid (blk_below X0_5_.out B6_)
    have Xg0_6_ := Lib.hid (blk_below (heap_alloc_new w5_ (.cells #[.int .i64 A0, .int .i64 A1, .int .i64 A2, .int .i64 A3] 45)) b6_)
    clear bE c1_0 c1_1 c1_2 c1_3 S0_5_ A0_5_ V0_5_ Xw0_5_ X0_5_ b6_ B6_ T5_
    have c0_0 : w6_.cell? ⟨w.heap.size, 0, none⟩ = some (.int .i8 wd0) := cell_of_row _ _ 0 _ _ _ A0_6_.out
    have c0_1 : w6_.cell? ⟨w.heap.size, 1, none⟩ = some (v0) := cell_of_row _ _ 1 _ _ _ A0_6_.out
    have c0_2 : w6_.cell? ⟨w.heap.size, 2, none⟩ = some (t0) := cell_of_row _ _ 2 _ _ _ A0_6_.out
    have c1_0 : w6_.cell? ⟨w4_.heap.size, 0, none⟩ = some (.int .i8 wd0) := cell_of_row _ _ 0 _ _ _ X0_6_.out
    have c1_1 : w6_.cell? ⟨w4_.heap.size, 1, none⟩ = some (.slice (some ⟨kb4_, 0, none⟩) l0.length l0.length) := cell_of_row _ _ 1 _ _ _ X0_6_.out
    have c1_2 : w6_.cell? ⟨w4_.heap.size, 2, none⟩ = some (.slice (some ⟨kk4_, 0, none⟩) lo0.length lo0.length) := cell_of_row _ _ 2 _ _ _ X0_6_.out
    have la_ : w.heap.size < w6_.heap.size := blk_lt A0_6_.out
    have lx_ : w4_.heap.size < w6_.heap.size := blk_lt X0_6_.out
    go_wp2_with fail
    go_region_held3 (fun w' => w'.cell? ⟨w.heap.size, 0, none⟩ = some (.int .i8 wd0) ∧ w'.cell? ⟨w.heap.size, 1, none⟩ = some (v0) ∧ w'.cell? ⟨w.heap.size, 2, none⟩ = some (t0) ∧ w'.cell? ⟨w4_.heap.size, 0, none⟩ = some (.int .i8 wd0) ∧ w'.cell? ⟨w4_.heap.size, 1, none⟩ = some (.slice (some ⟨kb4_, 0, none⟩) l0.length l0.length) ∧ w'.cell? ⟨w4_.heap.size, 2, none⟩ = some (.slice (some ⟨kk4_, 0, none⟩) lo0.length lo0.length)) (go_keep)
      (first
      | (go_at_call 16
         refine (eqN wd0 _ _ _ _ l0 lo0 _ (V0_6_.out.below (kTrans (Below.drew (Below.refl _ _)) b7_)).pk p7_.pk a0 ao0 m0 mo0).mono ?_
         rintro e w8_ ⟨rfl, b8_⟩
         have c0_0 := (b8_.cell (p := ⟨w.heap.size, 0, none⟩) (Nat.lt_of_lt_of_le la_ b7_.size)).trans c0_0
         have c0_1 := (b8_.cell (p := ⟨w.heap.size, 1, none⟩) (Nat.lt_of_lt_of_le la_ b7_.size)).trans c0_1
         have c0_2 := (b8_.cell (p := ⟨w.heap.size, 2, none⟩) (Nat.lt_of_lt_of_le la_ b7_.size)).trans c0_2
         have c1_0 := (b8_.cell (p := ⟨w4_.heap.size, 0, none⟩) (Nat.lt_of_lt_of_le lx_ b7_.size)).trans c1_0
         have c1_1 := (b8_.cell (p := ⟨w4_.heap.size, 1, none⟩) (Nat.lt_of_lt_of_le lx_ b7_.size)).trans c1_1
         have c1_2 := (b8_.cell (p := ⟨w4_.heap.size, 2, none⟩) (Nat.lt_of_lt_of_le lx_ b7_.size)).trans c1_2)
      | (go_at_call 14
         refine (toN_own wd0 v0 t0 l0 lo0 _ (S0_6_.out.below (Below.drew (Below.refl _ _))) m0 mo0).mono ?_
         rintro e w7_ ⟨kb7_, kk7_, rfl, p7_, b7_⟩
         have c0_0 := (b7_.cell (p := ⟨w.heap.size, 0, none⟩) la_).trans c0_0
         have c0_1 := (b7_.cell (p := ⟨w.heap.size, 1, none⟩) la_).trans c0_1
         have c0_2 := (b7_.cell (p := ⟨w.heap.size, 2, none⟩) la_).trans c0_2
         have c1_0 := (b7_.cell (p := ⟨w4_.heap.size, 0, none⟩) lx_).trans c1_0
         have c1_1 := (b7_.cell (p := ⟨w4_.heap.size, 1, none⟩) lx_).trans c1_1
         have c1_2 := (b7_.cell (p := ⟨w4_.heap.size, 2, none⟩) lx_).trans c1_2))
    have bb_ : Below w6_.heap.size w6_ w8_ := kTrans (kTrans (Below.drew (Below.refl _ _)) b7_) b8_
    clear b7_ b8_ p7_ la_ lx_
    have n8_ : w6_.heap.size ≤ w8_.heap.size := bb_.size
    have T8_ : Below w.heap.size w w8_ := kTrans T6_ bb_
    have S0_8_ := Lib.hid (S0_6_.out.below bb_)
    have A0_8_ := Lib.hid (blk_below A0_6_.out bb_)
    have V0_8_ := Lib.hid (V0_6_.out.below bb_)
    have Xw0_8_ := Lib.hid (blk_below Xw0_6_.out bb_)
    have X0_8_ := Lib.hid (blk_below X0_6_.out bb_)
    have Xg0_8_ := Lib.hid (blk_below Xg0_6_.out bb_)
    clear c0_0 c0_1 c0_2 c1_0 c1_1 c1_2 S0_6_ A0_6_ V0_6_ Xw0_6_ X0_6_ Xg0_6_ bb_ T6_
    go_wp2
    go_ret
    exact ⟨rfl, T8_⟩

set_option maxRecDepth 100000 in
theorem lifted (os : Os) (started : os.Started) (H : Type) (enc : TypeId × Value → H) :
    ReturnsInHanded {} Try.checked os 8 .any (Rows.fnExactCountNodesSpec.pre6 enc Try.prog Try.f8 Rows.fnExactCountNodesRow.domain false) (Rows.fnExactCountNodesSpec.post enc Try.prog Try.f8 false true false false) := by
  refine returnsInHanded_of_change (C := Try.checked) own started (by kernel_rfl) Try.func8
    (ChangeSpec.witness6 (enc := enc) (C := Try.checked) false ⟨#[], #[.agg #[.int .i8 0, .slice none 0 0, .slice none 0 0]], []⟩ 8 (by kernel_rfl) (by kernel_rfl) (by kernel_rfl) (by kernel_rfl)) ?_
  intro W base args ds gs before hval0 hW hcnd _
  have hval : ∀ (j : Nat) t v, Try.f8.params[j]? = some t → args[j]? = some v → Value.okWide Try.prog W .any base t v := hval0
  have hW' := hW
  obtain ⟨p, q, hA0, hV, rfl, hfz, hnd⟩ := hW
  have hA : DataW.TrodAll enc Try.prog W 0 (fun _ => true) true Try.f8.params.toList args.toList ds p := hA0
  rw [Try.params8] at hA hval
  have r_ := hA
  obtain ⟨v0, vs0, d0, ds0, pp0, qq0, hargs0, hds0, _, h0, r_⟩ := trodAll_cons r_
  obtain ⟨hv_, hd_, _⟩ := trodAll_nil r_
  subst hv_ hd_
  obtain rfl : args = #[v0] := by cases args; simp_all
  subst hds0
  obtain ⟨f0_, f1_, f2_, e1_, e2_, e3_, e4_, e5_, e6_⟩ := network_struct
  obtain ⟨wd0, s0, t0, l0, lo0, rfl, bw0, sl0, al0, le0, sp0, ap0, lp0⟩ := open_network e1_ e2_ e3_ e4_ e5_ e6_ Nd_cells Nd_flat Sh_cells Sh_flat (hval 0 26 v0 rfl rfl) h0
  refine (walk (w := W) wd0 s0 t0 l0 lo0 bw0 sl0 al0 le0 sp0 ap0 lp0).mono fun e W' ⟨he, hg⟩ => ?_
  subst he
  exact ⟨_, rfl, law_post kids full Try.underlying4 (by decide) rfl rfl rfl hW' hg⟩

theorem over : Rows.fnExactCountNodesRow.holds Try.pinned (OpenSpec.ofChange Rows.fnExactCountNodesSpec) :=
  OpenClaim.holds_of_wide 8 Try.f8 rfl rfl rfl rfl rfl rfl rfl ⟨rfl, rfl, rfl, rfl, rfl⟩ rfl rfl rfl rfl rfl (by kernel_rfl) Try.func8 (by kernel_rfl)
    (of_decide_eq_true (by kernel_rfl)) (by unfold Func.isWrapper; first | (rw [if_pos (by decide +kernel)]; kernel_rfl) | (rw [if_neg (by decide +kernel)]; exact ⟨rfl, rfl⟩))
    (fun os started H enc _ => lifted os started H enc)

/-- The statement. -/
theorem proved : Rows.FnExactCountNodesSaid :=
  over
#print axioms proved
end Go.Proofs.Ytlbnhdnmcnfgdaa.CountNodes
