/- 'NetworkText' answers as its model at every argument. No conditions. -/
import Derived.Test.YtobhppkcgioheaaDoorStn
import Derived.Test.YtobhppkcgioheaaDoorNxI
import Derived.Test.YtobhppkcgioheaaDoorNxS
import Derived.Deep.RegionHeld3
import Derived.Deep.DeepCutAuto
namespace Go.Proofs.YtobhppkcgioheaaDoor.NetworkText
open Go.ChangeShapes Go.WideShapes Go.ChangeAt Go.RowKit
set_option linter.unusedVariables false

set_option maxRecDepth 100000 in
set_option maxHeartbeats 16000000 in
theorem walk {w : World} (hst_ : StayAt w) (wd0 : Int) (v0 t0 : Value) (l0 : List Nd) (lo0 : List Int) (bw0 : i8 wd0) (s0 : SlNd w l0 v0) (a0 : NdsWf l0) (e0 : l0.length ≤ maxLen) (so0 : SlSh w lo0 t0) (ao0 : ShsWf lo0) (eo0 : lo0.length ≤ maxLen) :
    Calls Tryd.prog 9 #[.agg #[.int .i8 wd0, v0, t0]] w fun e w' => e = .returned (.bool true) ∧ Below w.heap.size w w' := by
  unfold maxLen at e0 eo0
  have S0_ := Lib.hid (NSO.start s0 so0)
  clear so0
  clear s0
  have ST_ := Lib.hid hst_
  have st0_ : True := trivial
  clear hst_
  by_cases h0 : 1048576 - (l0.length : Int) - (lo0.length : Int) < 0
  · skip
    have bE : Below w.heap.size w (w.alloc (.cells #[.int .i8 wd0, v0, t0] 63)) := (kAlloc (Below.refl _ _) _)
    go_enter Tryd.func9, Tryd.ntmps9
    go_wp2_with fail
    refine (szN wd0 v0 t0 l0 lo0 _ (S0_.out.below bE) (1048576) e0 eo0 (by omega) (by omega)).mono ?_
    rw [if_pos (by omega)]
    rintro e w1_ ⟨rfl, b1_⟩
    have B1_ : Below w.heap.size w w1_ := kTrans (kAlloc (Below.refl _ _) _) b1_
    have n1_ : w.heap.size + 1 ≤ w1_.heap.size := by have := b1_.size; simpa using this
    have T1_ : Below w.heap.size w w1_ := B1_
    have ST_1_ := Lib.hid (ST_.out.below B1_)
    have S0_1_ := Lib.hid (S0_.out.below B1_)
    have A0_1_ := Lib.hid (blk_below (heap_alloc_new w (.cells #[.int .i8 wd0, v0, t0] 63)) b1_)
    clear bE ST_ S0_ b1_ B1_
    go_wp2
    go_ret
    exact ⟨rfl, T1_⟩
  · skip
    have h0' : ¬ 1048576 - (l0.length : Int) < (lo0.length : Int) := by omega
    have m0 : l0.length ≤ 1048576 := by omega
    have q0 : (3 : Int) * l0.length ≤ 3145728 := by omega
    have mo0 : lo0.length ≤ 1048576 := by omega
    have qo0 : (1 : Int) * lo0.length ≤ 1048576 := by omega
    obtain ⟨R, hR⟩ : ∃ R, R = netOk wd0 l0 lo0 := ⟨_, rfl⟩
    obtain ⟨S, hS⟩ : ∃ S, bsT (ntQ R wd0 l0 lo0) = S := ⟨_, rfl⟩
    have Hs := Lib.hid (fun b0 k0 w2 (hp0 : NK w2 b0 k0 l0 lo0) => specNetworkText_any b0 k0 wd0 l0 lo0 w2 hp0 a0 ao0 bw0 m0 mo0 R hR S hS)
    have Hi := Lib.hid (fun b0 k0 w2 (hp0 : NK w2 b0 k0 l0 lo0) (hs2 : StayAt w2) => implNetworkText_any b0 k0 wd0 l0 lo0 w2 hp0 a0 ao0 bw0 m0 mo0 R hR S hS hs2.word hs2.fld)
    clear hR hS
    have bE : Below w.heap.size w (w.alloc (.cells #[.int .i8 wd0, v0, t0] 63)) := (kAlloc (Below.refl _ _) _)
    go_enter Tryd.func9, Tryd.ntmps9
    go_wp2_with fail
    refine (szN wd0 v0 t0 l0 lo0 _ (S0_.out.below bE) (1048576) e0 eo0 (by omega) (by omega)).mono ?_
    rw [if_neg (by omega)]
    rintro e w1_ ⟨rfl, b1_⟩
    have B1_ : Below w.heap.size w w1_ := kTrans (kAlloc (Below.refl _ _) _) b1_
    have n1_ : w.heap.size + 1 ≤ w1_.heap.size := by have := b1_.size; simpa using this
    have T1_ : Below w.heap.size w w1_ := B1_
    have ST_1_ := Lib.hid (ST_.out.below B1_)
    have S0_1_ := Lib.hid (S0_.out.below B1_)
    have A0_1_ := Lib.hid (blk_below (heap_alloc_new w (.cells #[.int .i8 wd0, v0, t0] 63)) b1_)
    clear bE ST_ S0_ b1_ B1_
    have c0_0 : w1_.cell? ⟨w.heap.size, 0, none⟩ = some (.int .i8 wd0) := cell_of_row _ _ 0 _ _ _ A0_1_.out
    have c0_1 : w1_.cell? ⟨w.heap.size, 1, none⟩ = some (v0) := cell_of_row _ _ 1 _ _ _ A0_1_.out
    have c0_2 : w1_.cell? ⟨w.heap.size, 2, none⟩ = some (t0) := cell_of_row _ _ 2 _ _ _ A0_1_.out
    go_wp2_with fail
    refine (toN_own wd0 v0 t0 l0 lo0 _ S0_1_.out m0 mo0).mono ?_
    rintro e w2_ ⟨kb2_, kk2_, rfl, p2_, b2_⟩
    have n2_ : w1_.heap.size ≤ w2_.heap.size := b2_.size
    have T2_ : Below w.heap.size w w2_ := kTrans T1_ b2_
    have P0s_2_ := Lib.hid p2_.pk
    clear p2_
    have ST_2_ := Lib.hid (ST_1_.out.below b2_)
    have S0_2_ := Lib.hid (S0_1_.out.below b2_)
    have A0_2_ := Lib.hid (blk_below A0_1_.out b2_)
    clear c0_0 c0_1 c0_2 ST_1_ S0_1_ A0_1_ b2_ T1_
    go_wp2_with fail
    refine (Hs.out kb2_ kk2_ _ P0s_2_.out).mono ?_
    rintro e w3_ ⟨rfl, b3_⟩
    have n3_ : w2_.heap.size ≤ w3_.heap.size := b3_.size
    have T3_ : Below w.heap.size w w3_ := kTrans T2_ b3_
    have ST_3_ := Lib.hid (ST_2_.out.below b3_)
    have S0_3_ := Lib.hid (S0_2_.out.below b3_)
    have A0_3_ := Lib.hid (blk_below A0_2_.out b3_)
    clear ST_2_ S0_2_ A0_2_ P0s_2_ b3_ T2_
    have c0_0 : w3_.cell? ⟨w.heap.size, 0, none⟩ = some (.int .i8 wd0) := cell_of_row _ _ 0 _ _ _ A0_3_.out
    have c0_1 : w3_.cell? ⟨w.heap.size, 1, none⟩ = some (v0) := cell_of_row _ _ 1 _ _ _ A0_3_.out
    have c0_2 : w3_.cell? ⟨w.heap.size, 2, none⟩ = some (t0) := cell_of_row _ _ 2 _ _ _ A0_3_.out
    go_wp2_with fail
    refine (toN_own wd0 v0 t0 l0 lo0 _ S0_3_.out m0 mo0).mono ?_
    rintro e w4_ ⟨kb4_, kk4_, rfl, p4_, b4_⟩
    have n4_ : w3_.heap.size ≤ w4_.heap.size := b4_.size
    have T4_ : Below w.heap.size w w4_ := kTrans T3_ b4_
    have P0i_4_ := Lib.hid p4_.pk
    have V0_4_ := Lib.hid p4_
    clear p4_
    have ST_4_ := Lib.hid (ST_3_.out.below b4_)
    have S0_4_ := Lib.hid (S0_3_.out.below b4_)
    have A0_4_ := Lib.hid (blk_below A0_3_.out b4_)
    clear c0_0 c0_1 c0_2 ST_3_ S0_3_ A0_3_ b4_ T3_
    have bE : Below w4_.heap.size w4_ (w4_.alloc (.cells #[.int .i8 wd0, .slice (some ⟨kb4_, 0, none⟩) l0.length l0.length, .slice (some ⟨kk4_, 0, none⟩) lo0.length lo0.length] 56)) := (kAlloc (Below.refl _ _) _)
    go_wp2_with fail
    refine (Hi.out kb4_ kk4_ _ (P0i_4_.out.below bE) (ST_4_.out.below bE)).mono ?_
    rintro e w5_ ⟨rfl, b5_⟩
    have B5_ : Below w4_.heap.size w4_ w5_ := kTrans (kAlloc (Below.refl _ _) _) b5_
    have n5_ : w4_.heap.size + 1 ≤ w5_.heap.size := by have := b5_.size; simpa using this
    have T5_ : Below w.heap.size w w5_ := kTrans T4_ B5_
    have ST_5_ := Lib.hid (ST_4_.out.below B5_)
    have S0_5_ := Lib.hid (S0_4_.out.below B5_)
    have A0_5_ := Lib.hid (blk_below A0_4_.out B5_)
    have V0_5_ := Lib.hid (V0_4_.out.below B5_)
    have X0_5_ := Lib.hid (blk_below (heap_alloc_new w4_ (.cells #[.int .i8 wd0, .slice (some ⟨kb4_, 0, none⟩) l0.length l0.length, .slice (some ⟨kk4_, 0, none⟩) lo0.length lo0.length] 56)) b5_)
    clear bE ST_4_ S0_4_ A0_4_ P0i_4_ V0_4_ b5_ B5_ T4_
    have c0_0 : w5_.cell? ⟨w.heap.size, 0, none⟩ = some (.int .i8 wd0) := cell_of_row _ _ 0 _ _ _ A0_5_.out
    have c0_1 : w5_.cell? ⟨w.heap.size, 1, none⟩ = some (v0) := cell_of_row _ _ 1 _ _ _ A0_5_.out
    have c0_2 : w5_.cell? ⟨w.heap.size, 2, none⟩ = some (t0) := cell_of_row _ _ 2 _ _ _ A0_5_.out
    have c1_0 : w5_.cell? ⟨w4_.heap.size, 0, none⟩ = some (.int .i8 wd0) := cell_of_row _ _ 0 _ _ _ X0_5_.out
    have c1_1 : w5_.cell? ⟨w4_.heap.size, 1, none⟩ = some (.slice (some ⟨kb4_, 0, none⟩) l0.length l0.length) := cell_of_row _ _ 1 _ _ _ X0_5_.out
    have c1_2 : w5_.cell? ⟨w4_.heap.size, 2, none⟩ = some (.slice (some ⟨kk4_, 0, none⟩) lo0.length lo0.length) := cell_of_row _ _ 2 _ _ _ X0_5_.out
    have la_ : w.heap.size < w5_.heap.size := blk_lt A0_5_.out
    have lx_ : w4_.heap.size < w5_.heap.size := blk_lt X0_5_.out
    go_wp2_with fail
    go_region_held3 (fun w' => w'.cell? ⟨w.heap.size, 0, none⟩ = some (.int .i8 wd0) ∧ w'.cell? ⟨w.heap.size, 1, none⟩ = some (v0) ∧ w'.cell? ⟨w.heap.size, 2, none⟩ = some (t0) ∧ w'.cell? ⟨w4_.heap.size, 0, none⟩ = some (.int .i8 wd0) ∧ w'.cell? ⟨w4_.heap.size, 1, none⟩ = some (.slice (some ⟨kb4_, 0, none⟩) l0.length l0.length) ∧ w'.cell? ⟨w4_.heap.size, 2, none⟩ = some (.slice (some ⟨kk4_, 0, none⟩) lo0.length lo0.length)) (go_keep)
      (first
      | (go_at_call 35
         refine (eqN wd0 _ _ _ _ l0 lo0 _ (V0_5_.out.below (kTrans (Below.drew (Below.refl _ _)) b6_)).pk p6_.pk a0 ao0 m0 mo0).mono ?_
         rintro e w7_ ⟨rfl, b7_⟩
         have c0_0 := (b7_.cell (p := ⟨w.heap.size, 0, none⟩) (Nat.lt_of_lt_of_le la_ b6_.size)).trans c0_0
         have c0_1 := (b7_.cell (p := ⟨w.heap.size, 1, none⟩) (Nat.lt_of_lt_of_le la_ b6_.size)).trans c0_1
         have c0_2 := (b7_.cell (p := ⟨w.heap.size, 2, none⟩) (Nat.lt_of_lt_of_le la_ b6_.size)).trans c0_2
         have c1_0 := (b7_.cell (p := ⟨w4_.heap.size, 0, none⟩) (Nat.lt_of_lt_of_le lx_ b6_.size)).trans c1_0
         have c1_1 := (b7_.cell (p := ⟨w4_.heap.size, 1, none⟩) (Nat.lt_of_lt_of_le lx_ b6_.size)).trans c1_1
         have c1_2 := (b7_.cell (p := ⟨w4_.heap.size, 2, none⟩) (Nat.lt_of_lt_of_le lx_ b6_.size)).trans c1_2)
      | (go_at_call 40
         refine (toN_own wd0 v0 t0 l0 lo0 _ (S0_5_.out.below (Below.drew (Below.refl _ _))) m0 mo0).mono ?_
         rintro e w6_ ⟨kb6_, kk6_, rfl, p6_, b6_⟩
         have c0_0 := (b6_.cell (p := ⟨w.heap.size, 0, none⟩) la_).trans c0_0
         have c0_1 := (b6_.cell (p := ⟨w.heap.size, 1, none⟩) la_).trans c0_1
         have c0_2 := (b6_.cell (p := ⟨w.heap.size, 2, none⟩) la_).trans c0_2
         have c1_0 := (b6_.cell (p := ⟨w4_.heap.size, 0, none⟩) lx_).trans c1_0
         have c1_1 := (b6_.cell (p := ⟨w4_.heap.size, 1, none⟩) lx_).trans c1_1
         have c1_2 := (b6_.cell (p := ⟨w4_.heap.size, 2, none⟩) lx_).trans c1_2))
    have bb_ : Below w5_.heap.size w5_ w7_ := kTrans (kTrans (Below.drew (Below.refl _ _)) b6_) b7_
    clear b6_ b7_ p6_ la_ lx_
    have n7_ : w5_.heap.size ≤ w7_.heap.size := bb_.size
    have T7_ : Below w.heap.size w w7_ := kTrans T5_ bb_
    have ST_7_ := Lib.hid (ST_5_.out.below bb_)
    have S0_7_ := Lib.hid (S0_5_.out.below bb_)
    have A0_7_ := Lib.hid (blk_below A0_5_.out bb_)
    have V0_7_ := Lib.hid (V0_5_.out.below bb_)
    have X0_7_ := Lib.hid (blk_below X0_5_.out bb_)
    clear c0_0 c0_1 c0_2 c1_0 c1_1 c1_2 ST_5_ S0_5_ A0_5_ V0_5_ X0_5_ bb_ T5_
    go_wp2
    go_ret
    exact ⟨rfl, T7_⟩

set_option maxRecDepth 100000 in
theorem lifted (os : Os) (started : os.Started) (H : Type) (enc : TypeId × Value → H) :
    ReturnsInHanded {} Tryd.checked os 9 .any (fun w args => (Rows.fnExactNetworkTextSpec.pre enc Tryd.prog Tryd.f9 [] false w args ∧ laidMetH Tryd.prog laid1 w) ∧ sizedMet enc Tryd.prog Tryd.f9 (OpenSpec.ofChange Rows.fnExactNetworkTextSpec) false w args) (Rows.fnExactNetworkTextSpec.post enc Tryd.prog Tryd.f9 false true false false) := by
  refine returnsInHanded_of_change_and (C := Tryd.checked) (X := fun w _ => laidMetH Tryd.prog laid1 w) (fun _ _ _ hh h => h.of_heap hh) own started (by kernel_rfl) Tryd.func9
    (ChangeSpec.witness_shaped (enc := enc) (C := Tryd.checked) (os := os) (X := fun w _ => laidMetH Tryd.prog laid1 w) false (World.laidAll Tryd.prog os laid1) #[.agg #[.int .i8 0, .slice none 0 0, .slice none 0 0]] 8 (World.laidAll_os _ _ _) (World.shaped_of_ZipB (by kernel_rfl) (by kernel_rfl)) (by kernel_rfl) (by kernel_rfl) (by kernel_rfl) (door_met os _)) ?_
  intro W base args ds gs before hval0 hW _ _ hL _
  have hval : ∀ (j : Nat) t v, Tryd.f9.params[j]? = some t → args[j]? = some v → Value.okWide Tryd.prog W .any base t v := hval0
  have hW' := hW
  obtain ⟨p, q, hA0, hV, rfl, hfz, hnd⟩ := hW
  have hA : DataW.TrodAll enc Tryd.prog W 0 (fun _ => true) true Tryd.f9.params.toList args.toList ds p := hA0
  rw [Tryd.params9] at hA hval
  have r_ := hA
  obtain ⟨v0, vs0, d0, ds0, pp0, qq0, hargs0, hds0, _, h0, r_⟩ := trodAll_cons r_
  obtain ⟨hv_, hd_, _⟩ := trodAll_nil r_
  subst hv_ hd_
  obtain rfl : args = #[v0] := by cases args; simp_all
  subst hds0
  obtain ⟨f0_, f1_, f2_, e1_, e2_, e3_, e4_, e5_, e6_⟩ := network_struct
  obtain ⟨wd0, s0, t0, l0, lo0, rfl, bw0, sl0, al0, le0, sp0, ap0, lp0⟩ := open_network e1_ e2_ e3_ e4_ e5_ e6_ Nd_cells Nd_flat Sh_cells Sh_flat (hval 0 63 v0 rfl rfl) h0
  refine (walk (w := W) (stay_of_laid hL) wd0 s0 t0 l0 lo0 bw0 sl0 al0 le0 sp0 ap0 lp0).mono fun e W' ⟨he, hg⟩ => ?_
  subst he
  exact ⟨_, rfl, law_post1 kids full laidOut staysRowed Tryd.underlying4 (by decide) rfl rfl (fun _ _ => rfl) hW' hg⟩

theorem over : Rows.fnExactNetworkTextRow.holds Tryd.pinned (OpenSpec.ofChange Rows.fnExactNetworkTextSpec) :=
  OpenClaim.holds_of_wide 9 Tryd.f9 rfl rfl rfl rfl rfl rfl rfl ⟨rfl, rfl, rfl, rfl, rfl⟩ rfl rfl rfl rfl rfl (by kernel_rfl) Tryd.func9 (by kernel_rfl)
    (of_decide_eq_true (by kernel_rfl)) (by unfold Func.isWrapper; first | (rw [if_pos (by decide +kernel)]; kernel_rfl) | (rw [if_neg (by decide +kernel)]; exact ⟨rfl, rfl⟩))
    (fun os started H enc _ => lifted os started H enc)

/-- The statement. -/
theorem proved : Rows.FnExactNetworkTextCardSaid :=
  Claim7.holds_tied_plain_at .later [] [.data, .data, .data, .data, .data] true (true, "823631560a66f148f20d2893f516a7d71e9f74d92fc339fcd3bfa1f59866e020") true
    over (fun _ h => by cases h) (by kernel_rfl) (fun _ h => by cases h) fnExactNetworkText_row_tie rfl ⟨rfl, rfl⟩ (by kernel_rfl) rfl
    (fun f fn hf hfn => by
      obtain rfl : f = 9 := Option.some.inj ((show Tryd.prog.funcNamed "loop.example/g01274/laws.FnExactNetworkText" = some 9 by kernel_rfl).symm.trans hf) |>.symm
      obtain rfl : fn = Tryd.f9 := (Option.some.inj (Tryd.func9.symm.trans hfn)).symm
      exact ⟨by kernel_rfl, fun j t ht => by
        rw [Tryd.params9] at ht
        have hm : t ∈ [63] := by simpa using Array.mem_of_getElem? ht
        have hall : ([63].all fun u => !Tryd.prog.wantsStandIn u) = true := by kernel_rfl
        exact (show Tryd.prog.wantsStandIn t = false by simpa using List.all_eq_true.1 hall t hm)⟩)
    (by kernel_rfl)
#print axioms proved
end Go.Proofs.YtobhppkcgioheaaDoor.NetworkText
