/- 'NarrowSpan' answers as its model at every argument. No conditions. -/
import Derived.Test.YtbnogkkaldamdaaNsp
import Derived.Deep.RegionHeld3
import Derived.Deep.DeepCutAuto
namespace Go.Proofs.Ytbnogkkaldamdaa.NarrowSpan
open Go.ChangeShapes Go.WideShapes Go.ChangeAt Go.RowKit
set_option linter.unusedVariables false

set_option maxRecDepth 100000 in
set_option maxHeartbeats 16000000 in
theorem walk {w : World} (v0 : Value) (l0 : List Sq) (s0 : SlSq w l0 v0) (a0 : SqsWf l0) (e0 : l0.length ≤ maxLen) (i : Int) (w1 : (Lit.int .i64 i).wf = true) (lo : Int) (w2 : (Lit.int .i64 lo).wf = true) (hi : Int) (w3 : (Lit.int .i64 hi).wf = true) :
    Calls Try.prog 4 #[v0, .int .i64 i, .int .i64 lo, .int .i64 hi] w fun e w' => e = .returned (.bool true) ∧ Below w.heap.size w w' := by
  unfold maxLen at e0
  have S0_ := Lib.hid (SlOSq.start s0)
  clear s0
  by_cases h0 : 1048576 - (l0.length : Int) < 0
  · skip
    go_enter Try.func4, Try.ntmps4
    go_wp2_with fail
    refine (szSpanS_any v0 l0 _ S0_.out.sl (1048576) (by omega) (by omega) (by omega)).mono ?_
    rw [if_pos (by omega)]
    rintro e w' ⟨rfl, rfl⟩
    go_wp2
    go_ret
    exact ⟨rfl, by repeat (first | with_reducible exact Below.refl _ _ | (with_reducible refine kSet ?_ ?hB _; case hB => (simp; try omega)) | with_reducible refine kAlloc ?_ _ | with_reducible refine Below.drew ?_ | with_reducible refine kDrewN ?_ _ | with_reducible refine kTrans ?_ (by assumption))⟩
  · skip
    have h0' : ¬ 1048576 < (l0.length : Int) := by omega
    have m0 : l0.length ≤ 1048576 := by omega
    have q0 : (2 : Int) * l0.length ≤ 2097152 := by omega
    have bi := bounds_i64 w1
    have bl := bounds_i64 w2
    have bh := bounds_i64 w3
    obtain ⟨S, hS⟩ : ∃ S, spansB l0 = S := ⟨_, rfl⟩
    obtain ⟨L, C, hQ⟩ : ∃ L C, narrowQ S l0 i lo hi = (L, C) := ⟨_, _, rfl⟩
    obtain ⟨al0, hr0⟩ := narrowQ_ok a0 m0 hQ
    have Hs := Lib.hid (fun b0 w2 hp0 hb0 => specNarrowSpan_any b0 _ l0 i lo hi w2 rfl hp0 hb0 a0 m0 bi bl bh S hS L C hQ)
    have Hi := Lib.hid (fun b0 w2 hp0 hb0 => implNarrowSpan_any b0 _ l0 i lo hi w2 rfl hp0 hb0 a0 m0 bi bl bh S hS L C hQ)
    clear hQ hS bi bl bh
    have qr0 : (2 : Int) * L.length ≤ 2097152 := by omega
    go_enter Try.func4, Try.ntmps4
    go_wp2_with fail
    refine (szSpanS_any v0 l0 _ S0_.out.sl (1048576) (by omega) (by omega) (by omega)).mono ?_
    rw [if_neg (by omega)]
    rintro e w' ⟨rfl, rfl⟩
    go_wp2_with fail
    refine (toSpanS_any v0 l0 _ S0_.out.sl m0).mono ?_
    rintro e w1_ ⟨rfl, p1_, z1_, f1_, b1_⟩
    have n1_ : w.heap.size ≤ w1_.heap.size := b1_.size
    have T1_ : Below w.heap.size w w1_ := b1_
    have P0s_1_ := Lib.hid p1_
    clear p1_ f1_
    have S0_1_ := Lib.hid (S0_.out.below b1_)
    clear S0_ b1_
    go_wp2_with fail
    refine (Hs.out (w.heap.size) _ P0s_1_.out (by omega)).mono ?_
    rintro e w2_ ⟨uw0_, rfl, yw0_, b2_⟩
    have n2_ : w1_.heap.size ≤ w2_.heap.size := b2_.size
    have T2_ : Below w.heap.size w w2_ := kTrans T1_ b2_
    obtain ⟨uaw0, ucw0, rfl⟩ := yw0_.form
    have Rw0_2_ := Lib.hid yw0_
    clear yw0_
    have S0_2_ := Lib.hid (S0_1_.out.below b2_)
    clear S0_1_ P0s_1_ b2_ T1_
    go_wp2_with fail
    refine (toSpanS_any v0 l0 _ S0_2_.out.sl m0).mono ?_
    rintro e w3_ ⟨rfl, p3_, z3_, f3_, b3_⟩
    have n3_ : w2_.heap.size ≤ w3_.heap.size := b3_.size
    have T3_ : Below w.heap.size w w3_ := kTrans T2_ b3_
    have P0i_3_ := Lib.hid p3_
    have V0_3_ := Lib.hid (SlWSq.mk (lo := w2_.heap.size) (hi := w3_.heap.size) (w2_.heap.size) 0 l0.length p3_ (Nat.le_refl _) z3_ z3_ f3_ (Nat.le_refl _))
    clear p3_ f3_
    have S0_3_ := Lib.hid (S0_2_.out.below b3_)
    have Rw0_3_ := Lib.hid (Rw0_2_.out.below b3_)
    clear S0_2_ Rw0_2_ b3_ T2_
    go_wp2_with fail
    refine (Hi.out (w2_.heap.size) _ P0i_3_.out (by omega)).mono ?_
    rintro e w4_ ⟨ug0_, rfl, yg0_, b4_⟩
    have n4_ : w3_.heap.size ≤ w4_.heap.size := b4_.size
    have T4_ : Below w.heap.size w w4_ := kTrans T3_ b4_
    obtain ⟨uag0, ucg0, rfl⟩ := yg0_.form
    have Rg0_4_ := Lib.hid yg0_
    clear yg0_
    have S0_4_ := Lib.hid (S0_3_.out.below b4_)
    have Rw0_4_ := Lib.hid (Rw0_3_.out.below b4_)
    have V0_4_ := Lib.hid (V0_3_.out.below b4_)
    clear S0_3_ Rw0_3_ P0i_3_ V0_3_ b4_ T3_
    go_wp2_with fail
    refine (eqSpanS_any _ _ L _ Rg0_4_.out.sl Rw0_4_.out.sl al0 hr0).mono ?_
    rintro e w5_ ⟨rfl, b5_⟩
    have n5_ : w4_.heap.size ≤ w5_.heap.size := b5_.size
    have T5_ : Below w.heap.size w w5_ := kTrans T4_ b5_
    have S0_5_ := Lib.hid (S0_4_.out.below b5_)
    have Rw0_5_ := Lib.hid (Rw0_4_.out.below b5_)
    have V0_5_ := Lib.hid (V0_4_.out.below b5_)
    have Rg0_5_ := Lib.hid (Rg0_4_.out.below b5_)
    clear S0_4_ Rw0_4_ V0_4_ Rg0_4_ b5_ T4_
    go_wp2_with fail
    refine (toSpanS_any v0 l0 _ S0_5_.out.sl m0).mono ?_
    rintro e w6_ ⟨rfl, p6_, z6_, f6_, b6_⟩
    have n6_ : w5_.heap.size ≤ w6_.heap.size := b6_.size
    have T6_ : Below w.heap.size w w6_ := kTrans T5_ b6_
    have P0c_6_ := Lib.hid p6_
    clear p6_ f6_
    have S0_6_ := Lib.hid (S0_5_.out.below b6_)
    have Rw0_6_ := Lib.hid (Rw0_5_.out.below b6_)
    have V0_6_ := Lib.hid (V0_5_.out.below b6_)
    have Rg0_6_ := Lib.hid (Rg0_5_.out.below b6_)
    clear S0_5_ Rw0_5_ V0_5_ Rg0_5_ b6_ T5_
    go_wp2_with fail
    refine (eqSpanS_any _ _ l0 _ V0_6_.out.sl (SlSq.mk _ 0 _ P0c_6_.out (by omega) (Nat.le_refl _)) a0 m0).mono ?_
    rintro e w7_ ⟨rfl, b7_⟩
    have n7_ : w6_.heap.size ≤ w7_.heap.size := b7_.size
    have T7_ : Below w.heap.size w w7_ := kTrans T6_ b7_
    have S0_7_ := Lib.hid (S0_6_.out.below b7_)
    have Rw0_7_ := Lib.hid (Rw0_6_.out.below b7_)
    have V0_7_ := Lib.hid (V0_6_.out.below b7_)
    have Rg0_7_ := Lib.hid (Rg0_6_.out.below b7_)
    clear S0_6_ Rw0_6_ V0_6_ Rg0_6_ P0c_6_ b7_ T6_
    go_wp2_with fail
    refine (markSpanS_any _ _ _ l0 (1) _ V0_7_.out (by omega) (by omega) m0).mono ?_
    rintro e w8_ ⟨rfl, _, b8_⟩
    have n8_ : w7_.heap.size ≤ w8_.heap.size := b8_.size
    have T8_ := kOut T7_ b8_ (by omega)
    have S0_8_ := Lib.hid (S0_7_.out.out b8_ (by omega))
    have Rw0_8_ := Lib.hid (Rw0_7_.out.out b8_ (by omega))
    have Rg0_8_ := Lib.hid (Rg0_7_.out.out b8_ (by omega))
    clear S0_7_ Rw0_7_ V0_7_ Rg0_7_ b8_ T7_
    go_wp2_with fail
    refine (eqSpanS_any _ _ L _ Rg0_8_.out.sl Rw0_8_.out.sl al0 hr0).mono ?_
    rintro e w9_ ⟨rfl, b9_⟩
    have n9_ : w8_.heap.size ≤ w9_.heap.size := b9_.size
    have T9_ : Below w.heap.size w w9_ := kTrans T8_ b9_
    have S0_9_ := Lib.hid (S0_8_.out.below b9_)
    have Rw0_9_ := Lib.hid (Rw0_8_.out.below b9_)
    have Rg0_9_ := Lib.hid (Rg0_8_.out.below b9_)
    clear S0_8_ Rw0_8_ Rg0_8_ b9_ T8_
    go_wp2_with fail
    refine (markSpanS_any _ _ _ L (1) _ Rg0_9_.out (by omega) (by omega) hr0).mono ?_
    rintro e w10_ ⟨rfl, vm_, b10_⟩
    have n10_ : w9_.heap.size ≤ w10_.heap.size := b10_.size
    have T10_ := kOut T9_ b10_ (by omega)
    have Rg0_10_ := Lib.hid vm_
    clear vm_
    have S0_10_ := Lib.hid (S0_9_.out.out b10_ (by omega))
    have Rw0_10_ := Lib.hid (Rw0_9_.out.out b10_ (by omega))
    clear S0_9_ Rw0_9_ Rg0_9_ b10_ T9_
    go_wp2_with fail
    refine (heldSpanS_any _ _ L.length _ (1) _ Rg0_10_.out (by omega) (by omega) hr0).mono ?_
    rintro e w11_ ⟨rfl, b11_⟩
    have n11_ : w10_.heap.size ≤ w11_.heap.size := b11_.size
    have T11_ : Below w.heap.size w w11_ := kTrans T10_ b11_
    have S0_11_ := Lib.hid (S0_10_.out.below b11_)
    have Rw0_11_ := Lib.hid (Rw0_10_.out.below b11_)
    have Rg0_11_ := Lib.hid (Rg0_10_.out.below b11_)
    clear S0_10_ Rw0_10_ Rg0_10_ b11_ T10_
    go_wp2_with fail
    refine (toSpanS_any v0 l0 _ S0_11_.out.sl m0).mono ?_
    rintro e w12_ ⟨rfl, p12_, z12_, f12_, b12_⟩
    have n12_ : w11_.heap.size ≤ w12_.heap.size := b12_.size
    have T12_ : Below w.heap.size w w12_ := kTrans T11_ b12_
    have P0h_12_ := Lib.hid p12_
    clear p12_ f12_
    have S0_12_ := Lib.hid (S0_11_.out.below b12_)
    have Rw0_12_ := Lib.hid (Rw0_11_.out.below b12_)
    have Rg0_12_ := Lib.hid (Rg0_11_.out.below b12_)
    clear S0_11_ Rw0_11_ Rg0_11_ b12_ T11_
    go_wp2_with fail
    refine (Hi.out (w11_.heap.size) _ P0h_12_.out (by omega)).mono ?_
    rintro e w13_ ⟨uh0_, rfl, yh0_, b13_⟩
    have n13_ : w12_.heap.size ≤ w13_.heap.size := b13_.size
    have T13_ : Below w.heap.size w w13_ := kTrans T12_ b13_
    obtain ⟨uah0, uch0, rfl⟩ := yh0_.form
    have Rh0_13_ := Lib.hid yh0_
    clear yh0_
    have Rw0_13_ := Lib.hid (Rw0_12_.out.below b13_)
    have Rg0_13_ := Lib.hid (Rg0_12_.out.below b13_)
    clear S0_12_ Rw0_12_ Rg0_12_ P0h_12_ b13_ T12_
    go_wp2_with fail
    refine (eqSpanS_any _ _ L _ Rh0_13_.out.sl Rw0_13_.out.sl al0 hr0).mono ?_
    rintro e w14_ ⟨rfl, b14_⟩
    have n14_ : w13_.heap.size ≤ w14_.heap.size := b14_.size
    have T14_ : Below w.heap.size w w14_ := kTrans T13_ b14_
    have Rw0_14_ := Lib.hid (Rw0_13_.out.below b14_)
    have Rg0_14_ := Lib.hid (Rg0_13_.out.below b14_)
    have Rh0_14_ := Lib.hid (Rh0_13_.out.below b14_)
    clear Rw0_13_ Rg0_13_ Rh0_13_ b14_ T13_
    go_wp2_with fail
    refine (heldSpanS_any _ _ L.length _ (1) _ Rg0_14_.out (by omega) (by omega) hr0).mono ?_
    rintro e w15_ ⟨rfl, b15_⟩
    have n15_ : w14_.heap.size ≤ w15_.heap.size := b15_.size
    have T15_ : Below w.heap.size w w15_ := kTrans T14_ b15_
    have Rw0_15_ := Lib.hid (Rw0_14_.out.below b15_)
    have Rg0_15_ := Lib.hid (Rg0_14_.out.below b15_)
    have Rh0_15_ := Lib.hid (Rh0_14_.out.below b15_)
    clear Rw0_14_ Rg0_14_ Rh0_14_ b15_ T14_
    go_wp2
    go_ret
    exact ⟨rfl, T15_⟩

set_option maxRecDepth 100000 in
theorem lifted (os : Os) (started : os.Started) (H : Type) (enc : TypeId × Value → H) :
    ReturnsInHanded {} Try.checked os 4 .any (Rows.fnExactNarrowSpanSpec.pre6 enc Try.prog Try.f4 Rows.fnExactNarrowSpanRow.domain false) (Rows.fnExactNarrowSpanSpec.post enc Try.prog Try.f4 false true false false) := by
  refine returnsInHanded_of_change (C := Try.checked) own started (by kernel_rfl) Try.func4
    (ChangeSpec.witness6 (enc := enc) (C := Try.checked) false ⟨#[], #[.slice none 0 0, .int .i64 0, .int .i64 0, .int .i64 0], []⟩ 8 (by kernel_rfl) (by kernel_rfl) (by kernel_rfl) (by kernel_rfl)) ?_
  intro W base args ds gs before hval0 hW hcnd _
  have hval : ∀ (j : Nat) t v, Try.f4.params[j]? = some t → args[j]? = some v → Value.okWide Try.prog W .any base t v := hval0
  have hW' := hW
  obtain ⟨p, q, hA0, hV, rfl, hfz, hnd⟩ := hW
  have hA : DataW.TrodAll enc Try.prog W 0 (fun _ => true) true Try.f4.params.toList args.toList ds p := hA0
  rw [Try.params4] at hA hval
  have r_ := hA
  obtain ⟨v0, vs0, d0, ds0, pp0, qq0, hargs0, hds0, _, h0, r_⟩ := trodAll_cons r_
  obtain ⟨v1, vs1, d1, ds1, pp1, qq1, hargs1, hds1, _, h1, r_⟩ := trodAll_cons r_
  obtain ⟨v2, vs2, d2, ds2, pp2, qq2, hargs2, hds2, _, h2, r_⟩ := trodAll_cons r_
  obtain ⟨v3, vs3, d3, ds3, pp3, qq3, hargs3, hds3, _, h3, r_⟩ := trodAll_cons r_
  obtain ⟨hv_, hd_, _⟩ := trodAll_nil r_
  subst hv_ hd_
  subst hargs3 hds3
  subst hargs2 hds2
  subst hargs1 hds1
  obtain rfl : args = #[v0, v1, v2, v3] := by cases args; simp_all
  subst hds0
  obtain ⟨qa0, qn0, qc0, rfl⟩ := okWide_slice Try.underlying26 (hval 0 26 v0 rfl rfl)
  obtain ⟨fu0, hx0⟩ := h0
  obtain ⟨l0, sl0, al0, le0⟩ := open_Sqs Try.underlying26 Sq_cells Sq_flat hx0
  obtain ⟨a1, rfl, rfl, rfl, w1⟩ := open_int Try.underlying2 (hval 1 2 v1 rfl rfl) h1
  obtain ⟨a2, rfl, rfl, rfl, w2⟩ := open_int Try.underlying2 (hval 2 2 v2 rfl rfl) h2
  obtain ⟨a3, rfl, rfl, rfl, w3⟩ := open_int Try.underlying2 (hval 3 2 v3 rfl rfl) h3
  refine (walk (w := W) (.slice qa0 qn0 qc0) l0 sl0 al0 le0 a1 w1 a2 w2 a3 w3).mono fun e W' ⟨he, hg⟩ => ?_
  subst he
  exact ⟨_, rfl, law_post kids full Try.underlying4 (by decide) rfl rfl rfl hW' hg⟩

theorem over : Rows.fnExactNarrowSpanRow.holds Try.pinned (OpenSpec.ofChange Rows.fnExactNarrowSpanSpec) :=
  OpenClaim.holds_of_wide 4 Try.f4 rfl rfl rfl rfl rfl rfl rfl ⟨rfl, rfl, rfl, rfl, rfl⟩ rfl rfl rfl rfl rfl (by kernel_rfl) Try.func4 (by kernel_rfl)
    (of_decide_eq_true (by kernel_rfl)) (by unfold Func.isWrapper; first | (rw [if_pos (by decide +kernel)]; kernel_rfl) | (rw [if_neg (by decide +kernel)]; exact ⟨rfl, rfl⟩))
    (fun os started H enc _ => lifted os started H enc)

/-- The statement. -/
theorem proved : Rows.FnExactNarrowSpanSaid :=
  over
#print axioms proved
end Go.Proofs.Ytbnogkkaldamdaa.NarrowSpan
