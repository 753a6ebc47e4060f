/- 'SameWindows' answers as its model at every argument. No conditions. -/
import Derived.Test.YtekmdcakegfkmaaSwn
import Derived.Test.YtekmdcakegfkmaaWnk
import Derived.Deep.RegionHeld3
import Derived.Deep.DeepCutAuto
namespace Go.Proofs.Ytekmdcakegfkmaa.SameWindows
open Go.ChangeShapes Go.WideShapes Go.ChangeAt Go.RowKit
set_option linter.unusedVariables false

set_option maxRecDepth 100000 in
set_option maxHeartbeats 16000000 in
theorem walk {w : World} (v0 : Value) (l0 : List Wn) (s0 : SlWn w l0 v0) (a0 : WnsWf l0) (e0 : l0.length ≤ maxLen) (v1 : Value) (l1 : List Wn) (s1 : SlWn w l1 v1) (a1 : WnsWf l1) (e1 : l1.length ≤ maxLen) :
    Calls Try.prog 4 #[v0, v1] w fun e w' => e = .returned (.bool true) ∧ Below w.heap.size w w' := by
  unfold maxLen at e0 e1
  have S0_ := Lib.hid (SlOWn.start s0)
  have S1_ := Lib.hid (SlOWn.start s1)
  clear s0 s1
  by_cases h0 : 1048576 - (l0.length : Int) < 0
  · skip
    go_enter Try.func4, Try.ntmps4
    go_wp2_with fail
    refine (szWindowS_any v0 l0 _ S0_.out.sl (1048576) (by omega) (by omega) (by omega)).mono ?_
    rw [if_pos (by omega)]
    rintro e w' ⟨rfl, rfl⟩
    go_wp2
    go_ret
    exact ⟨rfl, by repeat (first | with_reducible exact Below.refl _ _ | (with_reducible refine kSet ?_ ?hB _; case hB => (simp; try omega)) | with_reducible refine kAlloc ?_ _ | with_reducible refine Below.drew ?_ | with_reducible refine kDrewN ?_ _ | with_reducible refine kTrans ?_ (by assumption))⟩
  · skip
    have h0' : ¬ 1048576 < (l0.length : Int) := by omega
    by_cases h1 : 1048576 - (l0.length : Int) - (l1.length : Int) < 0
    · skip
      go_enter Try.func4, Try.ntmps4
      go_wp2_with fail
      refine (szWindowS_any v0 l0 _ S0_.out.sl (1048576) (by omega) (by omega) (by omega)).mono ?_
      rw [if_neg (by omega)]
      rintro e w' ⟨rfl, rfl⟩
      go_wp2_with fail
      refine (szWindowS_any v1 l1 _ S1_.out.sl (1048576 - (l0.length : Int)) (by omega) (by omega) (by omega)).mono ?_
      rw [if_pos (by omega)]
      rintro e w' ⟨rfl, rfl⟩
      go_wp2
      go_ret
      exact ⟨rfl, by repeat (first | with_reducible exact Below.refl _ _ | (with_reducible refine kSet ?_ ?hB _; case hB => (simp; try omega)) | with_reducible refine kAlloc ?_ _ | with_reducible refine Below.drew ?_ | with_reducible refine kDrewN ?_ _ | with_reducible refine kTrans ?_ (by assumption))⟩
    · skip
      have h1' : ¬ 1048576 - (l0.length : Int) < (l1.length : Int) := by omega
      have m0 : l0.length ≤ 1048576 := by omega
      have q0 : (4 : Int) * l0.length ≤ 4194304 := by omega
      have m1 : l1.length ≤ 1048576 := by omega
      have q1 : (4 : Int) * l1.length ≤ 4194304 := by omega
      obtain ⟨R, hR⟩ : ∃ R, decide (l0 = l1) = R := ⟨_, rfl⟩
      have Hs := Lib.hid (fun b0 b1 w2 hp0 hb0 hp1 hb1 => specWindowsSame_any _ _ l0 l1 w2 (SlWn.mk b0 0 l0.length hp0 hb0 (Nat.le_refl _)) (SlWn.mk b1 0 l1.length hp1 hb1 (Nat.le_refl _)) m0 m1 R hR)
      have Hi := Lib.hid (fun b0 b1 w2 hp0 hb0 hp1 hb1 => implSameWindows_any _ _ l0 l1 w2 (SlWn.mk b0 0 l0.length hp0 hb0 (Nat.le_refl _)) (SlWn.mk b1 0 l1.length hp1 hb1 (Nat.le_refl _)) m0 m1 R hR)
      clear hR
      go_enter Try.func4, Try.ntmps4
      go_wp2_with fail
      refine (szWindowS_any v0 l0 _ S0_.out.sl (1048576) (by omega) (by omega) (by omega)).mono ?_
      rw [if_neg (by omega)]
      rintro e w' ⟨rfl, rfl⟩
      go_wp2_with fail
      refine (szWindowS_any v1 l1 _ S1_.out.sl (1048576 - (l0.length : Int)) (by omega) (by omega) (by omega)).mono ?_
      rw [if_neg (by omega)]
      rintro e w' ⟨rfl, rfl⟩
      go_wp2_with fail
      refine (toWindowS_any v0 l0 _ S0_.out.sl m0).mono ?_
      rintro e w1_ ⟨rfl, p1_, z1_, f1_, b1_⟩
      have n1_ : w.heap.size ≤ w1_.heap.size := b1_.size
      have T1_ : Below w.heap.size w w1_ := b1_
      have P0s_1_ := Lib.hid p1_
      clear p1_ f1_
      have S0_1_ := Lib.hid (S0_.out.below b1_)
      have S1_1_ := Lib.hid (S1_.out.below b1_)
      clear S0_ S1_ b1_
      go_wp2_with fail
      refine (toWindowS_any v1 l1 _ S1_1_.out.sl m1).mono ?_
      rintro e w2_ ⟨rfl, p2_, z2_, f2_, b2_⟩
      have n2_ : w1_.heap.size ≤ w2_.heap.size := b2_.size
      have T2_ : Below w.heap.size w w2_ := kTrans T1_ b2_
      have P1s_2_ := Lib.hid p2_
      clear p2_ f2_
      have S0_2_ := Lib.hid (S0_1_.out.below b2_)
      have S1_2_ := Lib.hid (S1_1_.out.below b2_)
      have P0s_2_ := Lib.hid (P0s_1_.out.below b2_ (by omega))
      clear S0_1_ S1_1_ P0s_1_ b2_ T1_
      go_wp2_with fail
      refine (Hs.out (w.heap.size) (w1_.heap.size) _ P0s_2_.out (by omega) P1s_2_.out (by omega)).mono ?_
      rintro e w3_ ⟨rfl, b3_⟩
      have n3_ : w2_.heap.size ≤ w3_.heap.size := b3_.size
      have T3_ : Below w.heap.size w w3_ := kTrans T2_ b3_
      have S0_3_ := Lib.hid (S0_2_.out.below b3_)
      have S1_3_ := Lib.hid (S1_2_.out.below b3_)
      clear S0_2_ S1_2_ P0s_2_ P1s_2_ b3_ T2_
      go_wp2_with fail
      refine (toWindowS_any v0 l0 _ S0_3_.out.sl m0).mono ?_
      rintro e w4_ ⟨rfl, p4_, z4_, f4_, b4_⟩
      have n4_ : w3_.heap.size ≤ w4_.heap.size := b4_.size
      have T4_ : Below w.heap.size w w4_ := kTrans T3_ b4_
      have P0i_4_ := Lib.hid p4_
      have V0_4_ := Lib.hid (SlWWn.mk (lo := w3_.heap.size) (hi := w4_.heap.size) (w3_.heap.size) 0 l0.length p4_ (Nat.le_refl _) z4_ z4_ f4_ (Nat.le_refl _))
      clear p4_ f4_
      have S0_4_ := Lib.hid (S0_3_.out.below b4_)
      have S1_4_ := Lib.hid (S1_3_.out.below b4_)
      clear S0_3_ S1_3_ b4_ T3_
      go_wp2_with fail
      refine (toWindowS_any v1 l1 _ S1_4_.out.sl m1).mono ?_
      rintro e w5_ ⟨rfl, p5_, z5_, f5_, b5_⟩
      have n5_ : w4_.heap.size ≤ w5_.heap.size := b5_.size
      have T5_ : Below w.heap.size w w5_ := kTrans T4_ b5_
      have P1i_5_ := Lib.hid p5_
      have V1_5_ := Lib.hid (SlWWn.mk (lo := w4_.heap.size) (hi := w5_.heap.size) (w4_.heap.size) 0 l1.length p5_ (Nat.le_refl _) z5_ z5_ f5_ (Nat.le_refl _))
      clear p5_ f5_
      have S0_5_ := Lib.hid (S0_4_.out.below b5_)
      have S1_5_ := Lib.hid (S1_4_.out.below b5_)
      have P0i_5_ := Lib.hid (P0i_4_.out.below b5_ (by omega))
      have V0_5_ := Lib.hid (V0_4_.out.below b5_)
      clear S0_4_ S1_4_ P0i_4_ V0_4_ b5_ T4_
      go_wp2_with fail
      refine (Hi.out (w3_.heap.size) (w4_.heap.size) _ P0i_5_.out (by omega) P1i_5_.out (by omega)).mono ?_
      rintro e w6_ ⟨rfl, b6_⟩
      have n6_ : w5_.heap.size ≤ w6_.heap.size := b6_.size
      have T6_ : Below w.heap.size w w6_ := kTrans T5_ b6_
      have S0_6_ := Lib.hid (S0_5_.out.below b6_)
      have S1_6_ := Lib.hid (S1_5_.out.below b6_)
      have V0_6_ := Lib.hid (V0_5_.out.below b6_)
      have V1_6_ := Lib.hid (V1_5_.out.below b6_)
      clear S0_5_ S1_5_ P0i_5_ V0_5_ P1i_5_ V1_5_ b6_ T5_
      go_wp2_with fail
      refine (toWindowS_any v0 l0 _ S0_6_.out.sl m0).mono ?_
      rintro e w7_ ⟨rfl, p7_, z7_, f7_, b7_⟩
      have n7_ : w6_.heap.size ≤ w7_.heap.size := b7_.size
      have T7_ : Below w.heap.size w w7_ := kTrans T6_ b7_
      have P0c_7_ := Lib.hid p7_
      clear p7_ f7_
      have S0_7_ := Lib.hid (S0_6_.out.below b7_)
      have S1_7_ := Lib.hid (S1_6_.out.below b7_)
      have V0_7_ := Lib.hid (V0_6_.out.below b7_)
      have V1_7_ := Lib.hid (V1_6_.out.below b7_)
      clear S0_6_ S1_6_ V0_6_ V1_6_ b7_ T6_
      go_wp2_with fail
      refine (eqWindowS_any _ _ l0 _ V0_7_.out.sl (SlWn.mk _ 0 _ P0c_7_.out (by omega) (Nat.le_refl _)) a0 m0).mono ?_
      rintro e w8_ ⟨rfl, b8_⟩
      have n8_ : w7_.heap.size ≤ w8_.heap.size := b8_.size
      have T8_ : Below w.heap.size w w8_ := kTrans T7_ b8_
      have S0_8_ := Lib.hid (S0_7_.out.below b8_)
      have S1_8_ := Lib.hid (S1_7_.out.below b8_)
      have V0_8_ := Lib.hid (V0_7_.out.below b8_)
      have V1_8_ := Lib.hid (V1_7_.out.below b8_)
      clear S0_7_ S1_7_ V0_7_ V1_7_ P0c_7_ b8_ T7_
      go_wp2_with fail
      refine (toWindowS_any v1 l1 _ S1_8_.out.sl m1).mono ?_
      rintro e w9_ ⟨rfl, p9_, z9_, f9_, b9_⟩
      have n9_ : w8_.heap.size ≤ w9_.heap.size := b9_.size
      have T9_ : Below w.heap.size w w9_ := kTrans T8_ b9_
      have P1c_9_ := Lib.hid p9_
      clear p9_ f9_
      have S0_9_ := Lib.hid (S0_8_.out.below b9_)
      have S1_9_ := Lib.hid (S1_8_.out.below b9_)
      have V0_9_ := Lib.hid (V0_8_.out.below b9_)
      have V1_9_ := Lib.hid (V1_8_.out.below b9_)
      clear S0_8_ S1_8_ V0_8_ V1_8_ b9_ T8_
      go_wp2_with fail
      refine (eqWindowS_any _ _ l1 _ V1_9_.out.sl (SlWn.mk _ 0 _ P1c_9_.out (by omega) (Nat.le_refl _)) a1 m1).mono ?_
      rintro e w10_ ⟨rfl, b10_⟩
      have n10_ : w9_.heap.size ≤ w10_.heap.size := b10_.size
      have T10_ : Below w.heap.size w w10_ := kTrans T9_ b10_
      have S0_10_ := Lib.hid (S0_9_.out.below b10_)
      have S1_10_ := Lib.hid (S1_9_.out.below b10_)
      have V0_10_ := Lib.hid (V0_9_.out.below b10_)
      have V1_10_ := Lib.hid (V1_9_.out.below b10_)
      clear S0_9_ S1_9_ V0_9_ V1_9_ P1c_9_ b10_ T9_
      go_wp2
      go_ret
      exact ⟨rfl, T10_⟩

set_option maxRecDepth 100000 in
theorem lifted (os : Os) (started : os.Started) (H : Type) (enc : TypeId × Value → H) :
    ReturnsInHanded {} Try.checked os 4 .any (Rows.fnExactSameWindowsSpec.pre6 enc Try.prog Try.f4 Rows.fnExactSameWindowsRow.domain false) (Rows.fnExactSameWindowsSpec.post enc Try.prog Try.f4 false true false false) := by
  refine returnsInHanded_of_change (C := Try.checked) own started (by kernel_rfl) Try.func4
    (ChangeSpec.witness6 (enc := enc) (C := Try.checked) false ⟨#[], #[.slice none 0 0, .slice none 0 0], []⟩ 8 (by kernel_rfl) (by kernel_rfl) (by kernel_rfl) (by kernel_rfl)) ?_
  intro W base args ds gs before hval0 hW hcnd _
  have hval : ∀ (j : Nat) t v, Try.f4.params[j]? = some t → args[j]? = some v → Value.okWide Try.prog W .any base t v := hval0
  have hW' := hW
  obtain ⟨p, q, hA0, hV, rfl, hfz, hnd⟩ := hW
  have hA : DataW.TrodAll enc Try.prog W 0 (fun _ => true) true Try.f4.params.toList args.toList ds p := hA0
  rw [Try.params4] at hA hval
  have r_ := hA
  obtain ⟨v0, vs0, d0, ds0, pp0, qq0, hargs0, hds0, _, h0, r_⟩ := trodAll_cons r_
  obtain ⟨v1, vs1, d1, ds1, pp1, qq1, hargs1, hds1, _, h1, r_⟩ := trodAll_cons r_
  obtain ⟨hv_, hd_, _⟩ := trodAll_nil r_
  subst hv_ hd_
  subst hargs1 hds1
  obtain rfl : args = #[v0, v1] := by cases args; simp_all
  subst hds0
  obtain ⟨qa0, qn0, qc0, rfl⟩ := okWide_slice Try.underlying42 (hval 0 42 v0 rfl rfl)
  obtain ⟨fu0, hx0⟩ := h0
  obtain ⟨l0, sl0, al0, le0⟩ := open_Wns Try.underlying42 Wn_cells Wn_flat hx0
  obtain ⟨qa1, qn1, qc1, rfl⟩ := okWide_slice Try.underlying42 (hval 1 42 v1 rfl rfl)
  obtain ⟨fu1, hx1⟩ := h1
  obtain ⟨l1, sl1, al1, le1⟩ := open_Wns Try.underlying42 Wn_cells Wn_flat hx1
  refine (walk (w := W) (.slice qa0 qn0 qc0) l0 sl0 al0 le0 (.slice qa1 qn1 qc1) l1 sl1 al1 le1).mono fun e W' ⟨he, hg⟩ => ?_
  subst he
  exact ⟨_, rfl, law_post kids full Try.underlying4 (by decide) rfl rfl rfl hW' hg⟩

theorem over : Rows.fnExactSameWindowsRow.holds Try.pinned (OpenSpec.ofChange Rows.fnExactSameWindowsSpec) :=
  OpenClaim.holds_of_wide 4 Try.f4 rfl rfl rfl rfl rfl rfl rfl ⟨rfl, rfl, rfl, rfl, rfl⟩ rfl rfl rfl rfl rfl (by kernel_rfl) Try.func4 (by kernel_rfl)
    (of_decide_eq_true (by kernel_rfl)) (by unfold Func.isWrapper; first | (rw [if_pos (by decide +kernel)]; kernel_rfl) | (rw [if_neg (by decide +kernel)]; exact ⟨rfl, rfl⟩))
    (fun os started H enc _ => lifted os started H enc)

/-- The statement. -/
theorem proved : Rows.FnExactSameWindowsSaid :=
  over
#print axioms proved
end Go.Proofs.Ytekmdcakegfkmaa.SameWindows
