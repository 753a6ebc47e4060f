/- 'KnocksText' answers as its model at every argument. No conditions. -/
import Derived.Test.YtmllfacgonchnaaDoorSts
import Derived.Test.YtmllfacgonchnaaDoorKnI
import Derived.Test.YtmllfacgonchnaaDoorKnS
import Derived.Test.YtmllfacgonchnaaDoorKok
import Derived.Deep.RegionHeld3
import Derived.Deep.DeepCutAuto
namespace Go.Proofs.YtmllfacgonchnaaDoor.KnocksText
open Go.ChangeShapes Go.WideShapes Go.ChangeAt Go.RowKit
set_option linter.unusedVariables false

set_option maxRecDepth 100000 in
set_option maxHeartbeats 16000000 in
theorem walk {w : World} (hst_ : StayAt w) (v0 : Value) (l0 : List Ko) (s0 : SlKo w l0 v0) (a0 : KosWf l0) (e0 : l0.length ≤ maxLen) :
    Calls Tryd.prog 7 #[v0] w fun e w' => e = .returned (.bool true) ∧ Below w.heap.size w w' := by
  unfold maxLen at e0
  have S0_ := Lib.hid (SlOKo.start s0)
  clear s0
  have ST_ := Lib.hid hst_
  have st0_ : True := trivial
  clear hst_
  by_cases h0 : 1048576 - (l0.length : Int) < 0
  · skip
    go_enter Tryd.func7, Tryd.ntmps7
    go_wp2_with fail
    refine (szKnockS_any v0 l0 _ S0_.out.sl (1048576) (by omega) (by omega) (by omega)).mono ?_
    rw [if_pos (by omega)]
    rintro e w' ⟨rfl, rfl⟩
    go_wp2
    go_ret
    exact ⟨rfl, by repeat (first | with_reducible exact Below.refl _ _ | (with_reducible refine kSet ?_ ?hB _; case hB => (simp; try omega)) | with_reducible refine kAlloc ?_ _ | with_reducible refine Below.drew ?_ | with_reducible refine kDrewN ?_ _ | with_reducible refine kTrans ?_ (by assumption))⟩
  · skip
    have h0' : ¬ 1048576 < (l0.length : Int) := by omega
    have m0 : l0.length ≤ 1048576 := by omega
    have q0 : (3 : Int) * l0.length ≤ 3145728 := by omega
    obtain ⟨R, hR⟩ : ∃ R, R = (decide (l0.length ≤ 60) && kplains l0) := ⟨_, rfl⟩
    obtain ⟨S, hS⟩ : ∃ S, bsT (ktQ R l0) = S := ⟨_, rfl⟩
    have Hs := Lib.hid (fun b0 w2 hp0 hb0 => specKnocksText_any b0 _ l0 w2 rfl hp0 hb0 a0 m0 R hR S hS)
    have Hi := Lib.hid (fun b0 w2 hp0 hb0 (hs2 : StayAt w2) => implKnocksText_any b0 _ l0 w2 rfl hp0 hb0 a0 m0 R hR S hS hs2)
    clear hR hS
    go_enter Tryd.func7, Tryd.ntmps7
    go_wp2_with fail
    refine (szKnockS_any v0 l0 _ S0_.out.sl (1048576) (by omega) (by omega) (by omega)).mono ?_
    rw [if_neg (by omega)]
    rintro e w' ⟨rfl, rfl⟩
    go_wp2_with fail
    refine (toKnockS_any v0 l0 _ S0_.out.sl m0).mono ?_
    rintro e w1_ ⟨rfl, p1_, z1_, f1_, b1_⟩
    have n1_ : w.heap.size ≤ w1_.heap.size := b1_.size
    have T1_ : Below w.heap.size w w1_ := b1_
    have P0s_1_ := Lib.hid p1_
    clear p1_ f1_
    have ST_1_ := Lib.hid (ST_.out.below b1_)
    have S0_1_ := Lib.hid (S0_.out.below b1_)
    clear ST_ S0_ b1_
    go_wp2_with fail
    refine (Hs.out (w.heap.size) _ P0s_1_.out (by omega)).mono ?_
    rintro e w2_ ⟨rfl, b2_⟩
    have n2_ : w1_.heap.size ≤ w2_.heap.size := b2_.size
    have T2_ : Below w.heap.size w w2_ := kTrans T1_ b2_
    have ST_2_ := Lib.hid (ST_1_.out.below b2_)
    have S0_2_ := Lib.hid (S0_1_.out.below b2_)
    clear ST_1_ S0_1_ P0s_1_ b2_ T1_
    go_wp2_with fail
    refine (toKnockS_any v0 l0 _ S0_2_.out.sl m0).mono ?_
    rintro e w3_ ⟨rfl, p3_, z3_, f3_, b3_⟩
    have n3_ : w2_.heap.size ≤ w3_.heap.size := b3_.size
    have T3_ : Below w.heap.size w w3_ := kTrans T2_ b3_
    have P0i_3_ := Lib.hid p3_
    have V0_3_ := Lib.hid (SlWKo.mk (lo := w2_.heap.size) (hi := w3_.heap.size) (w2_.heap.size) 0 l0.length p3_ (Nat.le_refl _) z3_ z3_ f3_ (Nat.le_refl _))
    clear p3_ f3_
    have ST_3_ := Lib.hid (ST_2_.out.below b3_)
    have S0_3_ := Lib.hid (S0_2_.out.below b3_)
    clear ST_2_ S0_2_ b3_ T2_
    go_wp2_with fail
    refine (Hi.out (w2_.heap.size) _ P0i_3_.out (by omega) ST_3_.out).mono ?_
    rintro e w4_ ⟨rfl, b4_⟩
    have n4_ : w3_.heap.size ≤ w4_.heap.size := b4_.size
    have T4_ : Below w.heap.size w w4_ := kTrans T3_ b4_
    have ST_4_ := Lib.hid (ST_3_.out.below b4_)
    have S0_4_ := Lib.hid (S0_3_.out.below b4_)
    have V0_4_ := Lib.hid (V0_3_.out.below b4_)
    clear ST_3_ S0_3_ P0i_3_ V0_3_ b4_ T3_
    go_wp2_with fail
    refine (toKnockS_any v0 l0 _ S0_4_.out.sl m0).mono ?_
    rintro e w5_ ⟨rfl, p5_, z5_, f5_, b5_⟩
    have n5_ : w4_.heap.size ≤ w5_.heap.size := b5_.size
    have T5_ : Below w.heap.size w w5_ := kTrans T4_ b5_
    have P0c_5_ := Lib.hid p5_
    clear p5_ f5_
    have ST_5_ := Lib.hid (ST_4_.out.below b5_)
    have S0_5_ := Lib.hid (S0_4_.out.below b5_)
    have V0_5_ := Lib.hid (V0_4_.out.below b5_)
    clear ST_4_ S0_4_ V0_4_ b5_ T4_
    go_wp2_with fail
    refine (eqKnockS_any _ _ l0 _ V0_5_.out.sl (SlKo.mk _ 0 _ P0c_5_.out (by omega) (Nat.le_refl _)) a0 m0).mono ?_
    rintro e w6_ ⟨rfl, b6_⟩
    have n6_ : w5_.heap.size ≤ w6_.heap.size := b6_.size
    have T6_ : Below w.heap.size w w6_ := kTrans T5_ b6_
    have ST_6_ := Lib.hid (ST_5_.out.below b6_)
    have S0_6_ := Lib.hid (S0_5_.out.below b6_)
    have V0_6_ := Lib.hid (V0_5_.out.below b6_)
    clear ST_5_ S0_5_ V0_5_ P0c_5_ b6_ T5_
    go_wp2
    go_ret
    exact ⟨rfl, T6_⟩

set_option maxRecDepth 100000 in
theorem lifted (os : Os) (started : os.Started) (H : Type) (enc : TypeId × Value → H) :
    ReturnsInHanded {} Tryd.checked os 7 .any (fun w args => (Rows.fnExactKnocksTextSpec.pre enc Tryd.prog Tryd.f7 [] false w args ∧ laidMetH Tryd.prog laid1 w) ∧ sizedMet enc Tryd.prog Tryd.f7 (OpenSpec.ofChange Rows.fnExactKnocksTextSpec) false w args) (Rows.fnExactKnocksTextSpec.post enc Tryd.prog Tryd.f7 false true false false) := by
  refine returnsInHanded_of_change_and (C := Tryd.checked) (X := fun w _ => laidMetH Tryd.prog laid1 w) (fun _ _ _ hh h => h.of_heap hh) own started (by kernel_rfl) Tryd.func7
    (ChangeSpec.witness_shaped (enc := enc) (C := Tryd.checked) (os := os) (X := fun w _ => laidMetH Tryd.prog laid1 w) false (World.doorLaid Tryd.prog 400 os) #[.slice none 0 0] 8 rfl (World.shaped_of_RefB (by kernel_rfl) (by kernel_rfl)) (by kernel_rfl) (by kernel_rfl) (by kernel_rfl) (door_met os _)) ?_
  intro W base args ds gs before hval0 hW _ _ hL _
  have hval : ∀ (j : Nat) t v, Tryd.f7.params[j]? = some t → args[j]? = some v → Value.okWide Tryd.prog W .any base t v := hval0
  have hW' := hW
  obtain ⟨p, q, hA0, hV, rfl, hfz, hnd⟩ := hW
  have hA : DataW.TrodAll enc Tryd.prog W 0 (fun _ => true) true Tryd.f7.params.toList args.toList ds p := hA0
  rw [Tryd.params7] at hA hval
  have r_ := hA
  obtain ⟨v0, vs0, d0, ds0, pp0, qq0, hargs0, hds0, _, h0, r_⟩ := trodAll_cons r_
  obtain ⟨hv_, hd_, _⟩ := trodAll_nil r_
  subst hv_ hd_
  obtain rfl : args = #[v0] := by cases args; simp_all
  subst hds0
  obtain ⟨qa0, qn0, qc0, rfl⟩ := okWide_slice Tryd.underlying57 (hval 0 57 v0 rfl rfl)
  obtain ⟨fu0, hx0⟩ := h0
  obtain ⟨l0, sl0, al0, le0⟩ := open_Kos Tryd.underlying57 Ko_cells Ko_flat hx0
  refine (walk (w := W) (stay_of_laid hL) (.slice qa0 qn0 qc0) l0 sl0 al0 le0).mono fun e W' ⟨he, hg⟩ => ?_
  subst he
  exact ⟨_, rfl, law_post1 kids full laidOut staysRowed Tryd.underlying4 (by decide) rfl rfl (fun _ => rfl) hW' hg⟩

theorem over : Rows.fnExactKnocksTextRow.holds Tryd.pinned (OpenSpec.ofChange Rows.fnExactKnocksTextSpec) :=
  OpenClaim.holds_of_wide 7 Tryd.f7 rfl rfl rfl rfl rfl rfl rfl ⟨rfl, rfl, rfl, rfl, rfl⟩ rfl rfl rfl rfl rfl (by kernel_rfl) Tryd.func7 (by kernel_rfl)
    (of_decide_eq_true (by kernel_rfl)) (by unfold Func.isWrapper; first | (rw [if_pos (by decide +kernel)]; kernel_rfl) | (rw [if_neg (by decide +kernel)]; exact ⟨rfl, rfl⟩))
    (fun os started H enc _ => lifted os started H enc)

/-- The statement. -/
theorem proved : Rows.FnExactKnocksTextCardSaid :=
  Claim7.holds_tied_plain_at .later [] [.data, .data, .data, .data] true (true, "c86dbfffaf70c3c0f6e28a002827983a45b0fea8336726e3de167ec463d17b2d") false
    over (fun _ h => by cases h) (by kernel_rfl) (fun _ h => by cases h) fnExactKnocksText_row_tie rfl ⟨rfl, rfl⟩ (by kernel_rfl) rfl
    (fun f fn hf hfn => by
      obtain rfl : f = 7 := Option.some.inj ((show Tryd.prog.funcNamed "loop.example/g01274/laws.FnExactKnocksText" = some 7 by kernel_rfl).symm.trans hf) |>.symm
      obtain rfl : fn = Tryd.f7 := (Option.some.inj (Tryd.func7.symm.trans hfn)).symm
      exact ⟨by kernel_rfl, fun j t ht => by
        rw [Tryd.params7] at ht
        have hm : t ∈ [57] := by simpa using Array.mem_of_getElem? ht
        have hall : ([57].all fun u => !Tryd.prog.wantsStandIn u) = true := by kernel_rfl
        exact (show Tryd.prog.wantsStandIn t = false by simpa using List.all_eq_true.1 hall t hm)⟩)
    (by kernel_rfl)
#print axioms proved
end Go.Proofs.YtmllfacgonchnaaDoor.KnocksText
