/- 'SameFalls' answers as its model at every argument. No conditions. -/
import Derived.Test.YthancdlkkfegnaaEqFl
namespace Go.Proofs.Ythancdlkkfegnaa.SameFalls
open Go.ChangeShapes Go.WideShapes Go.ChangeAt Go.RowKit
set_option linter.unusedVariables false

theorem spec_any (v1 v2 : Value) (l1 l2 : List Fl) (w : World) (h1 : SlFl w l1 v1) (h2 : SlFl w l2 v2) (hm1 : l1.length ≤ 1048576) (hm2 : l2.length ≤ 1048576) (R : Bool) (hR : decide (l1 = l2) = R) :
    Calls Try.prog 52 #[v1, v2] w fun e w' => e = .returned (.bool R) ∧ Below w.heap.size w w' := by
  have H := Lib.hid (specFallsSame_any v1 v2 l1 l2 w h1 h2 hm1 hm2 R hR)
  clear h1 h2 hR
  go_enter Try.func52, Try.ntmps52
  go_wp2_with fail
  refine H.out.mono ?_
  rintro e w1 ⟨rfl, hb1⟩
  go_wp2
  go_ret
  exact ⟨rfl, hb1⟩
theorem impl_any (v1 v2 : Value) (l1 l2 : List Fl) (w : World) (h1 : SlFl w l1 v1) (h2 : SlFl w l2 v2) (hm1 : l1.length ≤ 1048576) (hm2 : l2.length ≤ 1048576) (R : Bool) (hR : decide (l1 = l2) = R) :
    Calls Try.prog 54 #[v1, v2] w fun e w' => e = .returned (.bool R) ∧ Below w.heap.size w w' := by
  have H := Lib.hid (FallsEqual_any v1 v2 l1 l2 w h1 h2 hm1 hm2 R hR)
  clear h1 h2 hR
  go_enter Try.func54, Try.ntmps54
  go_wp2_with fail
  refine H.out.mono ?_
  rintro e w1 ⟨rfl, hb1⟩
  go_wp2
  go_ret
  exact ⟨rfl, hb1⟩
set_option maxRecDepth 100000 in
set_option maxHeartbeats 4000000 in
theorem walk {w : World} (v0 : Value) (l0 : List Fl) (s0 : SlFl w l0 v0) (a0 : FlsWf l0) (e0 : l0.length ≤ maxLen) (v1 : Value) (l1 : List Fl) (s1 : SlFl w l1 v1) (a1 : FlsWf l1) (e1 : l1.length ≤ maxLen) :
    Calls Try.prog 14 #[v0, v1] w fun e w' => e = .returned (.bool true) ∧ Below w.heap.size w w' := by
  unfold maxLen at e0 e1
  have S0 := Lib.hid s0
  have S1 := Lib.hid s1
  clear s0 s1
  by_cases h0 : 1048576 - (l0.length : Int) < 0
  · go_enter Try.func14, Try.ntmps14
    go_wp2_with fail
    refine (szFallS_any v0 l0 _ S0.out 1048576 (by omega) (by omega) (by omega)).mono ?_
    rw [if_pos h0]
    rintro e w1 ⟨rfl, rfl⟩
    go_wp2
    go_ret
    exact ⟨rfl, Below.refl _ _⟩
  · by_cases h1 : 1048576 - (l0.length : Int) - (l1.length : Int) < 0
    · have h0' : ¬ 1048576 < (l0.length : Int) := by omega
      go_enter Try.func14, Try.ntmps14
      go_wp2_with fail
      refine (szFallS_any v0 l0 _ S0.out 1048576 (by omega) (by omega) (by omega)).mono ?_
      rw [if_neg (by omega)]
      rintro e w1 ⟨rfl, rfl⟩
      go_wp2_with fail
      refine (szFallS_any v1 l1 _ S1.out _ (by omega) (by omega) (by omega)).mono ?_
      rw [if_pos h1]
      rintro e w1 ⟨rfl, rfl⟩
      go_wp2
      go_ret
      exact ⟨rfl, Below.refl _ _⟩
    · have m0 : l0.length ≤ 1048576 := by omega
      have m1 : l1.length ≤ 1048576 := by omega
      obtain ⟨R, hR⟩ : ∃ R, decide (l0 = l1) = R := ⟨_, rfl⟩
      have HR := Lib.hid hR
      have h0' : ¬ 1048576 < (l0.length : Int) := by omega
      have h1' : ¬ 1048576 - (l0.length : Int) < (l1.length : Int) := by omega
      clear hR
      go_enter Try.func14, Try.ntmps14
      go_wp2_with fail
      refine (szFallS_any v0 l0 _ S0.out 1048576 (by omega) (by omega) (by omega)).mono ?_
      rw [if_neg (by omega)]
      rintro e w1 ⟨rfl, rfl⟩
      go_wp2_with fail
      refine (szFallS_any v1 l1 _ S1.out _ (by omega) (by omega) (by omega)).mono ?_
      rw [if_neg (by omega)]
      rintro e w1 ⟨rfl, rfl⟩
      go_wp2_with fail
      refine (toFallS_any v0 l0 _ S0.out m0).mono ?_
      rintro e wa ⟨rfl, pa, za, _, ba⟩
      have Pa := Lib.hid pa
      have S0a := Lib.hid (S0.out.below ba)
      have S1a := Lib.hid (S1.out.below ba)
      clear pa S0 S1
      go_wp2_with fail
      refine (toFallS_any v1 l1 _ S1a.out m1).mono ?_
      rintro e wb ⟨rfl, pb, zb, _, bb⟩
      have Pb := Lib.hid pb
      have Pa2 := Lib.hid (Pa.out.below bb za)
      have S0b := Lib.hid (S0a.out.below bb)
      have S1b := Lib.hid (S1a.out.below bb)
      have zab := Nat.lt_of_lt_of_le za bb.size
      clear pb Pa S0a S1a
      go_wp2_with fail
      refine (spec_any _ _ l0 l1 _ (SlFl.mk _ 0 _ Pa2.out zab (Nat.le_refl _)) (SlFl.mk _ 0 _ Pb.out zb (Nat.le_refl _)) m0 m1 R HR.out).mono ?_
      rintro e wc ⟨rfl, bc⟩
      have S0c := Lib.hid (S0b.out.below bc)
      have S1c := Lib.hid (S1b.out.below bc)
      have hwc : Below w.heap.size w wc := by repeat (first | with_reducible exact Below.refl _ _ | (with_reducible refine kSet ?_ ?hB _; case hB => (simp; try omega)) | with_reducible refine kAlloc ?_ _ | with_reducible refine Below.drew ?_ | with_reducible refine kDrewN ?_ _ | with_reducible refine kTrans ?_ (by assumption))
      clear S0b S1b Pa2 Pb za zb zab bc ba bb
      go_wp2_with fail
      refine (toFallS_any v0 l0 _ S0c.out m0).mono ?_
      rintro e wa ⟨rfl, pa, za, _, ba⟩
      have Pa := Lib.hid pa
      have S0a := Lib.hid (S0c.out.below ba)
      have S1a := Lib.hid (S1c.out.below ba)
      clear pa S0c S1c
      go_wp2_with fail
      refine (toFallS_any v1 l1 _ S1a.out m1).mono ?_
      rintro e wb ⟨rfl, pb, zb, _, bb⟩
      have Pb := Lib.hid pb
      have Pa2 := Lib.hid (Pa.out.below bb za)
      have S0b := Lib.hid (S0a.out.below bb)
      have S1b := Lib.hid (S1a.out.below bb)
      have zab := Nat.lt_of_lt_of_le za bb.size
      clear pb Pa S0a S1a
      go_wp2_with fail
      refine (impl_any _ _ l0 l1 _ (SlFl.mk _ 0 _ Pa2.out zab (Nat.le_refl _)) (SlFl.mk _ 0 _ Pb.out zb (Nat.le_refl _)) m0 m1 R HR.out).mono ?_
      rintro e wd ⟨rfl, bd⟩
      have X0 := Lib.hid (SlFl.mk _ 0 _ (Pa2.out.below bd zab) (Nat.lt_of_lt_of_le zab bd.size) (Nat.le_refl l0.length))
      have X1 := Lib.hid (SlFl.mk _ 0 _ (Pb.out.below bd zb) (Nat.lt_of_lt_of_le zb bd.size) (Nat.le_refl l1.length))
      have S0d := Lib.hid (S0b.out.below bd)
      have S1d := Lib.hid (S1b.out.below bd)
      have hwd : Below w.heap.size w wd := by repeat (first | with_reducible exact Below.refl _ _ | (with_reducible refine kSet ?_ ?hB _; case hB => (simp; try omega)) | with_reducible refine kAlloc ?_ _ | with_reducible refine Below.drew ?_ | with_reducible refine kDrewN ?_ _ | with_reducible refine kTrans ?_ (by assumption))
      clear S0b S1b Pa2 Pb za zb zab bd ba bb hwc
      have hRR : (R != R) = false := by simp
      go_wp2_with fail
      refine (toFallS_any v0 l0 _ S0d.out m0).mono ?_
      rintro e wa ⟨rfl, pa, za, _, ba⟩
      have Pa := Lib.hid pa
      have X0a := Lib.hid (X0.out.below ba)
      have X1a := Lib.hid (X1.out.below ba)
      have S1a := Lib.hid (S1d.out.below ba)
      clear pa S0d S1d X0 X1
      go_wp2_with fail
      refine (eqFallS_any _ _ l0 _ X0a.out (SlFl.mk _ 0 _ Pa.out za (Nat.le_refl _)) a0 m0).mono ?_
      rintro e wb ⟨rfl, bb⟩
      have X1b := Lib.hid (X1a.out.below bb)
      have S1b := Lib.hid (S1a.out.below bb)
      clear X0a X1a S1a Pa
      go_wp2_with fail
      refine (toFallS_any v1 l1 _ S1b.out m1).mono ?_
      rintro e wc ⟨rfl, pc, zc, _, bc⟩
      have Pc := Lib.hid pc
      have X1c := Lib.hid (X1b.out.below bc)
      clear pc S1b X1b
      go_wp2_with fail
      refine (eqFallS_any _ _ l1 _ X1c.out (SlFl.mk _ 0 _ Pc.out zc (Nat.le_refl _)) a1 m1).mono ?_
      rintro e we ⟨rfl, be⟩
      go_wp2
      go_ret
      exact ⟨rfl, by repeat (first | with_reducible exact Below.refl _ _ | (with_reducible refine kSet ?_ ?hB _; case hB => (simp; try omega)) | with_reducible refine kAlloc ?_ _ | with_reducible refine Below.drew ?_ | with_reducible refine kDrewN ?_ _ | with_reducible refine kTrans ?_ (by assumption))⟩

set_option maxRecDepth 100000 in
theorem lifted (os : Os) (started : os.Started) (H : Type) (enc : TypeId × Value → H) :
    ReturnsInHanded {} Try.checked os 14 .any (Rows.fnExactSameFallsSpec.pre6 enc Try.prog Try.f14 Rows.fnExactSameFallsRow.domain false) (Rows.fnExactSameFallsSpec.post enc Try.prog Try.f14 false true false false) := by
  refine returnsInHanded_of_change (C := Try.checked) own started (by kernel_rfl) Try.func14
    (ChangeSpec.witness6 (enc := enc) (C := Try.checked) false ⟨#[], #[.slice none 0 0, .slice none 0 0], []⟩ 8 (by kernel_rfl) (by kernel_rfl) (by kernel_rfl) (by kernel_rfl)) ?_
  intro W base args ds gs before hval0 hW hcnd _
  have hval : ∀ (j : Nat) t v, Try.f14.params[j]? = some t → args[j]? = some v → Value.okWide Try.prog W .any base t v := hval0
  have hW' := hW
  obtain ⟨p, q, hA0, hV, rfl, hfz, hnd⟩ := hW
  have hA : DataW.TrodAll enc Try.prog W 0 (fun _ => true) true Try.f14.params.toList args.toList ds p := hA0
  rw [Try.params14] at hA hval
  have r_ := hA
  obtain ⟨v0, vs0, d0, ds0, pp0, qq0, hargs0, hds0, _, h0, r_⟩ := trodAll_cons r_
  obtain ⟨v1, vs1, d1, ds1, pp1, qq1, hargs1, hds1, _, h1, r_⟩ := trodAll_cons r_
  obtain ⟨hv_, hd_, _⟩ := trodAll_nil r_
  subst hv_ hd_
  subst hargs1 hds1
  obtain rfl : args = #[v0, v1] := by cases args; simp_all
  subst hds0
  obtain ⟨qa0, qn0, qc0, rfl⟩ := okWide_slice Try.underlying69 (hval 0 69 v0 rfl rfl)
  obtain ⟨fu0, hx0⟩ := h0
  obtain ⟨l0, sl0, al0, le0⟩ := open_Fls Try.underlying69 Fl_cells Fl_flat hx0
  obtain ⟨qa1, qn1, qc1, rfl⟩ := okWide_slice Try.underlying69 (hval 1 69 v1 rfl rfl)
  obtain ⟨fu1, hx1⟩ := h1
  obtain ⟨l1, sl1, al1, le1⟩ := open_Fls Try.underlying69 Fl_cells Fl_flat hx1
  refine (walk (w := W) (.slice qa0 qn0 qc0) l0 sl0 al0 le0 (.slice qa1 qn1 qc1) l1 sl1 al1 le1).mono fun e W' ⟨he, hg⟩ => ?_
  subst he
  exact ⟨_, rfl, law_post kids full Try.underlying4 (by decide) rfl rfl rfl hW' hg⟩

theorem over : Rows.fnExactSameFallsRow.holds Try.pinned (OpenSpec.ofChange Rows.fnExactSameFallsSpec) :=
  OpenClaim.holds_of_wide 14 Try.f14 rfl rfl rfl rfl rfl rfl rfl ⟨rfl, rfl, rfl, rfl, rfl⟩ rfl rfl rfl rfl rfl (by kernel_rfl) Try.func14 (by kernel_rfl)
    (of_decide_eq_true (by kernel_rfl)) (by unfold Func.isWrapper; first | (rw [if_pos (by decide +kernel)]; kernel_rfl) | (rw [if_neg (by decide +kernel)]; exact ⟨rfl, rfl⟩))
    (fun os started H enc _ => lifted os started H enc)

/-- The statement. -/
theorem proved : Rows.FnExactSameFallsSaid :=
  over
#print axioms proved
end Go.Proofs.Ythancdlkkfegnaa.SameFalls
