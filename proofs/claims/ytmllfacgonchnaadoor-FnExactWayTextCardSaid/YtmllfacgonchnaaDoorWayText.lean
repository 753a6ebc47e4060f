/- 'WayText' answers as its model at every argument. No conditions. -/
import Derived.Test.YtmllfacgonchnaaDoorSts
import Derived.Test.YtmllfacgonchnaaDoorWt
import Derived.Test.YtmllfacgonchnaaDoorG4
namespace Go.Proofs.YtmllfacgonchnaaDoor.WayText
open Go.ChangeShapes Go.WideShapes Go.ChangeAt Go.RowKit
set_option linter.unusedVariables false

set_option maxRecDepth 100000 in
set_option maxHeartbeats 4000000 in
theorem walk {w : World} (hst_ : StayAt w) (p0 : Wy) (bp0 : p0.in8) :
    Calls Tryd.prog 5 #[.agg #[.int .i8 p0.fx, .int .i8 p0.fy, .int .i8 p0.sd, .int .i8 p0.tx, .int .i8 p0.ty, .int .i8 p0.ot]] w fun e w' => e = .returned (.bool true) ∧ Below w.heap.size w w' := by
  obtain ⟨S, hS⟩ : ∃ S, bsT (wyQ p0) = S := ⟨_, rfl⟩
  have Hs := Lib.hid (fun W => specWayText_any p0.fx p0.fy p0.sd p0.tx p0.ty p0.ot W bp0 S hS)
  have Hi := Lib.hid (fun W (h : Below w.heap.size w W) => implWayText_any p0.fx p0.fy p0.sd p0.tx p0.ty p0.ot W bp0 S hS (hst_.below h))
  obtain ⟨W0, hW⟩ : ∃ W0, w.alloc (.cells #[.int .i8 p0.fx, .int .i8 p0.fy, .int .i8 p0.sd, .int .i8 p0.tx, .int .i8 p0.ty, .int .i8 p0.ot] 43) = W0 := ⟨_, rfl⟩
  have k0 : Below w.heap.size w W0 := by rw [← hW]; exact kAlloc (Below.refl _ _) _
  have bX : W0.heap[w.heap.size]? = some (.cells #[.int .i8 p0.fx, .int .i8 p0.fy, .int .i8 p0.sd, .int .i8 p0.tx, .int .i8 p0.ty, .int .i8 p0.ot] 43 (0, 0)) := by rw [← hW]; exact heap_alloc_new _ _
  have hwl := blk_lt bX
  have HWY := Lib.hid (fun W2 (h2 : Below W0.heap.size W0 W2) => (WyAt.of (p := p0) bX).below h2 hwl)
  have HK0 := Lib.hid k0
  have HW := Lib.hid hW
  obtain ⟨c0, c1, c2, c3, c4, c5⟩ := WyAt.of (p := p0) bX
  clear hS hst_ bX hW k0
  go_enter Tryd.func5, Tryd.ntmps5
  go_upto_region 1 with fail
  try rw [HW.out]
  go_wp2_with fail
  refine (toWay_any p0 _).mono ?_
  rintro e w1 ⟨rfl, hb1⟩
  have HB1 := Lib.hid hb1
  clear hb1 c0 c1 c2 c3 c4 c5 HW
  go_wp2_with fail
  refine (Hs.out _).mono ?_
  rintro e w2 ⟨rfl, hb2⟩
  have HB2 := Lib.hid (kTrans HB1.out hb2)
  obtain ⟨c0, c1, c2, c3, c4, c5⟩ := HWY.out _ HB2.out
  have lw := Nat.lt_of_lt_of_le hwl HB2.out.size
  clear hb2 HB1
  go_wp2_with fail
  refine (toWay_any p0 _).mono ?_
  rintro e w3 ⟨rfl, hb3⟩
  have HB3 := Lib.hid (kTrans HB2.out hb3)
  clear hb3 c0 c1 c2 c3 c4 c5 lw HB2
  go_wp2_with fail
  refine (Hi.out _ (kTrans HK0.out HB3.out)).mono ?_
  rintro e w4 ⟨rfl, hb4⟩
  have T4 := Lib.hid (kTrans HK0.out (kTrans HB3.out hb4))
  clear hb4 HB3
  go_wp2
  go_ret
  exact ⟨rfl, T4.out⟩

set_option maxRecDepth 100000 in
theorem lifted (os : Os) (started : os.Started) (H : Type) (enc : TypeId × Value → H) :
    ReturnsInHanded {} Tryd.checked os 5 .any (fun w args => (Rows.fnExactWayTextSpec.pre enc Tryd.prog Tryd.f5 [] false w args ∧ laidMetH Tryd.prog laid1 w) ∧ sizedMet enc Tryd.prog Tryd.f5 (OpenSpec.ofChange Rows.fnExactWayTextSpec) false w args) (Rows.fnExactWayTextSpec.post enc Tryd.prog Tryd.f5 false true false false) := by
  refine returnsInHanded_of_change_and (C := Tryd.checked) (X := fun w _ => laidMetH Tryd.prog laid1 w) (fun _ _ _ hh h => h.of_heap hh) own started (by kernel_rfl) Tryd.func5
    (ChangeSpec.witness_shaped (enc := enc) (C := Tryd.checked) (os := os) (X := fun w _ => laidMetH Tryd.prog laid1 w) false (World.doorLaid Tryd.prog 400 os) #[.agg #[.int .i8 0, .int .i8 0, .int .i8 0, .int .i8 0, .int .i8 0, .int .i8 0]] 8 rfl (World.shaped_of_RefB (by kernel_rfl) (by kernel_rfl)) (by kernel_rfl) (by kernel_rfl) (by kernel_rfl) (door_met os _)) ?_
  intro W base args ds gs before hval0 hW _ _ hL _
  have hval : ∀ (j : Nat) t v, Tryd.f5.params[j]? = some t → args[j]? = some v → Value.okWide Tryd.prog W .any base t v := hval0
  have hW' := hW
  obtain ⟨p, q, hA0, hV, rfl, hfz, hnd⟩ := hW
  have hA : DataW.TrodAll enc Tryd.prog W 0 (fun _ => true) true Tryd.f5.params.toList args.toList ds p := hA0
  rw [Tryd.params5] at hA hval
  have r_ := hA
  obtain ⟨v0, vs0, d0, ds0, pp0, qq0, hargs0, hds0, _, h0, r_⟩ := trodAll_cons r_
  obtain ⟨hv_, hd_, _⟩ := trodAll_nil r_
  subst hv_ hd_
  obtain rfl : args = #[v0] := by cases args; simp_all
  subst hds0
  obtain ⟨p0, rfl, b0⟩ := open_way flat_way agg_way (hval 0 43 v0 rfl rfl) h0
  refine (walk (w := W) (stay_of_laid hL) p0 b0).mono fun e W' ⟨he, hg⟩ => ?_
  subst he
  exact ⟨_, rfl, law_post1 kids full laidOut staysRowed Tryd.underlying4 (by decide) rfl rfl (fun _ => rfl) hW' hg⟩

theorem over : Rows.fnExactWayTextRow.holds Tryd.pinned (OpenSpec.ofChange Rows.fnExactWayTextSpec) :=
  OpenClaim.holds_of_wide 5 Tryd.f5 rfl rfl rfl rfl rfl rfl rfl ⟨rfl, rfl, rfl, rfl, rfl⟩ rfl rfl rfl rfl rfl (by kernel_rfl) Tryd.func5 (by kernel_rfl)
    (of_decide_eq_true (by kernel_rfl)) (by unfold Func.isWrapper; first | (rw [if_pos (by decide +kernel)]; kernel_rfl) | (rw [if_neg (by decide +kernel)]; exact ⟨rfl, rfl⟩))
    (fun os started H enc _ => lifted os started H enc)

/-- The statement. -/
theorem proved : Rows.FnExactWayTextCardSaid :=
  Claim7.holds_tied_plain_at .later [] [.data, .data, .data, .data] true (true, "c86dbfffaf70c3c0f6e28a002827983a45b0fea8336726e3de167ec463d17b2d") false
    over (fun _ h => by cases h) (by kernel_rfl) (fun _ h => by cases h) fnExactWayText_row_tie rfl ⟨rfl, rfl⟩ (by kernel_rfl) rfl
    (fun f fn hf hfn => by
      obtain rfl : f = 5 := Option.some.inj ((show Tryd.prog.funcNamed "loop.example/g01274/laws.FnExactWayText" = some 5 by kernel_rfl).symm.trans hf) |>.symm
      obtain rfl : fn = Tryd.f5 := (Option.some.inj (Tryd.func5.symm.trans hfn)).symm
      exact ⟨by kernel_rfl, fun j t ht => by
        rw [Tryd.params5] at ht
        have hm : t ∈ [43] := by simpa using Array.mem_of_getElem? ht
        have hall : ([43].all fun u => !Tryd.prog.wantsStandIn u) = true := by kernel_rfl
        exact (show Tryd.prog.wantsStandIn t = false by simpa using List.all_eq_true.1 hall t hm)⟩)
    (by kernel_rfl)
#print axioms proved
end Go.Proofs.YtmllfacgonchnaaDoor.WayText
