/- 'ReadSpans' answers as its model at every argument. No conditions. -/
import Derived.Test.YthngnbaoaeomeaaDoorTi0
import Derived.Test.YthngnbaoaeomeaaDoorSzS
import Derived.Test.YthngnbaoaeomeaaDoorSzI
import Derived.Test.YthngnbaoaeomeaaDoorSqk
import Derived.Deep.RegionHeld3
import Derived.Deep.DeepCutAuto
import Derived.ChangeMaps5
namespace Go.Proofs.YthngnbaoaeomeaaDoor.ReadSpans
open Go.ChangeShapes Go.ChangeMaps Go.WideShapes Go.ChangeAt Go.RowKit
set_option linter.unusedVariables false

end Go.Proofs.YthngnbaoaeomeaaDoor.ReadSpans
namespace Go.Proofs.YthngnbaoaeomeaaDoor
open Go.ChangeShapes Go.ChangeMaps Go.WideShapes Go.ChangeAt Go.RowKit
theorem stay_lts {w : World} (h : StayAt w) : 5 < w.heap.size ∧ 4 < w.heap.size := by
  obtain ⟨⟨⟨_, _, e2⟩, _, _, e1⟩⟩ := h
  exact ⟨World.block_lt_of_cell? w _ e1, World.block_lt_of_cell? w _ e2⟩
theorem StayAt.kept {lo hi : Nat} {w w' : World} (h : StayAt w) (g : KeptOut lo hi w w') (h0 : 5 < lo ∧ 4 < lo) : StayAt w' := by
  have hl := stay_lts h
  obtain ⟨⟨⟨_, _, e2⟩, _, _, e1⟩⟩ := h
  exact ⟨⟨⟨_, _, (g.cell hl.2 (.inl h0.2)).trans e2⟩, _, _, (g.cell hl.1 (.inl h0.1)).trans e1⟩⟩
end Go.Proofs.YthngnbaoaeomeaaDoor
namespace Go.Proofs.YthngnbaoaeomeaaDoor.ReadSpans
open Go.ChangeShapes Go.ChangeMaps Go.WideShapes Go.ChangeAt Go.RowKit

set_option maxRecDepth 100000 in
set_option maxHeartbeats 16000000 in
theorem walk {w : World} (hst_ : StayAt w) (S : ByteArray) (hz : S.size ≤ maxLen) :
    Calls Tryd.prog 6 #[.string S] w fun e w' => e = .returned (.bool true) ∧ Below w.heap.size w w' := by
  unfold maxLen at hz
  obtain ⟨l, hl0⟩ : ∃ l, S.data.toList = l := ⟨_, rfl⟩
  have hSl : bsT l = S := by rw [← hl0]; exact bsT_of S
  have hsz : S.size = l.length := by rw [← hSl, bsT_size]
  by_cases hlen : 1048576 < l.length
  · have h1 : (1048576 : Int) < (S.size : Int) := by omega
    clear hl0 hSl hst_ hsz
    go_enter Tryd.func6, Tryd.ntmps6
    go_wp2
    go_ret
    exact ⟨rfl, Below.refl _ _⟩
  · have h1 : ¬ (1048576 : Int) < (S.size : Int) := by omega
    have hl : l.length ≤ 1048576 := by omega
    clear hl0 hsz hlen
    have ST_ := Lib.hid hst_
    have st0_ : 5 < w.heap.size ∧ 4 < w.heap.size := stay_lts hst_
    clear hst_
    obtain ⟨L, C, hA⟩ := szA_ex l
    obtain ⟨al0, hlr0⟩ := hA.fine
    have hr0 : L.length ≤ 1048576 := by omega
    have Hs := Lib.hid (fun w2 => (by have h := specReadSpans_any l w2 hl L C hA; rw [hSl] at h; exact h : Calls Tryd.prog 22 #[.string S] w2 (SzPost L C w2)))
    have Hi := Lib.hid (fun w2 (hs2 : StayAt w2) => (by have h := implReadSpans_any l w2 hl hs2.err L C hA; rw [hSl] at h; exact h : Calls Tryd.prog 23 #[.string S] w2 (SzPost L C w2)))
    clear hA hSl
    have qr0 : (2 : Int) * L.length ≤ 2097152 := by omega
    go_enter Tryd.func6, Tryd.ntmps6
    go_wp2_with fail
    refine (Hs.out  _ ).mono ?_
    rintro e w1_ ⟨uw0_, rfl, yw0_, b1_⟩
    have n1_ : w.heap.size ≤ w1_.heap.size := b1_.size
    have T1_ : Below w.heap.size w w1_ := b1_
    obtain ⟨uaw0, ucw0, rfl⟩ := yw0_.form
    have Rw0_1_ := Lib.hid yw0_
    clear yw0_
    have ST_1_ := Lib.hid (ST_.out.below b1_)
    clear ST_ b1_
    go_wp2_with fail
    refine (Hi.out  _  ST_1_.out).mono ?_
    rintro e w2_ ⟨ug0_, rfl, yg0_, b2_⟩
    have n2_ : w1_.heap.size ≤ w2_.heap.size := b2_.size
    have T2_ : Below w.heap.size w w2_ := kTrans T1_ b2_
    obtain ⟨uag0, ucg0, rfl⟩ := yg0_.form
    have Rg0_2_ := Lib.hid yg0_
    clear yg0_
    have ST_2_ := Lib.hid (ST_1_.out.below b2_)
    have Rw0_2_ := Lib.hid (Rw0_1_.out.below b2_)
    clear ST_1_ Rw0_1_ b2_ T1_
    go_wp2_with fail
    refine (eqSpanS_any _ _ L _ Rg0_2_.out.sl Rw0_2_.out.sl al0 hr0).mono ?_
    rintro e w3_ ⟨rfl, b3_⟩
    have n3_ : w2_.heap.size ≤ w3_.heap.size := b3_.size
    have T3_ : Below w.heap.size w w3_ := kTrans T2_ b3_
    have ST_3_ := Lib.hid (ST_2_.out.below b3_)
    have Rw0_3_ := Lib.hid (Rw0_2_.out.below b3_)
    have Rg0_3_ := Lib.hid (Rg0_2_.out.below b3_)
    clear ST_2_ Rw0_2_ Rg0_2_ b3_ T2_
    go_wp2_with fail
    refine (markSpanS_any _ _ _ L (1) _ Rg0_3_.out (by omega) (by omega) hr0).mono ?_
    rintro e w4_ ⟨rfl, vm_, b4_⟩
    have n4_ : w3_.heap.size ≤ w4_.heap.size := b4_.size
    have T4_ := kOut T3_ b4_ (by omega)
    have Rg0_4_ := Lib.hid vm_
    clear vm_
    have ST_4_ := Lib.hid (ST_3_.out.kept b4_ (by omega))
    have Rw0_4_ := Lib.hid (Rw0_3_.out.out b4_ (by omega))
    clear ST_3_ Rw0_3_ Rg0_3_ b4_ T3_
    go_wp2_with fail
    refine (heldSpanS_any _ _ L.length _ (1) _ Rg0_4_.out (by omega) (by omega) hr0).mono ?_
    rintro e w5_ ⟨rfl, b5_⟩
    have n5_ : w4_.heap.size ≤ w5_.heap.size := b5_.size
    have T5_ : Below w.heap.size w w5_ := kTrans T4_ b5_
    have ST_5_ := Lib.hid (ST_4_.out.below b5_)
    have Rw0_5_ := Lib.hid (Rw0_4_.out.below b5_)
    have Rg0_5_ := Lib.hid (Rg0_4_.out.below b5_)
    clear ST_4_ Rw0_4_ Rg0_4_ b5_ T4_
    go_wp2_with fail
    refine (Hi.out  _  ST_5_.out).mono ?_
    rintro e w6_ ⟨uh0_, rfl, yh0_, b6_⟩
    have n6_ : w5_.heap.size ≤ w6_.heap.size := b6_.size
    have T6_ : Below w.heap.size w w6_ := kTrans T5_ b6_
    obtain ⟨uah0, uch0, rfl⟩ := yh0_.form
    have Rh0_6_ := Lib.hid yh0_
    clear yh0_
    have ST_6_ := Lib.hid (ST_5_.out.below b6_)
    have Rw0_6_ := Lib.hid (Rw0_5_.out.below b6_)
    have Rg0_6_ := Lib.hid (Rg0_5_.out.below b6_)
    clear ST_5_ Rw0_5_ Rg0_5_ b6_ T5_
    go_wp2_with fail
    refine (eqSpanS_any _ _ L _ Rh0_6_.out.sl Rw0_6_.out.sl al0 hr0).mono ?_
    rintro e w7_ ⟨rfl, b7_⟩
    have n7_ : w6_.heap.size ≤ w7_.heap.size := b7_.size
    have T7_ : Below w.heap.size w w7_ := kTrans T6_ b7_
    have ST_7_ := Lib.hid (ST_6_.out.below b7_)
    have Rw0_7_ := Lib.hid (Rw0_6_.out.below b7_)
    have Rg0_7_ := Lib.hid (Rg0_6_.out.below b7_)
    have Rh0_7_ := Lib.hid (Rh0_6_.out.below b7_)
    clear ST_6_ Rw0_6_ Rg0_6_ Rh0_6_ b7_ T6_
    go_wp2_with fail
    refine (heldSpanS_any _ _ L.length _ (1) _ Rg0_7_.out (by omega) (by omega) hr0).mono ?_
    rintro e w8_ ⟨rfl, b8_⟩
    have n8_ : w7_.heap.size ≤ w8_.heap.size := b8_.size
    have T8_ : Below w.heap.size w w8_ := kTrans T7_ b8_
    have ST_8_ := Lib.hid (ST_7_.out.below b8_)
    have Rw0_8_ := Lib.hid (Rw0_7_.out.below b8_)
    have Rg0_8_ := Lib.hid (Rg0_7_.out.below b8_)
    have Rh0_8_ := Lib.hid (Rh0_7_.out.below b8_)
    clear ST_7_ Rw0_7_ Rg0_7_ Rh0_7_ b8_ T7_
    go_wp2
    go_ret
    exact ⟨rfl, T8_⟩

set_option maxRecDepth 100000 in
theorem lifted (os : Os) (started : os.Started) (H : Type) (enc : TypeId × Value → H) :
    ReturnsInHanded {} Tryd.checked os 6 .any (fun w args => (Rows.fnExactReadSpansSpec.pre enc Tryd.prog Tryd.f6 [] false w args ∧ laidMetH Tryd.prog laid1 w) ∧ sizedMet enc Tryd.prog Tryd.f6 (OpenSpec.ofChange Rows.fnExactReadSpansSpec) false w args) (Rows.fnExactReadSpansSpec.post enc Tryd.prog Tryd.f6 false true false false) := by
  refine returnsInHanded_of_change_and (C := Tryd.checked) (X := fun w _ => laidMetH Tryd.prog laid1 w) (fun _ _ _ hh h => h.of_heap hh) own started (by kernel_rfl) Tryd.func6
    (ChangeSpec.witness_shaped (enc := enc) (C := Tryd.checked) (os := os) (X := fun w _ => laidMetH Tryd.prog laid1 w) false (World.laidAll Tryd.prog os laid1) #[.string ⟨#[]⟩] 8 (World.laidAll_os _ _ _) (World.shaped_of_ZipB (by kernel_rfl) (by kernel_rfl)) (by kernel_rfl) (by kernel_rfl) (by kernel_rfl) (door_met os _)) ?_
  intro W base args ds gs before hval0 hW _ _ hL _
  have hval : ∀ (j : Nat) t v, Tryd.f6.params[j]? = some t → args[j]? = some v → Value.okWide Tryd.prog W .any base t v := hval0
  have hW' := hW
  obtain ⟨p, q, hA0, hV, rfl, hfz, hnd⟩ := hW
  have hA : DataW.TrodAll enc Tryd.prog W 0 (fun _ => true) true Tryd.f6.params.toList args.toList ds p := hA0
  rw [Tryd.params6] at hA hval
  have r_ := hA
  obtain ⟨v0, vs0, d0, ds0, pp0, qq0, hargs0, hds0, _, h0, r_⟩ := trodAll_cons r_
  obtain ⟨hv_, hd_, _⟩ := trodAll_nil r_
  subst hv_ hd_
  obtain rfl : args = #[v0] := by cases args; simp_all
  subst hds0
  obtain ⟨S0, rfl, rfl, rfl, z0⟩ := open_string Tryd.underlying9 (hval 0 9 v0 rfl rfl) h0
  refine (walk (w := W) (stay_of_laid hL) S0 z0).mono fun e W' ⟨he, hg⟩ => ?_
  subst he
  exact ⟨_, rfl, law_post1 kids full laidOut staysRowed Tryd.underlying4 (by decide) rfl rfl (fun _ => rfl) hW' hg⟩

theorem over : Rows.fnExactReadSpansRow.holds Tryd.pinned (OpenSpec.ofChange Rows.fnExactReadSpansSpec) :=
  OpenClaim.holds_of_wide 6 Tryd.f6 rfl rfl rfl rfl rfl rfl rfl ⟨rfl, rfl, rfl, rfl, rfl⟩ rfl rfl rfl rfl rfl (by kernel_rfl) Tryd.func6 (by kernel_rfl)
    (of_decide_eq_true (by kernel_rfl)) (by unfold Func.isWrapper; first | (rw [if_pos (by decide +kernel)]; kernel_rfl) | (rw [if_neg (by decide +kernel)]; exact ⟨rfl, rfl⟩))
    (fun os started H enc _ => lifted os started H enc)

/-- The statement. -/
theorem proved : Rows.FnExactReadSpansCardSaid :=
  Claim7.holds_tied_plain_at .later [] [.data, .data, .data, .data, .sentinel, .sentinel, .pinned] true (true, "61f7092c80afc994bb3a6aabb4bd8d3cea3b58db86e9e5f303aa9b69f9791158") true
    over (fun _ h => by cases h) (by kernel_rfl) (fun _ h => by cases h) fnExactReadSpans_row_tie rfl ⟨rfl, rfl⟩ (by kernel_rfl) rfl
    (fun f fn hf hfn => by
      obtain rfl : f = 6 := Option.some.inj ((show Tryd.prog.funcNamed "loop.example/g01274/laws.FnExactReadSpans" = some 6 by kernel_rfl).symm.trans hf) |>.symm
      obtain rfl : fn = Tryd.f6 := (Option.some.inj (Tryd.func6.symm.trans hfn)).symm
      exact ⟨by kernel_rfl, fun j t ht => by
        rw [Tryd.params6] at ht
        have hm : t ∈ [9] := by simpa using Array.mem_of_getElem? ht
        have hall : ([9].all fun u => !Tryd.prog.wantsStandIn u) = true := by kernel_rfl
        exact (show Tryd.prog.wantsStandIn t = false by simpa using List.all_eq_true.1 hall t hm)⟩)
    (by kernel_rfl)
#print axioms proved
end Go.Proofs.YthngnbaoaeomeaaDoor.ReadSpans
