/- 'NetworkOf' answers as its model at every argument. No conditions. -/
import Derived.Test.YtdnjamlibnmpfaaNtc
import Derived.Deep.RegionHeld3
import Derived.Deep.DeepCutAuto
namespace Go.Proofs.Ytdnjamlibnmpfaa.NetworkOf
open Go.ChangeShapes Go.WideShapes Go.ChangeAt Go.RowKit
set_option linter.unusedVariables false

set_option maxRecDepth 100000 in
set_option maxHeartbeats 16000000 in
theorem walk {w : World} (n : Int) (w0 : (Lit.int .i64 n).wf = true) (t : Int) (w1 : (Lit.int .u64 t).wf = true) :
    Calls Try.prog 5 #[.int .i64 n, .int .u64 t] w fun e w' => e = .returned (.bool true) ∧ Below w.heap.size w w' := by
  have bt := bounds_u64 w1
  obtain ⟨R, hR⟩ : ∃ R, R = (decide (1 ≤ n ∧ n ≤ 6) && (Go.bits .andNot .u64 t (fullF n.toNat) == 0)) := ⟨_, rfl⟩
  obtain ⟨Nr, lr, pr, C, hQ⟩ : ∃ Nr lr pr C, nkQ R n.toNat t = (Nr, lr, pr, C) := ⟨_, _, _, _, rfl⟩
  obtain ⟨al0, alp0, hr0, hrp0⟩ := nkQ_fine (ni := n) (fun e => by rw [e] at hR; have h := hR.symm; rw [Bool.and_eq_true] at h; exact of_decide_eq_true h.1) hQ
  have bt2 : 0 ≤ t ∧ t ≤ 18446744073709551615 := by omega
  have Hs := Lib.hid (fun w2 => specNetworkOf_any n t w2 bt2 R hR Nr lr pr C hQ)
  have Hi := Lib.hid (fun w2 => implNetworkOf_any n t w2 bt2 R hR Nr lr pr C hQ)
  clear hR hQ bt bt2
  have qr0 : (3 : Int) * lr.length ≤ 3145728 := by omega
  have qrp0 : (1 : Int) * pr.length ≤ 1048576 := by omega
  go_enter Try.func5, Try.ntmps5
  go_wp2_with fail
  refine (Hs.out  _ ).mono ?_
  rintro e w1_ ⟨uw0_, tw0_, rfl, yw0_, b1_⟩
  have n1_ : w.heap.size ≤ w1_.heap.size := b1_.size
  have T1_ : Below w.heap.size w w1_ := b1_
  obtain ⟨uaw0, ucw0, taw0, tcw0, rfl, rfl⟩ := yw0_.form
  have Rw0_1_ := Lib.hid yw0_
  clear yw0_
  clear b1_
  go_wp2_with fail
  refine (Hi.out  _ ).mono ?_
  rintro e w2_ ⟨ug0_, tg0_, rfl, yg0_, b2_⟩
  have B2_ : Below w1_.heap.size w1_ w2_ := kTrans (kAlloc (Below.refl _ _) _) b2_
  have n2_ : w1_.heap.size + 1 ≤ w2_.heap.size := by have := b2_.size; simpa using this
  have T2_ : Below w.heap.size w w2_ := kTrans T1_ B2_
  simp only [World.size_alloc] at yg0_
  obtain ⟨uag0, ucg0, tag0, tcg0, rfl, rfl⟩ := yg0_.form
  have Rg0_2_ := Lib.hid yg0_
  clear yg0_
  have Rw0_2_ := Lib.hid (Rw0_1_.out.below B2_)
  have Xw0_2_ := Lib.hid (blk_below (heap_alloc_new w1_ (.cells #[.int .i8 Nr, .slice uaw0 lr.length ucw0, .slice taw0 pr.length tcw0] 30)) b2_)
  clear Rw0_1_ b2_ B2_ T1_
  have bE : Below w2_.heap.size w2_ (w2_.alloc (.cells #[.int .i8 Nr, .slice uag0 lr.length ucg0, .slice tag0 pr.length tcg0] 30)) := (kAlloc (Below.refl _ _) _)
  have c1_0 : (w2_.alloc (.cells #[.int .i8 Nr, .slice uag0 lr.length ucg0, .slice tag0 pr.length tcg0] 30)).cell? ⟨w1_.heap.size, 0, none⟩ = some (.int .i8 Nr) := cell_of_row _ _ 0 _ _ _ (blk_below Xw0_2_.out bE)
  have c1_1 : (w2_.alloc (.cells #[.int .i8 Nr, .slice uag0 lr.length ucg0, .slice tag0 pr.length tcg0] 30)).cell? ⟨w1_.heap.size, 1, none⟩ = some (.slice uaw0 lr.length ucw0) := cell_of_row _ _ 1 _ _ _ (blk_below Xw0_2_.out bE)
  have c1_2 : (w2_.alloc (.cells #[.int .i8 Nr, .slice uag0 lr.length ucg0, .slice tag0 pr.length tcg0] 30)).cell? ⟨w1_.heap.size, 2, none⟩ = some (.slice taw0 pr.length tcw0) := cell_of_row _ _ 2 _ _ _ (blk_below Xw0_2_.out bE)
  go_wp2_with fail
  refine (eqNetwork_r Nr _ _ _ _ lr pr _ (Rg0_2_.out.below bE) (Rw0_2_.out.below bE) al0 alp0 hr0 hrp0).mono ?_
  rintro e w3_ ⟨rfl, b3_⟩
  have B3_ : Below w2_.heap.size w2_ w3_ := kTrans (kAlloc (Below.refl _ _) _) b3_
  have n3_ : w2_.heap.size + 1 ≤ w3_.heap.size := by have := b3_.size; simpa using this
  have T3_ : Below w.heap.size w w3_ := kTrans T2_ B3_
  have Rw0_3_ := Lib.hid (Rw0_2_.out.below B3_)
  have Rg0_3_ := Lib.hid (Rg0_2_.out.below B3_)
  have Xw0_3_ := Lib.hid (blk_below Xw0_2_.out B3_)
  have Xg0_3_ := Lib.hid (blk_below (heap_alloc_new w2_ (.cells #[.int .i8 Nr, .slice uag0 lr.length ucg0, .slice tag0 pr.length tcg0] 30)) b3_)
  clear bE c1_0 c1_1 c1_2 Rw0_2_ Rg0_2_ Xw0_2_ b3_ B3_ T2_
  have c0_0 : w3_.cell? ⟨w2_.heap.size, 0, none⟩ = some (.int .i8 Nr) := cell_of_row _ _ 0 _ _ _ Xg0_3_.out
  have c0_1 : w3_.cell? ⟨w2_.heap.size, 1, none⟩ = some (.slice uag0 lr.length ucg0) := cell_of_row _ _ 1 _ _ _ Xg0_3_.out
  have c0_2 : w3_.cell? ⟨w2_.heap.size, 2, none⟩ = some (.slice tag0 pr.length tcg0) := cell_of_row _ _ 2 _ _ _ Xg0_3_.out
  go_wp2_with fail
  refine (markNetwork_r _ _ Nr _ _ lr pr (1) _ Rg0_3_.out (by omega) (by omega) (by omega) hr0 hrp0).mono ?_
  rintro e w4_ ⟨rfl, vm_, b4_⟩
  have n4_ : w3_.heap.size ≤ w4_.heap.size := b4_.size
  have T4_ := kOut T3_ b4_ (by omega)
  have Rg0_4_ := Lib.hid vm_
  clear vm_
  have Rw0_4_ := Lib.hid (Rw0_3_.out.out b4_ (by omega))
  have Xw0_4_ := Lib.hid (blk_out Xw0_3_.out b4_ (by omega))
  have Xg0_4_ := Lib.hid (blk_out Xg0_3_.out b4_ (by omega))
  clear c0_0 c0_1 c0_2 Rw0_3_ Rg0_3_ Xw0_3_ Xg0_3_ b4_ T3_
  have c0_0 : w4_.cell? ⟨w2_.heap.size, 0, none⟩ = some (.int .i8 Nr) := cell_of_row _ _ 0 _ _ _ Xg0_4_.out
  have c0_1 : w4_.cell? ⟨w2_.heap.size, 1, none⟩ = some (.slice uag0 lr.length ucg0) := cell_of_row _ _ 1 _ _ _ Xg0_4_.out
  have c0_2 : w4_.cell? ⟨w2_.heap.size, 2, none⟩ = some (.slice tag0 pr.length tcg0) := cell_of_row _ _ 2 _ _ _ Xg0_4_.out
  go_wp2_with fail
  refine (heldNetwork_r _ _ lr.length pr.length Nr _ _ (1) _ Rg0_4_.out (by omega) (by omega) hr0 hrp0).mono ?_
  rintro e w5_ ⟨rfl, b5_⟩
  have n5_ : w4_.heap.size ≤ w5_.heap.size := b5_.size
  have T5_ : Below w.heap.size w w5_ := kTrans T4_ b5_
  have Rw0_5_ := Lib.hid (Rw0_4_.out.below b5_)
  have Rg0_5_ := Lib.hid (Rg0_4_.out.below b5_)
  have Xw0_5_ := Lib.hid (blk_below Xw0_4_.out b5_)
  have Xg0_5_ := Lib.hid (blk_below Xg0_4_.out b5_)
  clear c0_0 c0_1 c0_2 Rw0_4_ Rg0_4_ Xw0_4_ Xg0_4_ b5_ T4_
  go_wp2_with fail
  refine (Hi.out  _ ).mono ?_
  rintro e w6_ ⟨uh0_, th0_, rfl, yh0_, b6_⟩
  have n6_ : w5_.heap.size ≤ w6_.heap.size := b6_.size
  have T6_ : Below w.heap.size w w6_ := kTrans T5_ b6_
  obtain ⟨uah0, uch0, tah0, tch0, rfl, rfl⟩ := yh0_.form
  have Rh0_6_ := Lib.hid yh0_
  clear yh0_
  have Rw0_6_ := Lib.hid (Rw0_5_.out.below b6_)
  have Rg0_6_ := Lib.hid (Rg0_5_.out.below b6_)
  have Xw0_6_ := Lib.hid (blk_below Xw0_5_.out b6_)
  have Xg0_6_ := Lib.hid (blk_below Xg0_5_.out b6_)
  clear Rw0_5_ Rg0_5_ Xw0_5_ Xg0_5_ b6_ T5_
  have bE : Below w6_.heap.size w6_ (w6_.alloc (.cells #[.int .i8 Nr, .slice uah0 lr.length uch0, .slice tah0 pr.length tch0] 30)) := (kAlloc (Below.refl _ _) _)
  have c1_0 : (w6_.alloc (.cells #[.int .i8 Nr, .slice uah0 lr.length uch0, .slice tah0 pr.length tch0] 30)).cell? ⟨w1_.heap.size, 0, none⟩ = some (.int .i8 Nr) := cell_of_row _ _ 0 _ _ _ (blk_below Xw0_6_.out bE)
  have c1_1 : (w6_.alloc (.cells #[.int .i8 Nr, .slice uah0 lr.length uch0, .slice tah0 pr.length tch0] 30)).cell? ⟨w1_.heap.size, 1, none⟩ = some (.slice uaw0 lr.length ucw0) := cell_of_row _ _ 1 _ _ _ (blk_below Xw0_6_.out bE)
  have c1_2 : (w6_.alloc (.cells #[.int .i8 Nr, .slice uah0 lr.length uch0, .slice tah0 pr.length tch0] 30)).cell? ⟨w1_.heap.size, 2, none⟩ = some (.slice taw0 pr.length tcw0) := cell_of_row _ _ 2 _ _ _ (blk_below Xw0_6_.out bE)
  go_wp2_with fail
  refine (eqNetwork_r Nr _ _ _ _ lr pr _ (Rh0_6_.out.below bE) (Rw0_6_.out.below bE) al0 alp0 hr0 hrp0).mono ?_
  rintro e w7_ ⟨rfl, b7_⟩
  have B7_ : Below w6_.heap.size w6_ w7_ := kTrans (kAlloc (Below.refl _ _) _) b7_
  have n7_ : w6_.heap.size + 1 ≤ w7_.heap.size := by have := b7_.size; simpa using this
  have T7_ : Below w.heap.size w w7_ := kTrans T6_ B7_
  have Rw0_7_ := Lib.hid (Rw0_6_.out.below B7_)
  have Rg0_7_ := Lib.hid (Rg0_6_.out.below B7_)
  have Xw0_7_ := Lib.hid (blk_below Xw0_6_.out B7_)
  have Xg0_7_ := Lib.hid (blk_below Xg0_6_.out B7_)
  have Rh0_7_ := Lib.hid (Rh0_6_.out.below B7_)
  have Xh0_7_ := Lib.hid (blk_below (heap_alloc_new w6_ (.cells #[.int .i8 Nr, .slice uah0 lr.length uch0, .slice tah0 pr.length tch0] 30)) b7_)
  clear bE c1_0 c1_1 c1_2 Rw0_6_ Rg0_6_ Xw0_6_ Xg0_6_ Rh0_6_ b7_ B7_ T6_
  have c0_0 : w7_.cell? ⟨w2_.heap.size, 0, none⟩ = some (.int .i8 Nr) := cell_of_row _ _ 0 _ _ _ Xg0_7_.out
  have c0_1 : w7_.cell? ⟨w2_.heap.size, 1, none⟩ = some (.slice uag0 lr.length ucg0) := cell_of_row _ _ 1 _ _ _ Xg0_7_.out
  have c0_2 : w7_.cell? ⟨w2_.heap.size, 2, none⟩ = some (.slice tag0 pr.length tcg0) := cell_of_row _ _ 2 _ _ _ Xg0_7_.out
  go_wp2_with fail
  refine (heldNetwork_r _ _ lr.length pr.length Nr _ _ (1) _ Rg0_7_.out (by omega) (by omega) hr0 hrp0).mono ?_
  rintro e w8_ ⟨rfl, b8_⟩
  have n8_ : w7_.heap.size ≤ w8_.heap.size := b8_.size
  have T8_ : Below w.heap.size w w8_ := kTrans T7_ b8_
  have Rw0_8_ := Lib.hid (Rw0_7_.out.below b8_)
  have Rg0_8_ := Lib.hid (Rg0_7_.out.below b8_)
  have Xw0_8_ := Lib.hid (blk_below Xw0_7_.out b8_)
  have Xg0_8_ := Lib.hid (blk_below Xg0_7_.out b8_)
  have Rh0_8_ := Lib.hid (Rh0_7_.out.below b8_)
  have Xh0_8_ := Lib.hid (blk_below Xh0_7_.out b8_)
  clear c0_0 c0_1 c0_2 Rw0_7_ Rg0_7_ Xw0_7_ Xg0_7_ Rh0_7_ Xh0_7_ b8_ T7_
  go_wp2
  go_ret
  exact ⟨rfl, T8_⟩

set_option maxRecDepth 100000 in
theorem lifted (os : Os) (started : os.Started) (H : Type) (enc : TypeId × Value → H) :
    ReturnsInHanded {} Try.checked os 5 .any (Rows.fnExactNetworkOfSpec.pre6 enc Try.prog Try.f5 Rows.fnExactNetworkOfRow.domain false) (Rows.fnExactNetworkOfSpec.post enc Try.prog Try.f5 false true false false) := by
  refine returnsInHanded_of_change (C := Try.checked) own started (by kernel_rfl) Try.func5
    (ChangeSpec.witness6 (enc := enc) (C := Try.checked) false ⟨#[], #[.int .i64 0, .int .u64 0], []⟩ 8 (by kernel_rfl) (by kernel_rfl) (by kernel_rfl) (by kernel_rfl)) ?_
  intro W base args ds gs before hval0 hW hcnd _
  have hval : ∀ (j : Nat) t v, Try.f5.params[j]? = some t → args[j]? = some v → Value.okWide Try.prog W .any base t v := hval0
  have hW' := hW
  obtain ⟨p, q, hA0, hV, rfl, hfz, hnd⟩ := hW
  have hA : DataW.TrodAll enc Try.prog W 0 (fun _ => true) true Try.f5.params.toList args.toList ds p := hA0
  rw [Try.params5] at hA hval
  have r_ := hA
  obtain ⟨v0, vs0, d0, ds0, pp0, qq0, hargs0, hds0, _, h0, r_⟩ := trodAll_cons r_
  obtain ⟨v1, vs1, d1, ds1, pp1, qq1, hargs1, hds1, _, h1, r_⟩ := trodAll_cons r_
  obtain ⟨hv_, hd_, _⟩ := trodAll_nil r_
  subst hv_ hd_
  subst hargs1 hds1
  obtain rfl : args = #[v0, v1] := by cases args; simp_all
  subst hds0
  obtain ⟨a0, rfl, rfl, rfl, w0⟩ := open_int Try.underlying2 (hval 0 2 v0 rfl rfl) h0
  obtain ⟨a1, rfl, rfl, rfl, w1⟩ := open_int Try.underlying39 (hval 1 39 v1 rfl rfl) h1
  refine (walk (w := W) a0 w0 a1 w1).mono fun e W' ⟨he, hg⟩ => ?_
  subst he
  exact ⟨_, rfl, law_post kids full Try.underlying4 (by decide) rfl rfl rfl hW' hg⟩

theorem over : Rows.fnExactNetworkOfRow.holds Try.pinned (OpenSpec.ofChange Rows.fnExactNetworkOfSpec) :=
  OpenClaim.holds_of_wide 5 Try.f5 rfl rfl rfl rfl rfl rfl rfl ⟨rfl, rfl, rfl, rfl, rfl⟩ rfl rfl rfl rfl rfl (by kernel_rfl) Try.func5 (by kernel_rfl)
    (of_decide_eq_true (by kernel_rfl)) (by unfold Func.isWrapper; first | (rw [if_pos (by decide +kernel)]; kernel_rfl) | (rw [if_neg (by decide +kernel)]; exact ⟨rfl, rfl⟩))
    (fun os started H enc _ => lifted os started H enc)

/-- The statement. -/
theorem proved : Rows.FnExactNetworkOfSaid :=
  over
#print axioms proved
end Go.Proofs.Ytdnjamlibnmpfaa.NetworkOf
