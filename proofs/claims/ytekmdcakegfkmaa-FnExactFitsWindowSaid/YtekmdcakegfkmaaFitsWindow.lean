/- 'FitsWindow' answers as its model at every argument. No conditions. -/
import Derived.Test.YtekmdcakegfkmaaFw
import Derived.Test.YtekmdcakegfkmaaG2
import Derived.Test.YtekmdcakegfkmaaG4
namespace Go.Proofs.Ytekmdcakegfkmaa.FitsWindow
open Go.ChangeShapes Go.WideShapes Go.ChangeAt Go.RowKit
set_option linter.unusedVariables false

set_option maxRecDepth 100000 in
set_option maxHeartbeats 4000000 in
theorem walk {w : World} (p : Wn) (hp : p.wf) (f : Fl) (hf : f.wf) :
    Calls Try.prog 5 #[.agg #[.int .u8 p.sides, .bool p.sure, .int .i64 p.early, .int .i64 p.late], .agg #[.int .i64 f.tick, .int .i8 f.frm, .int .i64 f.who]] w fun e w' => e = .returned (.bool true) ∧ Below w.heap.size w w' := by
  obtain ⟨R, hQ⟩ : ∃ R, fitB p f = R := ⟨_, rfl⟩
  have HQ := Lib.hid hQ
  clear hQ
  have b0 : Below w.heap.size w ((w.alloc (.cells #[.int .u8 p.sides, .bool p.sure, .int .i64 p.early, .int .i64 p.late] 49)).alloc (.cells #[.int .i64 f.tick, .int .i8 f.frm, .int .i64 f.who] 51)) := (kAlloc (kAlloc (Below.refl _ _) _) _)
  have hp0 := Lib.hid ((Below.heap_alloc _ (.cells #[.int .i64 f.tick, .int .i8 f.frm, .int .i64 f.who] 51) _ (by simp; try omega)).trans (heap_alloc_new w (.cells #[.int .u8 p.sides, .bool p.sure, .int .i64 p.early, .int .i64 p.late] 49)))
  have hq0 := Lib.hid (show ((w.alloc (.cells #[.int .u8 p.sides, .bool p.sure, .int .i64 p.early, .int .i64 p.late] 49)).alloc (.cells #[.int .i64 f.tick, .int .i8 f.frm, .int .i64 f.who] 51)).heap[w.heap.size + 1]? = some _ from by have h := heap_alloc_new (w.alloc (.cells #[.int .u8 p.sides, .bool p.sure, .int .i64 p.early, .int .i64 p.late] 49)) (.cells #[.int .i64 f.tick, .int .i8 f.frm, .int .i64 f.who] 51); simpa only [World.size_alloc] using h)
  go_enter Try.func5, Try.ntmps5
  go_wp2_with fail
  generalize ((w.alloc (.cells #[.int .u8 p.sides, .bool p.sure, .int .i64 p.early, .int .i64 p.late] 49)).alloc (.cells #[.int .i64 f.tick, .int .i8 f.frm, .int .i64 f.who] 51)) = W0 at *
  have cp_0 : W0.cell? ⟨w.heap.size, 0, none⟩ = some (.int .u8 p.sides) := cell_of_row _ _ 0 _ _ _ hp0.out
  have cp_1 : W0.cell? ⟨w.heap.size, 1, none⟩ = some (.bool p.sure) := cell_of_row _ _ 1 _ _ _ hp0.out
  have cp_2 : W0.cell? ⟨w.heap.size, 2, none⟩ = some (.int .i64 p.early) := cell_of_row _ _ 2 _ _ _ hp0.out
  have cp_3 : W0.cell? ⟨w.heap.size, 3, none⟩ = some (.int .i64 p.late) := cell_of_row _ _ 3 _ _ _ hp0.out
  have cq_0 : W0.cell? ⟨w.heap.size + 1, 0, none⟩ = some (.int .i64 f.tick) := cell_of_row _ _ 0 _ _ _ hq0.out
  have cq_1 : W0.cell? ⟨w.heap.size + 1, 1, none⟩ = some (.int .i8 f.frm) := cell_of_row _ _ 1 _ _ _ hq0.out
  have cq_2 : W0.cell? ⟨w.heap.size + 1, 2, none⟩ = some (.int .i64 f.who) := cell_of_row _ _ 2 _ _ _ hq0.out
  have lp_ := blk_lt hp0.out
  have lq_ := blk_lt hq0.out
  refine wp_region_class (fun w' => Below W0.heap.size W0 w') (by kernel_rfl) (by kernel_rfl) (Below.drew (Below.refl _ _)) ?_
  repeat (first
    | go_big_quiet_skip
    | (go_big_quiet_want; go_big_quiet_op; go_big_quiet_on)
    | (refine wpQuiet_step (fun K hK => ?_)
       go_simp
       refine hK _ ?_
       clear hK K)
    | (refine wpQuiet_step (fun K hK => ?_)
       go_simp
       apply Exists.intro
       refine ⟨fun w1 hw1 => ?_, hK _ ?_⟩
       · first
         | exact rfl
         | (go_at_call 30
            (with_reducible refine (toWindow_any p _).mono ?_)
            exact fun e w2 h => ⟨h.1, kTrans hw1 h.2⟩)
         | (go_at_call 31
            (with_reducible refine (toFall_any f _).mono ?_)
            exact fun e w2 h => ⟨h.1, kTrans hw1 h.2⟩)
         | (go_at_call 29
            (with_reducible refine (specFitsWindow_any p f _ hp hf R HQ.out).mono ?_)
            exact fun e w2 h => ⟨h.1, kTrans hw1 h.2⟩)
         | (
            have dp_0 := (hw1.cell (p := ⟨w.heap.size, 0, none⟩) lp_).trans cp_0
            have dp_1 := (hw1.cell (p := ⟨w.heap.size, 1, none⟩) lp_).trans cp_1
            have dp_2 := (hw1.cell (p := ⟨w.heap.size, 2, none⟩) lp_).trans cp_2
            have dp_3 := (hw1.cell (p := ⟨w.heap.size, 3, none⟩) lp_).trans cp_3
            have dq_0 := (hw1.cell (p := ⟨w.heap.size + 1, 0, none⟩) lq_).trans cq_0
            have dq_1 := (hw1.cell (p := ⟨w.heap.size + 1, 1, none⟩) lq_).trans cq_1
            have dq_2 := (hw1.cell (p := ⟨w.heap.size + 1, 2, none⟩) lq_).trans cq_2
            go_simp
            exact rfl)
       clear hK K))
  refine wpQuiet_nil ?_
  intro w3 hw3
  have T3 := kTrans b0 hw3
  have hp3 := Lib.hid (blk_below hp0.out hw3)
  have hq3 := Lib.hid (blk_below hq0.out hw3)
  clear hw3 b0 hp0 hq0 lp_ lq_ cp_0 cp_1 cp_2 cp_3 cq_0 cq_1 cq_2
  go_wp2_with fail
  have cp_0 : w3.cell? ⟨w.heap.size, 0, none⟩ = some (.int .u8 p.sides) := cell_of_row _ _ 0 _ _ _ hp3.out
  have cp_1 : w3.cell? ⟨w.heap.size, 1, none⟩ = some (.bool p.sure) := cell_of_row _ _ 1 _ _ _ hp3.out
  have cp_2 : w3.cell? ⟨w.heap.size, 2, none⟩ = some (.int .i64 p.early) := cell_of_row _ _ 2 _ _ _ hp3.out
  have cp_3 : w3.cell? ⟨w.heap.size, 3, none⟩ = some (.int .i64 p.late) := cell_of_row _ _ 3 _ _ _ hp3.out
  have cq_0 : w3.cell? ⟨w.heap.size + 1, 0, none⟩ = some (.int .i64 f.tick) := cell_of_row _ _ 0 _ _ _ hq3.out
  have cq_1 : w3.cell? ⟨w.heap.size + 1, 1, none⟩ = some (.int .i8 f.frm) := cell_of_row _ _ 1 _ _ _ hq3.out
  have cq_2 : w3.cell? ⟨w.heap.size + 1, 2, none⟩ = some (.int .i64 f.who) := cell_of_row _ _ 2 _ _ _ hq3.out
  have lp_ := blk_lt hp3.out
  have lq_ := blk_lt hq3.out
  refine wp_region_class (fun w' => Below w3.heap.size w3 w') (by kernel_rfl) (by kernel_rfl) (Below.drew (Below.refl _ _)) ?_
  repeat (first
    | go_big_quiet_skip
    | (go_big_quiet_want; go_big_quiet_op; go_big_quiet_on)
    | (refine wpQuiet_step (fun K hK => ?_)
       go_simp
       refine hK _ ?_
       clear hK K)
    | (refine wpQuiet_step (fun K hK => ?_)
       go_simp
       apply Exists.intro
       refine ⟨fun w1 hw1 => ?_, hK _ ?_⟩
       · first
         | exact rfl
         | (go_at_call 30
            (with_reducible refine (toWindow_any p _).mono ?_)
            exact fun e w2 h => ⟨h.1, kTrans hw1 h.2⟩)
         | (go_at_call 31
            (with_reducible refine (toFall_any f _).mono ?_)
            exact fun e w2 h => ⟨h.1, kTrans hw1 h.2⟩)
         | (go_at_call 32
            (with_reducible refine (implFitsWindow_any p f _ hp hf R HQ.out).mono ?_)
            exact fun e w2 h => ⟨h.1, kTrans hw1 h.2⟩)
         | (
            have dp_0 := (hw1.cell (p := ⟨w.heap.size, 0, none⟩) lp_).trans cp_0
            have dp_1 := (hw1.cell (p := ⟨w.heap.size, 1, none⟩) lp_).trans cp_1
            have dp_2 := (hw1.cell (p := ⟨w.heap.size, 2, none⟩) lp_).trans cp_2
            have dp_3 := (hw1.cell (p := ⟨w.heap.size, 3, none⟩) lp_).trans cp_3
            have dq_0 := (hw1.cell (p := ⟨w.heap.size + 1, 0, none⟩) lq_).trans cq_0
            have dq_1 := (hw1.cell (p := ⟨w.heap.size + 1, 1, none⟩) lq_).trans cq_1
            have dq_2 := (hw1.cell (p := ⟨w.heap.size + 1, 2, none⟩) lq_).trans cq_2
            go_simp
            exact rfl)
       clear hK K))
  refine wpQuiet_nil ?_
  intro w4 hw4
  have T4 := kTrans T3 hw4
  clear hw4 T3 hp3 hq3 lp_ lq_ cp_0 cp_1 cp_2 cp_3 cq_0 cq_1 cq_2
  go_wp2
  go_ret
  exact ⟨rfl, T4⟩

set_option maxRecDepth 100000 in
theorem lifted (os : Os) (started : os.Started) (H : Type) (enc : TypeId × Value → H) :
    ReturnsInHanded {} Try.checked os 5 .any (Rows.fnExactFitsWindowSpec.pre6 enc Try.prog Try.f5 Rows.fnExactFitsWindowRow.domain false) (Rows.fnExactFitsWindowSpec.post enc Try.prog Try.f5 false true false false) := by
  refine returnsInHanded_of_change (C := Try.checked) own started (by kernel_rfl) Try.func5
    (ChangeSpec.witness6 (enc := enc) (C := Try.checked) false ⟨#[], #[.agg #[.int .u8 0, .bool false, .int .i64 0, .int .i64 0], .agg #[.int .i64 0, .int .i8 0, .int .i64 0]], []⟩ 8 (by kernel_rfl) (by kernel_rfl) (by kernel_rfl) (by kernel_rfl)) ?_
  intro W base args ds gs before hval0 hW hcnd _
  have hval : ∀ (j : Nat) t v, Try.f5.params[j]? = some t → args[j]? = some v → Value.okWide Try.prog W .any base t v := hval0
  have hW' := hW
  obtain ⟨p, q, hA0, hV, rfl, hfz, hnd⟩ := hW
  have hA : DataW.TrodAll enc Try.prog W 0 (fun _ => true) true Try.f5.params.toList args.toList ds p := hA0
  rw [Try.params5] at hA hval
  have r_ := hA
  obtain ⟨v0, vs0, d0, ds0, pp0, qq0, hargs0, hds0, _, h0, r_⟩ := trodAll_cons r_
  obtain ⟨v1, vs1, d1, ds1, pp1, qq1, hargs1, hds1, _, h1, r_⟩ := trodAll_cons r_
  obtain ⟨hv_, hd_, _⟩ := trodAll_nil r_
  subst hv_ hd_
  subst hargs1 hds1
  obtain rfl : args = #[v0, v1] := by cases args; simp_all
  subst hds0
  obtain ⟨p0, rfl, b0⟩ := open_window Wn_flat agg_window (hval 0 49 v0 rfl rfl) h0
  obtain ⟨p1, rfl, b1⟩ := open_fall Fl_flat agg_fall (hval 1 51 v1 rfl rfl) h1
  refine (walk (w := W) p0 b0 p1 b1).mono fun e W' ⟨he, hg⟩ => ?_
  subst he
  exact ⟨_, rfl, law_post kids full Try.underlying4 (by decide) rfl rfl rfl hW' hg⟩

theorem over : Rows.fnExactFitsWindowRow.holds Try.pinned (OpenSpec.ofChange Rows.fnExactFitsWindowSpec) :=
  OpenClaim.holds_of_wide 5 Try.f5 rfl rfl rfl rfl rfl rfl rfl ⟨rfl, rfl, rfl, rfl, rfl⟩ rfl rfl rfl rfl rfl (by kernel_rfl) Try.func5 (by kernel_rfl)
    (of_decide_eq_true (by kernel_rfl)) (by unfold Func.isWrapper; first | (rw [if_pos (by decide +kernel)]; kernel_rfl) | (rw [if_neg (by decide +kernel)]; exact ⟨rfl, rfl⟩))
    (fun os started H enc _ => lifted os started H enc)

/-- The statement. -/
theorem proved : Rows.FnExactFitsWindowSaid :=
  over
#print axioms proved
end Go.Proofs.Ytekmdcakegfkmaa.FitsWindow
