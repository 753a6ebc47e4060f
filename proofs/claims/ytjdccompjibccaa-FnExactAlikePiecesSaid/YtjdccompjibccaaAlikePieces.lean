/- 'AlikePieces' answers as its model at every argument. No conditions. -/
import Derived.Test.YtjdccompjibccaaAlI
namespace Go.Proofs.Ytjdccompjibccaa.AlikePieces
open Go.ChangeShapes Go.WideShapes Go.ChangeAt Go.RowKit
set_option linter.unusedVariables false

set_option maxRecDepth 100000 in
set_option maxHeartbeats 4000000 in
theorem walk {w : World} (p : Pc) (hp : p.in8) (q : Pc) (hq : q.in8) :
    Calls Try.prog 3 #[.agg #[.int .i8 p.x, .int .i8 p.y, .int .i8 p.kind, .int .i8 p.turn, .int .i8 p.delay], .agg #[.int .i8 q.x, .int .i8 q.y, .int .i8 q.kind, .int .i8 q.turn, .int .i8 q.delay]] w fun e w' => e = .returned (.bool true) ∧ Below w.heap.size w w' := by
  obtain ⟨R, C, hQ⟩ : ∃ R C, alikeQ p q = (R, C) := ⟨_, _, rfl⟩
  have HQ := Lib.hid hQ
  clear hQ
  have b0 : Below w.heap.size w ((w.alloc (.cells #[.int .i8 p.x, .int .i8 p.y, .int .i8 p.kind, .int .i8 p.turn, .int .i8 p.delay] 25)).alloc (.cells #[.int .i8 q.x, .int .i8 q.y, .int .i8 q.kind, .int .i8 q.turn, .int .i8 q.delay] 25)) := (kAlloc (kAlloc (Below.refl _ _) _) _)
  have hp0 := Lib.hid ((Below.heap_alloc _ (.cells #[.int .i8 q.x, .int .i8 q.y, .int .i8 q.kind, .int .i8 q.turn, .int .i8 q.delay] 25) _ (by simp; try omega)).trans (heap_alloc_new w (.cells #[.int .i8 p.x, .int .i8 p.y, .int .i8 p.kind, .int .i8 p.turn, .int .i8 p.delay] 25)))
  have hq0 := Lib.hid (show ((w.alloc (.cells #[.int .i8 p.x, .int .i8 p.y, .int .i8 p.kind, .int .i8 p.turn, .int .i8 p.delay] 25)).alloc (.cells #[.int .i8 q.x, .int .i8 q.y, .int .i8 q.kind, .int .i8 q.turn, .int .i8 q.delay] 25)).heap[w.heap.size + 1]? = some _ from by have h := heap_alloc_new (w.alloc (.cells #[.int .i8 p.x, .int .i8 p.y, .int .i8 p.kind, .int .i8 p.turn, .int .i8 p.delay] 25)) (.cells #[.int .i8 q.x, .int .i8 q.y, .int .i8 q.kind, .int .i8 q.turn, .int .i8 q.delay] 25); simpa only [World.size_alloc] using h)
  go_enter Try.func3, Try.ntmps3
  go_wp2_with fail
  generalize ((w.alloc (.cells #[.int .i8 p.x, .int .i8 p.y, .int .i8 p.kind, .int .i8 p.turn, .int .i8 p.delay] 25)).alloc (.cells #[.int .i8 q.x, .int .i8 q.y, .int .i8 q.kind, .int .i8 q.turn, .int .i8 q.delay] 25)) = W0 at *
  have cp_0 : W0.cell? ⟨w.heap.size, 0, none⟩ = some (.int .i8 p.x) := cell_of_row _ _ 0 _ _ _ hp0.out
  have cp_1 : W0.cell? ⟨w.heap.size, 1, none⟩ = some (.int .i8 p.y) := cell_of_row _ _ 1 _ _ _ hp0.out
  have cp_2 : W0.cell? ⟨w.heap.size, 2, none⟩ = some (.int .i8 p.kind) := cell_of_row _ _ 2 _ _ _ hp0.out
  have cp_3 : W0.cell? ⟨w.heap.size, 3, none⟩ = some (.int .i8 p.turn) := cell_of_row _ _ 3 _ _ _ hp0.out
  have cp_4 : W0.cell? ⟨w.heap.size, 4, none⟩ = some (.int .i8 p.delay) := cell_of_row _ _ 4 _ _ _ hp0.out
  have cq_0 : W0.cell? ⟨w.heap.size + 1, 0, none⟩ = some (.int .i8 q.x) := cell_of_row _ _ 0 _ _ _ hq0.out
  have cq_1 : W0.cell? ⟨w.heap.size + 1, 1, none⟩ = some (.int .i8 q.y) := cell_of_row _ _ 1 _ _ _ hq0.out
  have cq_2 : W0.cell? ⟨w.heap.size + 1, 2, none⟩ = some (.int .i8 q.kind) := cell_of_row _ _ 2 _ _ _ hq0.out
  have cq_3 : W0.cell? ⟨w.heap.size + 1, 3, none⟩ = some (.int .i8 q.turn) := cell_of_row _ _ 3 _ _ _ hq0.out
  have cq_4 : W0.cell? ⟨w.heap.size + 1, 4, none⟩ = some (.int .i8 q.delay) := cell_of_row _ _ 4 _ _ _ hq0.out
  have lp_ := blk_lt hp0.out
  have lq_ := blk_lt hq0.out
  refine wp_region_classA (fun w' => Below W0.heap.size W0 w') (by kernel_rfl) (by kernel_rfl) (Below.drew (Below.refl _ _)) ?_
  repeat (first
    | go_big_quiet_skip
    | (go_big_quiet_want; go_big_quiet_op; go_big_quiet_on)
    | (refine wpQuiet_step (fun K hK => ?_)
       go_simp
       refine hK _ ?_
       clear hK K)
    | (refine wpQuiet_step (fun K hK => ?_)
       go_simp
       apply Exists.intro
       refine ⟨fun w1 hw1 => ?_, hK _ ?_⟩
       · first
         | exact rfl
         | (go_at_call 5
            (with_reducible refine (toPiece_any p _).mono ?_)
            exact fun e w2 h => ⟨h.1, kTrans hw1 h.2⟩)
         | (go_at_call 5
            (with_reducible refine (toPiece_any q _).mono ?_)
            exact fun e w2 h => ⟨h.1, kTrans hw1 h.2⟩)
         | (go_at_call 4
            (with_reducible refine (specAlike_any p q _ hp hq R C HQ.out).mono ?_)
            exact fun e w2 h => ⟨h.1, kTrans hw1 h.2⟩)
         | (have dp_0 := (hw1.cell (p := ⟨w.heap.size, 0, none⟩) lp_).trans cp_0
            have dp_1 := (hw1.cell (p := ⟨w.heap.size, 1, none⟩) lp_).trans cp_1
            have dp_2 := (hw1.cell (p := ⟨w.heap.size, 2, none⟩) lp_).trans cp_2
            have dp_3 := (hw1.cell (p := ⟨w.heap.size, 3, none⟩) lp_).trans cp_3
            have dp_4 := (hw1.cell (p := ⟨w.heap.size, 4, none⟩) lp_).trans cp_4
            have dq_0 := (hw1.cell (p := ⟨w.heap.size + 1, 0, none⟩) lq_).trans cq_0
            have dq_1 := (hw1.cell (p := ⟨w.heap.size + 1, 1, none⟩) lq_).trans cq_1
            have dq_2 := (hw1.cell (p := ⟨w.heap.size + 1, 2, none⟩) lq_).trans cq_2
            have dq_3 := (hw1.cell (p := ⟨w.heap.size + 1, 3, none⟩) lq_).trans cq_3
            have dq_4 := (hw1.cell (p := ⟨w.heap.size + 1, 4, none⟩) lq_).trans cq_4
            go_simp
            exact rfl)
       clear hK K))
  refine wpQuiet_nil ?_
  intro w3 hw3
  have T3 := kTrans b0 hw3
  have hp3 := Lib.hid (blk_below hp0.out hw3)
  have hq3 := Lib.hid (blk_below hq0.out hw3)
  clear hw3 b0 hp0 hq0 lp_ lq_ cp_0 cp_1 cp_2 cp_3 cp_4 cq_0 cq_1 cq_2 cq_3 cq_4
  go_wp2_with fail
  have cp_0 : w3.cell? ⟨w.heap.size, 0, none⟩ = some (.int .i8 p.x) := cell_of_row _ _ 0 _ _ _ hp3.out
  have cp_1 : w3.cell? ⟨w.heap.size, 1, none⟩ = some (.int .i8 p.y) := cell_of_row _ _ 1 _ _ _ hp3.out
  have cp_2 : w3.cell? ⟨w.heap.size, 2, none⟩ = some (.int .i8 p.kind) := cell_of_row _ _ 2 _ _ _ hp3.out
  have cp_3 : w3.cell? ⟨w.heap.size, 3, none⟩ = some (.int .i8 p.turn) := cell_of_row _ _ 3 _ _ _ hp3.out
  have cp_4 : w3.cell? ⟨w.heap.size, 4, none⟩ = some (.int .i8 p.delay) := cell_of_row _ _ 4 _ _ _ hp3.out
  have cq_0 : w3.cell? ⟨w.heap.size + 1, 0, none⟩ = some (.int .i8 q.x) := cell_of_row _ _ 0 _ _ _ hq3.out
  have cq_1 : w3.cell? ⟨w.heap.size + 1, 1, none⟩ = some (.int .i8 q.y) := cell_of_row _ _ 1 _ _ _ hq3.out
  have cq_2 : w3.cell? ⟨w.heap.size + 1, 2, none⟩ = some (.int .i8 q.kind) := cell_of_row _ _ 2 _ _ _ hq3.out
  have cq_3 : w3.cell? ⟨w.heap.size + 1, 3, none⟩ = some (.int .i8 q.turn) := cell_of_row _ _ 3 _ _ _ hq3.out
  have cq_4 : w3.cell? ⟨w.heap.size + 1, 4, none⟩ = some (.int .i8 q.delay) := cell_of_row _ _ 4 _ _ _ hq3.out
  have lp_ := blk_lt hp3.out
  have lq_ := blk_lt hq3.out
  refine wp_region_classA (fun w' => Below w3.heap.size w3 w') (by kernel_rfl) (by kernel_rfl) (Below.drew (Below.refl _ _)) ?_
  repeat (first
    | go_big_quiet_skip
    | (go_big_quiet_want; go_big_quiet_op; go_big_quiet_on)
    | (refine wpQuiet_step (fun K hK => ?_)
       go_simp
       refine hK _ ?_
       clear hK K)
    | (refine wpQuiet_step (fun K hK => ?_)
       go_simp
       apply Exists.intro
       refine ⟨fun w1 hw1 => ?_, hK _ ?_⟩
       · first
         | exact rfl
         | (go_at_call 5
            (with_reducible refine (toPiece_any p _).mono ?_)
            exact fun e w2 h => ⟨h.1, kTrans hw1 h.2⟩)
         | (go_at_call 5
            (with_reducible refine (toPiece_any q _).mono ?_)
            exact fun e w2 h => ⟨h.1, kTrans hw1 h.2⟩)
         | (go_at_call 6
            (with_reducible refine (implAlike_any p q _ hp hq R C HQ.out).mono ?_)
            exact fun e w2 h => ⟨h.1, kTrans hw1 h.2⟩)
         | (have dp_0 := (hw1.cell (p := ⟨w.heap.size, 0, none⟩) lp_).trans cp_0
            have dp_1 := (hw1.cell (p := ⟨w.heap.size, 1, none⟩) lp_).trans cp_1
            have dp_2 := (hw1.cell (p := ⟨w.heap.size, 2, none⟩) lp_).trans cp_2
            have dp_3 := (hw1.cell (p := ⟨w.heap.size, 3, none⟩) lp_).trans cp_3
            have dp_4 := (hw1.cell (p := ⟨w.heap.size, 4, none⟩) lp_).trans cp_4
            have dq_0 := (hw1.cell (p := ⟨w.heap.size + 1, 0, none⟩) lq_).trans cq_0
            have dq_1 := (hw1.cell (p := ⟨w.heap.size + 1, 1, none⟩) lq_).trans cq_1
            have dq_2 := (hw1.cell (p := ⟨w.heap.size + 1, 2, none⟩) lq_).trans cq_2
            have dq_3 := (hw1.cell (p := ⟨w.heap.size + 1, 3, none⟩) lq_).trans cq_3
            have dq_4 := (hw1.cell (p := ⟨w.heap.size + 1, 4, none⟩) lq_).trans cq_4
            go_simp
            exact rfl)
       clear hK K))
  refine wpQuiet_nil ?_
  intro w4 hw4
  have T4 := kTrans T3 hw4
  clear hw4 T3 hp3 hq3 lp_ lq_ cp_0 cp_1 cp_2 cp_3 cp_4 cq_0 cq_1 cq_2 cq_3 cq_4
  go_wp2
  go_ret
  exact ⟨rfl, T4⟩

set_option maxRecDepth 100000 in
theorem lifted (os : Os) (started : os.Started) (H : Type) (enc : TypeId × Value → H) :
    ReturnsInHanded {} Try.checked os 3 .any (Rows.fnExactAlikePiecesSpec.pre6 enc Try.prog Try.f3 Rows.fnExactAlikePiecesRow.domain false) (Rows.fnExactAlikePiecesSpec.post enc Try.prog Try.f3 false true false false) := by
  refine returnsInHanded_of_change (C := Try.checked) own started (by kernel_rfl) Try.func3
    (ChangeSpec.witness6 (enc := enc) (C := Try.checked) false ⟨#[], #[.agg #[.int .i8 0, .int .i8 0, .int .i8 0, .int .i8 0, .int .i8 0], .agg #[.int .i8 0, .int .i8 0, .int .i8 0, .int .i8 0, .int .i8 0]], []⟩ 8 (by kernel_rfl) (by kernel_rfl) (by kernel_rfl) (by kernel_rfl)) ?_
  intro W base args ds gs before hval0 hW hcnd _
  have hval : ∀ (j : Nat) t v, Try.f3.params[j]? = some t → args[j]? = some v → Value.okWide Try.prog W .any base t v := hval0
  have hW' := hW
  obtain ⟨p, q, hA0, hV, rfl, hfz, hnd⟩ := hW
  have hA : DataW.TrodAll enc Try.prog W 0 (fun _ => true) true Try.f3.params.toList args.toList ds p := hA0
  rw [Try.params3] at hA hval
  have r_ := hA
  obtain ⟨v0, vs0, d0, ds0, pp0, qq0, hargs0, hds0, _, h0, r_⟩ := trodAll_cons r_
  obtain ⟨v1, vs1, d1, ds1, pp1, qq1, hargs1, hds1, _, h1, r_⟩ := trodAll_cons r_
  obtain ⟨hv_, hd_, _⟩ := trodAll_nil r_
  subst hv_ hd_
  subst hargs1 hds1
  obtain rfl : args = #[v0, v1] := by cases args; simp_all
  subst hds0
  obtain ⟨p0, rfl, b0⟩ := open_piece flat_piece agg_piece (hval 0 25 v0 rfl rfl) h0
  obtain ⟨p1, rfl, b1⟩ := open_piece flat_piece agg_piece (hval 1 25 v1 rfl rfl) h1
  refine (walk (w := W) p0 b0 p1 b1).mono fun e W' ⟨he, hg⟩ => ?_
  subst he
  exact ⟨_, rfl, law_post kids full Try.underlying4 (by decide) rfl rfl rfl hW' hg⟩

theorem over : Rows.fnExactAlikePiecesRow.holds Try.pinned (OpenSpec.ofChange Rows.fnExactAlikePiecesSpec) :=
  OpenClaim.holds_of_wide 3 Try.f3 rfl rfl rfl rfl rfl rfl rfl ⟨rfl, rfl, rfl, rfl, rfl⟩ rfl rfl rfl rfl rfl (by kernel_rfl) Try.func3 (by kernel_rfl)
    (of_decide_eq_true (by kernel_rfl)) (by unfold Func.isWrapper; first | (rw [if_pos (by decide +kernel)]; kernel_rfl) | (rw [if_neg (by decide +kernel)]; exact ⟨rfl, rfl⟩))
    (fun os started H enc _ => lifted os started H enc)

/-- The statement. -/
theorem proved : Rows.FnExactAlikePiecesSaid :=
  over
#print axioms proved
end Go.Proofs.Ytjdccompjibccaa.AlikePieces
