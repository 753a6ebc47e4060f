/- 'ValidPiece' answers as its model at every argument. No conditions. -/
import Derived.Test.YtmmllagjeeinoaaC1b
namespace Go.Proofs.Ytmmllagjeeinoaa.ValidPiece
open Go.ChangeShapes Go.WideShapes Go.ChangeAt Go.RowKit
set_option linter.unusedVariables false

set_option maxHeartbeats 1000000 in
theorem walk (p : Pc) (hp : p.in8) (w : World) :
    Calls Try.prog 6 #[.agg #[.int .i8 p.x, .int .i8 p.y, .int .i8 p.kind, .int .i8 p.turn, .int .i8 p.delay]] w fun e w' => e = .returned (.bool true) ∧ Below w.heap.size w w' := by
  obtain ⟨r, hr⟩ : ∃ r, r = p.ok := ⟨_, rfl⟩
  have Hr := Lib.hid hr
  clear hr
  go_enter Try.func6, Try.ntmps6
  go_wp2_with fail
  refine (toPiece_any p _).mono ?_
  rintro e w1 ⟨rfl, hb1⟩
  go_wp2_with fail
  refine (specValidPiece_any p _ hp r Hr.out).mono ?_
  rintro e w2 ⟨rfl, hb2⟩
  have hz1 : w.heap.size + 1 ≤ w1.heap.size := by have := hb1.size; simp at this; omega
  have hz2 : w1.heap.size ≤ w2.heap.size := hb2.size
  have pa := ((PcAt.box w p 35).below hb1 (by simp)).below hb2 (by omega)
  obtain ⟨c0, c1, c2, c3, c4⟩ := pa
  go_wp2_with fail
  refine (toPiece_any p _).mono ?_
  rintro e w3 ⟨rfl, hb3⟩
  go_wp2_with fail
  refine (implValidPiece_any p _ hp r Hr.out).mono ?_
  rintro e w4 ⟨rfl, hb4⟩
  cases r
  all_goals
    go_wp2
    go_ret
    exact ⟨rfl, by repeat (first | with_reducible exact Below.refl _ _ | (with_reducible refine kSet ?_ ?hB _; case hB => (simp; try omega)) | with_reducible refine kAlloc ?_ _ | with_reducible refine Below.drew ?_ | with_reducible refine kTrans ?_ (by assumption))⟩

set_option maxRecDepth 100000 in
theorem lifted (os : Os) (started : os.Started) (H : Type) (enc : TypeId × Value → H) :
    ReturnsInHanded {} Try.checked os 6 .any (Rows.fnExactValidPieceSpec.pre6 enc Try.prog Try.f6 Rows.fnExactValidPieceRow.domain false) (Rows.fnExactValidPieceSpec.post enc Try.prog Try.f6 false true false false) := by
  refine returnsInHanded_of_change (C := Try.checked) own started (by kernel_rfl) Try.func6
    (ChangeSpec.witness6 (enc := enc) (C := Try.checked) false ⟨#[], #[.agg #[.int .i8 0, .int .i8 0, .int .i8 0, .int .i8 0, .int .i8 0]], []⟩ 8 (by kernel_rfl) (by kernel_rfl) (by kernel_rfl) (by kernel_rfl)) ?_
  intro W base args ds gs before hval0 hW hcnd _
  have hval : ∀ (j : Nat) t v, Try.f6.params[j]? = some t → args[j]? = some v → Value.okWide Try.prog W .any base t v := hval0
  have hW' := hW
  obtain ⟨p, q, hA0, hV, rfl, hfz, hnd⟩ := hW
  have hA : DataW.TrodAll enc Try.prog W 0 (fun _ => true) true Try.f6.params.toList args.toList ds p := hA0
  rw [Try.params6] at hA hval
  have r_ := hA
  obtain ⟨v0, vs0, d0, ds0, pp0, qq0, hargs0, hds0, _, h0, r_⟩ := trodAll_cons r_
  obtain ⟨hv_, hd_, _⟩ := trodAll_nil r_
  subst hv_ hd_
  obtain rfl : args = #[v0] := by cases args; simp_all
  subst hds0
  obtain ⟨p0, rfl, b0⟩ := open_piece (hval 0 35 v0 rfl rfl) h0
  refine (walk p0 b0 W).mono fun e W' ⟨he, hg⟩ => ?_
  subst he
  exact ⟨_, rfl, law_post kids full Try.underlying4 (by decide) rfl rfl rfl hW' hg⟩

theorem over : Rows.fnExactValidPieceRow.holds Try.pinned (OpenSpec.ofChange Rows.fnExactValidPieceSpec) :=
  OpenClaim.holds_of_wide 6 Try.f6 rfl rfl rfl rfl rfl rfl rfl ⟨rfl, rfl, rfl, rfl, rfl⟩ rfl rfl rfl rfl rfl (by kernel_rfl) Try.func6 (by kernel_rfl)
    (of_decide_eq_true (by kernel_rfl)) (by unfold Func.isWrapper; first | (rw [if_pos (by decide +kernel)]; kernel_rfl) | (rw [if_neg (by decide +kernel)]; exact ⟨rfl, rfl⟩))
    (fun os started H enc _ => lifted os started H enc)

/-- The statement. -/
theorem proved : Rows.FnExactValidPieceSaid :=
  over
#print axioms proved
end Go.Proofs.Ytmmllagjeeinoaa.ValidPiece
