/- 'TakePiece' answers as its model at every argument. No conditions. -/
import Derived.Test.YtlmnoopoohdbkaaTakePieceW
namespace Go.Proofs.Ytlmnoopoohdbkaa.TakePiece
open Go.ChangeShapes Go.WideShapes Go.ChangeAt Go.RowKit
set_option linter.unusedVariables false

set_option maxRecDepth 100000 in
theorem lifted (os : Os) (started : os.Started) (H : Type) (enc : TypeId × Value → H) :
    ReturnsInHanded {} Try.checked os 3 .any (Rows.fnExactTakePieceSpec.pre6 enc Try.prog Try.f3 Rows.fnExactTakePieceRow.domain false) (Rows.fnExactTakePieceSpec.post enc Try.prog Try.f3 false true false false) := by
  refine returnsInHanded_of_change (C := Try.checked) own started (by kernel_rfl) Try.func3
    (ChangeSpec.witness6 (enc := enc) (C := Try.checked) false ⟨#[], #[.agg #[.int .i8 0, .int .i8 0, .slice none 0 0], .agg #[.int .i8 0, .int .i8 0]], []⟩ 8 (by kernel_rfl) (by kernel_rfl) (by kernel_rfl) (by kernel_rfl)) ?_
  intro W base args ds gs before hval0 hW hcnd _
  have hval : ∀ (j : Nat) t v, Try.f3.params[j]? = some t → args[j]? = some v → Value.okWide Try.prog W .any base t v := hval0
  have hW' := hW
  obtain ⟨p, q, hA0, hV, rfl, hfz, hnd⟩ := hW
  have hA : DataW.TrodAll enc Try.prog W 0 (fun _ => true) true Try.f3.params.toList args.toList ds p := hA0
  rw [Try.params3] at hA hval
  have r_ := hA
  obtain ⟨v0, vs0, d0, ds0, pp0, qq0, hargs0, hds0, _, h0, r_⟩ := trodAll_cons r_
  obtain ⟨v1, vs1, d1, ds1, pp1, qq1, hargs1, hds1, _, h1, r_⟩ := trodAll_cons r_
  obtain ⟨hv_, hd_, _⟩ := trodAll_nil r_
  subst hv_ hd_
  subst hargs1 hds1
  obtain rfl : args = #[v0, v1] := by cases args; simp_all
  subst hds0
  obtain ⟨f0_, f1_, f2_, e1_, e2_, e3_, e4_, e5_⟩ := board_struct
  obtain ⟨wd0, hi0, s0, l0, rfl, bw0, bh0, sl0, al0, le0⟩ := open_board e1_ e2_ board_cells e3_ e4_ e5_ piece_cells piece_flat (hval 0 25 v0 rfl rfl) h0
  obtain ⟨x1, y1, rfl, bx1⟩ := open_cell flat_cell agg_cell (hval 1 26 v1 rfl rfl) h1
  refine (walk (w := W) wd0 hi0 s0 l0 bw0 bh0 sl0 al0 le0 x1 y1 bx1).mono fun e W' ⟨he, hg⟩ => ?_
  subst he
  exact ⟨_, rfl, law_post kids full Try.underlying4 (by decide) rfl rfl rfl hW' hg⟩

theorem over : Rows.fnExactTakePieceRow.holds Try.pinned (OpenSpec.ofChange Rows.fnExactTakePieceSpec) :=
  OpenClaim.holds_of_wide 3 Try.f3 rfl rfl rfl rfl rfl rfl rfl ⟨rfl, rfl, rfl, rfl, rfl⟩ rfl rfl rfl rfl rfl (by kernel_rfl) Try.func3 (by kernel_rfl)
    (of_decide_eq_true (by kernel_rfl)) (by unfold Func.isWrapper; first | (rw [if_pos (by decide +kernel)]; kernel_rfl) | (rw [if_neg (by decide +kernel)]; exact ⟨rfl, rfl⟩))
    (fun os started H enc _ => lifted os started H enc)

/-- The statement. -/
theorem proved : Rows.FnExactTakePieceSaid :=
  over
#print axioms proved
end Go.Proofs.Ytlmnoopoohdbkaa.TakePiece
