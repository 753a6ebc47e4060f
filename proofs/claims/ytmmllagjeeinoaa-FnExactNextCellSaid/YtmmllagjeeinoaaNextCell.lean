/- 'NextCell' answers as its model at every argument. No conditions. -/
import Derived.Test.YtmmllagjeeinoaaC1c
namespace Go.Proofs.Ytmmllagjeeinoaa.NextCell
open Go.ChangeShapes Go.WideShapes Go.ChangeAt Go.RowKit
set_option linter.unusedVariables false

/-- the code of a cell and a side, and the cell -/
def good (x y s : Int) : Prop := 0 ≤ s ∧ s ≤ 3 ∧ -100 ≤ x ∧ x ≤ 100 ∧ -100 ≤ y ∧ y ≤ 100

set_option maxHeartbeats 2000000 in
theorem spec_yes (x y s : Int) (w : World) (h : good x y s) :
    Calls Try.prog 15 #[.agg #[.int .i8 x, .int .i8 y], .int .i64 s] w fun e w' => e = .returned (.tuple #[.agg #[.int .i8 (stepX x s), .int .i8 (stepY y s)], .int .i64 0]) ∧ Below w.heap.size w w' := by
  obtain ⟨h1, h2, h3, h4, h5, h6⟩ := h
  go_enter Try.func15, Try.ntmps15
  go_wp2_with (first
    | (go_at_call 33; refine (l01Side_any _ _ true (by simp; omega)).mono ?_; rintro e w' ⟨rfl, rfl⟩)
    | (go_at_call 32; refine (l00In_yes _ _ _ _ (by omega) (by omega)).mono ?_; rintro e w' ⟨rfl, rfl⟩)
    | (go_at_call 36; refine (l01Next_any _ _ _ _ (by omega) (by omega) (by omega)).mono ?_; rintro e w1 ⟨rfl, hb⟩; obtain ⟨hc, hf⟩ := bcell hb; have hz : w.heap.size + 1 + 1 ≤ w1.heap.size := (by have := hb.size; simp at this; omega)))
  exact bodyPost_ret (v := .tuple #[.agg #[.int .i8 (stepX x s), .int .i8 (stepY y s)], .int .i64 0]) (by simp [results, Try.results15, go_sem, hc]) rfl ⟨rfl, by repeat (first | with_reducible exact Below.refl _ _ | (with_reducible refine kSet ?_ ?hB _; case hB => (simp; try omega)) | with_reducible refine kAlloc ?_ _ | with_reducible refine Below.drew ?_ | with_reducible refine kDrewN ?_ _ | with_reducible refine kTrans ?_ (by assumption))⟩

set_option maxHeartbeats 2000000 in
theorem impl_yes (x y s : Int) (w : World) (h : good x y s) :
    Calls Try.prog 17 #[.agg #[.int .i8 x, .int .i8 y], .int .i64 s] w fun e w' => e = .returned (.tuple #[.agg #[.int .i8 (stepX x s), .int .i8 (stepY y s)], .int .i64 0]) ∧ Below w.heap.size w w' := by
  obtain ⟨h1, h2, h3, h4, h5, h6⟩ := h
  go_enter Try.func17, Try.ntmps17
  go_wp2_with (first
    | (go_at_call 34; refine (isSide_any _ _ true (by simp; omega)).mono ?_; rintro e w' ⟨rfl, rfl⟩)
    | (go_at_call 37; refine (isNear_yes _ _ (by omega) (by omega)).mono ?_; rintro e w' ⟨rfl, rfl⟩)
    | (go_at_call 38; refine (step_any _ _ _ _ (by omega) (by omega) (by omega)).mono ?_; rintro e w1 ⟨rfl, hb⟩; obtain ⟨hc, hf⟩ := bcell hb; have hz : w.heap.size + 1 + 1 ≤ w1.heap.size := (by have := hb.size; simp at this; omega)))
  exact bodyPost_ret (v := .tuple #[.agg #[.int .i8 (stepX x s), .int .i8 (stepY y s)], .int .i64 0]) (by simp [results, Try.results17, go_sem, hc]) rfl ⟨rfl, by repeat (first | with_reducible exact Below.refl _ _ | (with_reducible refine kSet ?_ ?hB _; case hB => (simp; try omega)) | with_reducible refine kAlloc ?_ _ | with_reducible refine Below.drew ?_ | with_reducible refine kDrewN ?_ _ | with_reducible refine kTrans ?_ (by assumption))⟩

theorem parts (x y s : Int) (h : ¬ good x y s) : (s < 0 ∨ 3 < s) ∨ ((0 ≤ s ∧ s ≤ 3) ∧ (x < -100 ∨ 100 < x)) ∨ ((0 ≤ s ∧ s ≤ 3) ∧ (-100 ≤ x ∧ x ≤ 100) ∧ (y < -100 ∨ 100 < y)) := by
  unfold good at h
  omega

set_option maxHeartbeats 2000000 in
theorem spec_no (x y s : Int) (w : World) (hx : i8 x) (hy : i8 y) (h : ¬ good x y s) :
    Calls Try.prog 15 #[.agg #[.int .i8 x, .int .i8 y], .int .i64 s] w fun e w' => e = .returned (.tuple #[.agg #[.int .i8 0, .int .i8 0], .int .i64 2]) ∧ Below w.heap.size w w' := by
  unfold i8 at hx hy
  rcases parts x y s h with h1 | ⟨h1, h2⟩ | ⟨h1, h2, h3⟩
  · go_enter Try.func15, Try.ntmps15
    go_wp2_with (go_at_call 33; refine (l01Side_any _ _ false (by simp; omega)).mono ?_; rintro e w' ⟨rfl, rfl⟩)
    exact bodyPost_ret (v := .tuple #[.agg #[.int .i8 0, .int .i8 0], .int .i64 2]) (by simp [results, Try.results15, go_sem]) rfl ⟨rfl, by repeat (first | with_reducible exact Below.refl _ _ | (with_reducible refine kSet ?_ ?hB _; case hB => (simp; try omega)) | with_reducible refine kAlloc ?_ _ | with_reducible refine Below.drew ?_ | with_reducible refine kDrewN ?_ _ | with_reducible refine kTrans ?_ (by assumption))⟩
  · go_enter Try.func15, Try.ntmps15
    go_wp2_with (first
      | (go_at_call 33; refine (l01Side_any _ _ true (by simp; omega)).mono ?_; rintro e w' ⟨rfl, rfl⟩)
      | (go_at_call 32; refine (l00In_no _ _ _ _ (by omega)).mono ?_; rintro e w' ⟨rfl, rfl⟩))
    exact bodyPost_ret (v := .tuple #[.agg #[.int .i8 0, .int .i8 0], .int .i64 2]) (by simp [results, Try.results15, go_sem]) rfl ⟨rfl, by repeat (first | with_reducible exact Below.refl _ _ | (with_reducible refine kSet ?_ ?hB _; case hB => (simp; try omega)) | with_reducible refine kAlloc ?_ _ | with_reducible refine Below.drew ?_ | with_reducible refine kDrewN ?_ _ | with_reducible refine kTrans ?_ (by assumption))⟩
  · go_enter Try.func15, Try.ntmps15
    go_wp2_with (first
      | (go_at_call 33; refine (l01Side_any _ _ true (by simp; omega)).mono ?_; rintro e w' ⟨rfl, rfl⟩)
      | (go_at_call 32; refine (l00In_yes _ _ _ _ ?_ ?_).mono ?_; (· omega); (· omega); rintro e w' ⟨rfl, rfl⟩)
      | (go_at_call 32; refine (l00In_no _ _ _ _ (by omega)).mono ?_; rintro e w' ⟨rfl, rfl⟩))
    exact bodyPost_ret (v := .tuple #[.agg #[.int .i8 0, .int .i8 0], .int .i64 2]) (by simp [results, Try.results15, go_sem]) rfl ⟨rfl, by repeat (first | with_reducible exact Below.refl _ _ | (with_reducible refine kSet ?_ ?hB _; case hB => (simp; try omega)) | with_reducible refine kAlloc ?_ _ | with_reducible refine Below.drew ?_ | with_reducible refine kDrewN ?_ _ | with_reducible refine kTrans ?_ (by assumption))⟩

set_option maxHeartbeats 2000000 in
theorem impl_no (x y s : Int) (w : World) (hx : i8 x) (hy : i8 y) (h : ¬ good x y s) :
    Calls Try.prog 17 #[.agg #[.int .i8 x, .int .i8 y], .int .i64 s] w fun e w' => e = .returned (.tuple #[.agg #[.int .i8 0, .int .i8 0], .int .i64 2]) ∧ Below w.heap.size w w' := by
  unfold i8 at hx hy
  rcases parts x y s h with h1 | ⟨h1, h2⟩ | ⟨h1, h2, h3⟩
  · go_enter Try.func17, Try.ntmps17
    go_wp2_with (go_at_call 34; refine (isSide_any _ _ false (by simp; omega)).mono ?_; rintro e w' ⟨rfl, rfl⟩)
    exact bodyPost_ret (v := .tuple #[.agg #[.int .i8 0, .int .i8 0], .int .i64 2]) (by simp [results, Try.results17, go_sem]) rfl ⟨rfl, by repeat (first | with_reducible exact Below.refl _ _ | (with_reducible refine kSet ?_ ?hB _; case hB => (simp; try omega)) | with_reducible refine kAlloc ?_ _ | with_reducible refine Below.drew ?_ | with_reducible refine kDrewN ?_ _ | with_reducible refine kTrans ?_ (by assumption))⟩
  · go_enter Try.func17, Try.ntmps17
    go_wp2_with (first
      | (go_at_call 34; refine (isSide_any _ _ true (by simp; omega)).mono ?_; rintro e w' ⟨rfl, rfl⟩)
      | (go_at_call 37; refine (isNear_no _ _ (by omega)).mono ?_; rintro e w' ⟨rfl, rfl⟩))
    exact bodyPost_ret (v := .tuple #[.agg #[.int .i8 0, .int .i8 0], .int .i64 2]) (by simp [results, Try.results17, go_sem]) rfl ⟨rfl, by repeat (first | with_reducible exact Below.refl _ _ | (with_reducible refine kSet ?_ ?hB _; case hB => (simp; try omega)) | with_reducible refine kAlloc ?_ _ | with_reducible refine Below.drew ?_ | with_reducible refine kDrewN ?_ _ | with_reducible refine kTrans ?_ (by assumption))⟩
  · go_enter Try.func17, Try.ntmps17
    go_wp2_with (first
      | (go_at_call 34; refine (isSide_any _ _ true (by simp; omega)).mono ?_; rintro e w' ⟨rfl, rfl⟩)
      | (go_at_call 37; refine (isNear_yes _ _ ?_ ?_).mono ?_; (· omega); (· omega); rintro e w' ⟨rfl, rfl⟩)
      | (go_at_call 37; refine (isNear_no _ _ (by omega)).mono ?_; rintro e w' ⟨rfl, rfl⟩))
    exact bodyPost_ret (v := .tuple #[.agg #[.int .i8 0, .int .i8 0], .int .i64 2]) (by simp [results, Try.results17, go_sem]) rfl ⟨rfl, by repeat (first | with_reducible exact Below.refl _ _ | (with_reducible refine kSet ?_ ?hB _; case hB => (simp; try omega)) | with_reducible refine kAlloc ?_ _ | with_reducible refine Below.drew ?_ | with_reducible refine kDrewN ?_ _ | with_reducible refine kTrans ?_ (by assumption))⟩

/-- both at once: what each of them returns -/
theorem same (x y s : Int) (hx : i8 x) (hy : i8 y) : ∃ a b c : Int, i8 a ∧ i8 b ∧ (∀ w, Calls Try.prog 15 #[.agg #[.int .i8 x, .int .i8 y], .int .i64 s] w fun e w' => e = .returned (.tuple #[.agg #[.int .i8 a, .int .i8 b], .int .i64 c]) ∧ Below w.heap.size w w') ∧
    (∀ w, Calls Try.prog 17 #[.agg #[.int .i8 x, .int .i8 y], .int .i64 s] w fun e w' => e = .returned (.tuple #[.agg #[.int .i8 a, .int .i8 b], .int .i64 c]) ∧ Below w.heap.size w w') := by
  by_cases h : good x y s
  · refine ⟨stepX x s, stepY y s, 0, ?_, ?_, fun w => spec_yes x y s w h, fun w => impl_yes x y s w h⟩
    · unfold good at h; unfold i8 stepX; split <;> (try split) <;> omega
    · unfold good at h; unfold i8 stepY; split <;> (try split) <;> omega
  · exact ⟨0, 0, 2, by unfold i8; omega, by unfold i8; omega, fun w => spec_no x y s w hx hy h, fun w => impl_no x y s w hx hy h⟩

set_option maxHeartbeats 2000000 in
theorem walk (x y : Int) (bx : i8 x ∧ i8 y) (a1 : Int) (w1 : (Lit.int .i64 a1).wf = true) (w : World) :
    Calls Try.prog 5 #[.agg #[.int .i8 x, .int .i8 y], .int .i64 a1] w fun e w' => e = .returned (.bool true) ∧ Below w.heap.size w w' := by
  obtain ⟨a, b, c, ha, hb, hs, hi⟩ := same x y a1 bx.1 bx.2
  have Hs := Lib.hid hs
  have Hi := Lib.hid hi
  clear hs hi w1
  go_enter Try.func5, Try.ntmps5
  go_wp2_with fail
  refine (toCell_any x y _).mono ?_
  rintro e w1 ⟨rfl, hb1⟩
  go_wp2_with fail
  refine (Hs.out _).mono ?_
  rintro e w2 ⟨rfl, hb2⟩
  have hz1 : w.heap.size + 1 ≤ w1.heap.size := by have := hb1.size; simp at this; omega
  have hz2 : w1.heap.size ≤ w2.heap.size := hb2.size
  have hl2 : w.heap.size < w2.heap.size := by omega
  have c0 : w2.cell? ⟨w.heap.size, 0, none⟩ = some (.int .i8 x) := by rw [hb2.cell (by simp; omega), hb1.cell (by simp)]; simp
  have c1 : w2.cell? ⟨w.heap.size, 1, none⟩ = some (.int .i8 y) := by rw [hb2.cell (by simp; omega), hb1.cell (by simp)]; simp
  go_wp2_with fail
  refine (toCell_any x y _).mono ?_
  rintro e w3 ⟨rfl, hb3⟩
  go_wp2_with fail
  refine (Hi.out _).mono ?_
  rintro e w4 ⟨rfl, hb4⟩
  have hz3 : w2.heap.size + 1 ≤ w3.heap.size := by have := hb3.size; simp at this; omega
  have hz4 : w3.heap.size ≤ w4.heap.size := hb4.size
  have hl4 : w2.heap.size < w4.heap.size := by omega
  have d0 : w4.cell? ⟨w2.heap.size, 0, none⟩ = some (.int .i8 a) := by rw [hb4.cell (by simp; omega), hb3.cell (by simp)]; simp
  have d1 : w4.cell? ⟨w2.heap.size, 1, none⟩ = some (.int .i8 b) := by rw [hb4.cell (by simp; omega), hb3.cell (by simp)]; simp
  go_wp2_with fail
  refine (eqCell_same a b _ ha hb).mono ?_
  rintro e w5 ⟨rfl, hb5⟩
  go_wp2
  go_ret
  exact ⟨rfl, by repeat (first | with_reducible exact Below.refl _ _ | (with_reducible refine kSet ?_ ?hB _; case hB => (simp; try omega)) | with_reducible refine kAlloc ?_ _ | with_reducible refine Below.drew ?_ | with_reducible refine kDrewN ?_ _ | with_reducible refine kTrans ?_ (by assumption))⟩

set_option maxRecDepth 100000 in
theorem lifted (os : Os) (started : os.Started) (H : Type) (enc : TypeId × Value → H) :
    ReturnsInHanded {} Try.checked os 5 .any (Rows.fnExactNextCellSpec.pre6 enc Try.prog Try.f5 Rows.fnExactNextCellRow.domain false) (Rows.fnExactNextCellSpec.post enc Try.prog Try.f5 false true false false) := by
  refine returnsInHanded_of_change (C := Try.checked) own started (by kernel_rfl) Try.func5
    (ChangeSpec.witness6 (enc := enc) (C := Try.checked) false ⟨#[], #[.agg #[.int .i8 0, .int .i8 0], .int .i64 0], []⟩ 8 (by kernel_rfl) (by kernel_rfl) (by kernel_rfl) (by kernel_rfl)) ?_
  intro W base args ds gs before hval0 hW hcnd _
  have hval : ∀ (j : Nat) t v, Try.f5.params[j]? = some t → args[j]? = some v → Value.okWide Try.prog W .any base t v := hval0
  have hW' := hW
  obtain ⟨p, q, hA0, hV, rfl, hfz, hnd⟩ := hW
  have hA : DataW.TrodAll enc Try.prog W 0 (fun _ => true) true Try.f5.params.toList args.toList ds p := hA0
  rw [Try.params5] at hA hval
  have r_ := hA
  obtain ⟨v0, vs0, d0, ds0, pp0, qq0, hargs0, hds0, _, h0, r_⟩ := trodAll_cons r_
  obtain ⟨v1, vs1, d1, ds1, pp1, qq1, hargs1, hds1, _, h1, r_⟩ := trodAll_cons r_
  obtain ⟨hv_, hd_, _⟩ := trodAll_nil r_
  subst hv_ hd_
  subst hargs1 hds1
  obtain rfl : args = #[v0, v1] := by cases args; simp_all
  subst hds0
  obtain ⟨x0, y0, rfl, bx0⟩ := open_cell (hval 0 27 v0 rfl rfl) h0
  obtain ⟨a1, rfl, rfl, rfl, w1⟩ := open_int Try.underlying2 (hval 1 2 v1 rfl rfl) h1
  refine (walk x0 y0 bx0 a1 w1 W).mono fun e W' ⟨he, hg⟩ => ?_
  subst he
  exact ⟨_, rfl, law_post kids full Try.underlying4 (by decide) rfl rfl rfl hW' hg⟩

theorem over : Rows.fnExactNextCellRow.holds Try.pinned (OpenSpec.ofChange Rows.fnExactNextCellSpec) :=
  OpenClaim.holds_of_wide 5 Try.f5 rfl rfl rfl rfl rfl rfl rfl ⟨rfl, rfl, rfl, rfl, rfl⟩ rfl rfl rfl rfl rfl (by kernel_rfl) Try.func5 (by kernel_rfl)
    (of_decide_eq_true (by kernel_rfl)) (by unfold Func.isWrapper; first | (rw [if_pos (by decide +kernel)]; kernel_rfl) | (rw [if_neg (by decide +kernel)]; exact ⟨rfl, rfl⟩))
    (fun os started H enc _ => lifted os started H enc)

/-- The statement. -/
theorem proved : Rows.FnExactNextCellSaid :=
  over
#print axioms proved
end Go.Proofs.Ytmmllagjeeinoaa.NextCell
