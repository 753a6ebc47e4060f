/- What the model's HitsFrom answers, all of it. -/
import Derived.Test.YtmmllagjeeinoaaFc0
import Derived.Test.YtmmllagjeeinoaaFc1
import Derived.Test.YtmmllagjeeinoaaFc2
namespace Go.Proofs.Ytmmllagjeeinoaa
open Go.ChangeShapes Go.WideShapes Go.ChangeAt Go.RowKit
set_option linter.unusedVariables false

theorem specHits_ok (p : Pc) (s : Int) (w : World) (hp : p.in8) (hc : 0 = askC p s) (hk : 0 ≤ p.kind ∧ p.kind ≤ 5) (ht : 0 ≤ p.turn ∧ p.turn ≤ 3) (hs : 0 ≤ s ∧ s ≤ 3) :
    Calls Try.prog 24 #[.agg #[.int .i8 p.x, .int .i8 p.y, .int .i8 p.kind, .int .i8 p.turn, .int .i8 p.delay], .int .i64 s] w fun e w' => e = .returned (.tuple #[.agg #[.bool (rxH p.kind p.turn s 0), .bool (rxH p.kind p.turn s 1), .bool (rxH p.kind p.turn s 2), .bool (rxH p.kind p.turn s 3)], .int .i64 0]) ∧ Below w.heap.size w w' := by
  obtain ⟨a0, h0⟩ : ∃ a, hitsP p.kind ((s - p.turn) % 4) ((0 - p.turn) % 4) = a := ⟨_, rfl⟩
  obtain ⟨a1, h1⟩ : ∃ a, hitsP p.kind ((s - p.turn) % 4) ((1 - p.turn) % 4) = a := ⟨_, rfl⟩
  obtain ⟨a2, h2⟩ : ∃ a, hitsP p.kind ((s - p.turn) % 4) ((2 - p.turn) % 4) = a := ⟨_, rfl⟩
  obtain ⟨a3, h3⟩ : ∃ a, hitsP p.kind ((s - p.turn) % 4) ((3 - p.turn) % 4) = a := ⟨_, rfl⟩
  cases hF : rxF p.kind p.turn s with
  | false =>
    have e : ∀ j, rxH p.kind p.turn s j = false := by intro j; unfold rxH; rw [show fallsP p.kind ((s - p.turn) % 4) = false from hF]; rfl
    rw [e, e, e, e]
    exact sph_m1 p s w hp hc hk ht hs (by unfold rxB; rw [hF]; rfl)
  | true =>
    have hf : fallsP p.kind ((s - p.turn) % 4) = true := hF
    have e0 : rxH p.kind p.turn s 0 = a0 := by unfold rxH; rw [hf, h0]; rfl
    have e1 : rxH p.kind p.turn s 1 = a1 := by unfold rxH; rw [hf, h1]; rfl
    have e2 : rxH p.kind p.turn s 2 = a2 := by unfold rxH; rw [hf, h2]; rfl
    have e3 : rxH p.kind p.turn s 3 = a3 := by unfold rxH; rw [hf, h3]; rfl
    rw [e0, e1, e2, e3]
    cases a0 <;> cases a1 <;> cases a2 <;> cases a3
    · exact sph_0 p s w hp hc hk ht hs (by unfold rxB; rw [hF, e0, e1, e2, e3]; rfl)
    · exact sph_8 p s w hp hc hk ht hs (by unfold rxB; rw [hF, e0, e1, e2, e3]; rfl)
    · exact sph_4 p s w hp hc hk ht hs (by unfold rxB; rw [hF, e0, e1, e2, e3]; rfl)
    · exact sph_12 p s w hp hc hk ht hs (by unfold rxB; rw [hF, e0, e1, e2, e3]; rfl)
    · exact sph_2 p s w hp hc hk ht hs (by unfold rxB; rw [hF, e0, e1, e2, e3]; rfl)
    · exact sph_10 p s w hp hc hk ht hs (by unfold rxB; rw [hF, e0, e1, e2, e3]; rfl)
    · exact sph_6 p s w hp hc hk ht hs (by unfold rxB; rw [hF, e0, e1, e2, e3]; rfl)
    · exact sph_14 p s w hp hc hk ht hs (by unfold rxB; rw [hF, e0, e1, e2, e3]; rfl)
    · exact sph_1 p s w hp hc hk ht hs (by unfold rxB; rw [hF, e0, e1, e2, e3]; rfl)
    · exact sph_9 p s w hp hc hk ht hs (by unfold rxB; rw [hF, e0, e1, e2, e3]; rfl)
    · exact sph_5 p s w hp hc hk ht hs (by unfold rxB; rw [hF, e0, e1, e2, e3]; rfl)
    · exact sph_13 p s w hp hc hk ht hs (by unfold rxB; rw [hF, e0, e1, e2, e3]; rfl)
    · exact sph_3 p s w hp hc hk ht hs (by unfold rxB; rw [hF, e0, e1, e2, e3]; rfl)
    · exact sph_11 p s w hp hc hk ht hs (by unfold rxB; rw [hF, e0, e1, e2, e3]; rfl)
    · exact sph_7 p s w hp hc hk ht hs (by unfold rxB; rw [hF, e0, e1, e2, e3]; rfl)
    · exact sph_15 p s w hp hc hk ht hs (by unfold rxB; rw [hF, e0, e1, e2, e3]; rfl)
theorem specHits_any (p : Pc) (s : Int) (w : World) (hp : p.in8) :
    Calls Try.prog 24 #[.agg #[.int .i8 p.x, .int .i8 p.y, .int .i8 p.kind, .int .i8 p.turn, .int .i8 p.delay], .int .i64 s] w fun e w' => e = .returned (.tuple #[.agg #[.bool (hitA p s 0), .bool (hitA p s 1), .bool (hitA p s 2), .bool (hitA p s 3)], .int .i64 (askC p s)]) ∧ Below w.heap.size w w' := by
  rcases askC_cases p s with ⟨hc, hk, ht, hs, -, -⟩ | ⟨hc, -⟩ | ⟨hc, -, -⟩
  · have e1 : ∀ j, hitA p s j = rxH p.kind p.turn s j := by intro j; unfold hitA; rw [hc]; simp
    rw [e1, e1, e1, e1, hc]
    exact specHits_ok p s w hp hc.symm hk ht hs
  all_goals
    have e1 : ∀ j, hitA p s j = false := by intro j; unfold hitA; rw [hc]; simp
    rw [e1, e1, e1, e1, hc]
    have pb := (PcAt.box w p 38).below (w' := ((w.alloc (.cells #[.int .i8 p.x, .int .i8 p.y, .int .i8 p.kind, .int .i8 p.turn, .int .i8 p.delay] 38)).alloc (.cells #[.bool false, .bool false, .bool false, .bool false] 44)).alloc (.cells #[.bool false, .bool false, .bool false, .bool false] 44)) (by repeat (first | with_reducible exact Below.refl _ _ | (with_reducible refine kSet ?_ ?hB _; case hB => (simp; try omega)) | with_reducible refine kAlloc ?_ _ | with_reducible refine Below.drew ?_ | with_reducible refine kDrewN ?_ _ | with_reducible refine kTrans ?_ (by assumption))) (by simp)
    have Hc := Lib.hid hc
    clear e1 hc
    go_enter Try.func24, Try.ntmps24
    go_wp2_with fail
    refine (l01Asked_any p _ _ _ _ hp pb _ Hc.out.symm).mono ?_
    rintro e w1 ⟨rfl, hb⟩
    obtain ⟨hcc, hff⟩ := bcell hb
    have hz : w.heap.size + 1 + 1 < w1.heap.size := by have := hb.size; simp at this; omega
    go_wp2
    exact bodyPost_ret (by simp [results, Try.results24, go_sem, hcc]; try rfl) rfl ⟨rfl, by repeat (first | with_reducible exact Below.refl _ _ | (with_reducible refine kSet ?_ ?hB _; case hB => (simp; try omega)) | with_reducible refine kAlloc ?_ _ | with_reducible refine Below.drew ?_ | with_reducible refine kDrewN ?_ _ | with_reducible refine kTrans ?_ (by assumption))⟩
end Go.Proofs.Ytmmllagjeeinoaa
