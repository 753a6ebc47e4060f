/- What TicksIn and its like answer: lists and codes. -/
import Derived.Test.YthohngkdfhpieaaGreatDoorTb
import Derived.Test.YthohngkdfhpieaaGreatDoorIl
namespace Go.Proofs.YthohngkdfhpieaaGreatDoor
open Go.ChangeShapes Go.WideShapes Go.ChangeAt Go.RowKit Go.Joins Go.Deep
set_option linter.unusedVariables false
set_option linter.unusedSimpArgs false

def rowQ (M O : Bool) (T : List Int) : List Int × Int := match M, O with | true, true => (T, 0) | _, _ => ([], askedC M O)
def outQ (M O : Bool) (T : List Int) : Int × Int := match M, O with | true, true => (outsB T 0 0, 0) | _, _ => (0, askedC M O)
theorem pair_LI {a c : List Int} {b d : Int} (h : (a, b) = (c, d)) : a = c ∧ b = d := by injection h with h1 h2; exact ⟨h1, h2⟩
theorem pair_II {a c : Int} {b d : Int} (h : (a, b) = (c, d)) : a = c ∧ b = d := by injection h with h1 h2; exact ⟨h1, h2⟩
theorem rowOk_parts {n : Nat} {row : Int} {t : List Int} (h : rowOk n row t = true) : 0 ≤ row ∧ row < 2 ^ n ∧ t.length = n ∧ lateAll t = true := by
  unfold rowOk at h
  simp only [Bool.and_eq_true, decide_eq_true_eq] at h
  exact ⟨h.1.1.1, h.1.1.2, h.1.2, h.2⟩
def InPost2 (L : List Int) (C : Int) (w : World) (e : Ending) (w' : World) : Prop := ∃ v, e = .returned (.tuple #[v, .int .i64 C]) ∧ SlWIn w.heap.size w'.heap.size w' L v ∧ Below w.heap.size w w'
theorem row_pick {M O : Bool} {wd hi row : Int} {l : List Pc} {p : List Po} {c : List Cl} {t : List Int} (hM : M = machOk wd hi l p c) (hO : O = rowOk p.length row t) :
    ∃ T, (M = true → O = true → ∃ lr, RowRun wd hi row l p c t lr ∧ ticksL l lr c = T) ∧ InsWf T ∧ T.length ≤ 1048576 := by
  by_cases h : M = true ∧ O = true
  · obtain ⟨rfl, rfl⟩ := h
    obtain ⟨lr, hr⟩ := row_exists row hM.symm (rowOk_parts hO.symm).2.2.2
    refine ⟨ticksL l lr c, fun _ _ => ⟨lr, hr, rfl⟩, fun x hx => ?_, ?_⟩
    · have := hr.ticks_wf x hx
      exact wf64' (by omega)
    · rw [ticksL_length]; have := (machOk_parts hM.symm).2.1; omega
  · exact ⟨[], fun h1 h2 => absurd ⟨h1, h2⟩ h, fun x hx => by simp at hx, by simp⟩
theorem rowQ_ok {M O : Bool} {T L : List Int} {C : Int} (h : rowQ M O T = (L, C)) (hw : InsWf T) (hl : T.length ≤ 1048576) : InsWf L ∧ L.length ≤ 1048576 := by
  cases M <;> cases O <;> (have h1 := (pair_LI h).1; rw [← h1])
  · exact ⟨fun x hx => by simp at hx, by simp⟩
  · exact ⟨fun x hx => by simp at hx, by simp⟩
  · exact ⟨fun x hx => by simp at hx, by simp⟩
  · exact ⟨hw, hl⟩
end Go.Proofs.YthohngkdfhpieaaGreatDoor
