/- The words of the sides, as the model makes them. -/
import Derived.Test.YthngnbaoaeomeaaDoorTx2
import Derived.Test.YthngnbaoaeomeaaDoorTw
namespace Go.Proofs.YthngnbaoaeomeaaDoor
open Go.ChangeShapes Go.WideShapes Go.ChangeAt Go.RowKit Go.Joins Go.Deep
set_option linter.unusedVariables false
set_option linter.unusedSimpArgs false
def W4 (w : World) (g : Nat) : Prop := (∀ k : Nat, k < 4 → w.cell? ⟨g, k, none⟩ = some (.string (bsT (sideWL (k : Int))))) ∧ g < w.heap.size
theorem W4.below {w w' : World} {g : Nat} (h : W4 w g) (b : Below w.heap.size w w') : W4 w' g := ⟨fun k hk => (b.cell (p := ⟨g, k, none⟩) h.2).trans (h.1 k hk), Nat.lt_of_lt_of_le h.2 b.size⟩
theorem l02Sides_any (w : World) : Calls Tryd.prog 42 #[] w fun e w' => ∃ g, e = .returned (.slice (some ⟨g, 0, none⟩) 4 4) ∧ W4 w' g ∧ Below w.heap.size w w' := by
  go_enter Tryd.func42, Tryd.ntmps42
  go_wp2
  go_ret
  refine ⟨w.heap.size, rfl, ⟨fun k hk => ?_, by simp⟩, by repeat (first | with_reducible exact Below.refl _ _ | (with_reducible refine kSet ?_ ?hB _; case hB => (simp; try omega)) | with_reducible refine kAlloc ?_ _ | with_reducible refine Below.drew ?_ | with_reducible refine kDrewN ?_ _ | with_reducible refine kTrans ?_ (by assumption))⟩
  rw [cell_of_row _ _ k _ _ _ (nNewX _ _)]
  have hc : k = 0 ∨ k = 1 ∨ k = 2 ∨ k = 3 := by omega
  rcases hc with rfl | rfl | rfl | rfl <;> rfl
end Go.Proofs.YthngnbaoaeomeaaDoor
