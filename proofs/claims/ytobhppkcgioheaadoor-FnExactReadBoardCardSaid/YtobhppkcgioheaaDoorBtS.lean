/- BoardText: the model. -/
import Derived.Test.YtobhppkcgioheaaDoorBt0
namespace Go.Proofs.YtobhppkcgioheaaDoor
open Go.ChangeShapes Go.WideShapes Go.ChangeAt Go.RowKit Go.Joins Go.Deep
set_option linter.unusedVariables false
set_option linter.unusedSimpArgs false

def SxP (b j : Nat) (px py pk pt pd : Int) (w : World) : Prop := PcAt w b (j * 5) ⟨px, py, pk, pt, pd⟩ ∧ b < w.heap.size
theorem SxP.below {b j : Nat} {px py pk pt pd : Int} {w w' : World} (h : SxP b j px py pk pt pd w) (g : Below w.heap.size w w') : SxP b j px py pk pt pd w' := ⟨h.1.below g h.2, Nat.lt_of_lt_of_le h.2 g.size⟩
def W6 (w : World) (g : Nat) : Prop := (∀ k : Nat, k < 6 → w.cell? ⟨g, k, none⟩ = some (.string (bsT (kindWL (k : Int))))) ∧ g < w.heap.size
theorem W6.below {w w' : World} {g : Nat} (h : W6 w g) (b : Below w.heap.size w w') : W6 w' g := ⟨fun k hk => (b.cell (p := ⟨g, k, none⟩) h.2).trans (h.1 k hk), Nat.lt_of_lt_of_le h.2 b.size⟩
theorem l01Words_any (w : World) : Calls Tryd.prog 100 #[] w fun e w' => ∃ g, e = .returned (.slice (some ⟨g, 0, none⟩) 6 6) ∧ W6 w' g ∧ Below w.heap.size w w' := by
  go_enter Tryd.func100, Tryd.ntmps100
  go_wp2
  go_ret
  refine ⟨w.heap.size, rfl, ⟨fun k hk => ?_, by simp⟩, by repeat (first | with_reducible exact Below.refl _ _ | (with_reducible refine kSet ?_ ?hB _; case hB => (simp; try omega)) | with_reducible refine kAlloc ?_ _ | with_reducible refine Below.drew ?_ | with_reducible refine kDrewN ?_ _ | with_reducible refine kTrans ?_ (by assumption))⟩
  rw [cell_of_row _ _ k _ _ _ (nNewX _ _)]
  have hc : k = 0 ∨ k = 1 ∨ k = 2 ∨ k = 3 ∨ k = 4 ∨ k = 5 := by omega
  rcases hc with rfl | rfl | rfl | rfl | rfl | rfl <;> rfl
end Go.Proofs.YtobhppkcgioheaaDoor
