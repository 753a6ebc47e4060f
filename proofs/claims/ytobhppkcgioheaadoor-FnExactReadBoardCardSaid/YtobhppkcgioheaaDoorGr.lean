/- A valid board as ground for lines: free cells, ways. -/
import Derived.Test.YtobhppkcgioheaaDoorG2
import Derived.Test.YtobhppkcgioheaaDoorG4
import Derived.Deep.DeepCutAuto
namespace Go.Proofs.YtobhppkcgioheaaDoor
open Go.ChangeShapes Go.WideShapes Go.ChangeAt Go.RowKit
set_option linter.unusedVariables false
set_option linter.unusedSimpArgs false

structure Wy where
  fx : Int
  fy : Int
  sd : Int
  tx : Int
  ty : Int
  ot : Int
def Wy.in8 (p : Wy) : Prop := i8 p.fx ∧ i8 p.fy ∧ i8 p.sd ∧ i8 p.tx ∧ i8 p.ty ∧ i8 p.ot
def WyAt (w : World) (b : Nat) (p : Wy) : Prop :=
  w.cell? ⟨b, 0, none⟩ = some (.int .i8 p.fx) ∧ w.cell? ⟨b, 1, none⟩ = some (.int .i8 p.fy) ∧ w.cell? ⟨b, 2, none⟩ = some (.int .i8 p.sd) ∧ w.cell? ⟨b, 3, none⟩ = some (.int .i8 p.tx) ∧ w.cell? ⟨b, 4, none⟩ = some (.int .i8 p.ty) ∧ w.cell? ⟨b, 5, none⟩ = some (.int .i8 p.ot)
theorem WyAt.below {W w' : World} {b : Nat} {p : Wy} (h : WyAt W b p) (hb : Below W.heap.size W w') (hl : b < W.heap.size) : WyAt w' b p := by
  obtain ⟨h0, h1, h2, h3, h4, h5⟩ := h
  exact ⟨(hb.cell (p := ⟨b, _, none⟩) hl).trans h0, (hb.cell (p := ⟨b, _, none⟩) hl).trans h1, (hb.cell (p := ⟨b, _, none⟩) hl).trans h2, (hb.cell (p := ⟨b, _, none⟩) hl).trans h3, (hb.cell (p := ⟨b, _, none⟩) hl).trans h4, (hb.cell (p := ⟨b, _, none⟩) hl).trans h5⟩
theorem WyAt.of {w : World} {b : Nat} {p : Wy} {t : TypeId} (h : w.heap[b]? = some (.cells #[.int .i8 p.fx, .int .i8 p.fy, .int .i8 p.sd, .int .i8 p.tx, .int .i8 p.ty, .int .i8 p.ot] t (0, 0))) : WyAt w b p :=
  ⟨cell_of_row _ _ 0 _ _ _ h, cell_of_row _ _ 1 _ _ _ h, cell_of_row _ _ 2 _ _ _ h, cell_of_row _ _ 3 _ _ _ h, cell_of_row _ _ 4 _ _ _ h, cell_of_row _ _ 5 _ _ _ h⟩
def inB' (wd hi x y : Int) : Bool := decide (0 ≤ x ∧ x ≤ wd - 1 ∧ 0 ≤ y ∧ y ≤ hi - 1)
def freeB (wd hi : Int) (l : List Pc) (x y : Int) : Bool := inB' wd hi x y && decide (findFrom x y l 0 < 0)
def sideB (n : Int) : Bool := decide (0 ≤ n ∧ n ≤ 3)
def apartB (p : Wy) : Bool := !(p.fx == p.tx && p.fy == p.ty) || !(p.sd == p.ot)
def wayB (wd hi : Int) (l : List Pc) (p : Wy) : Bool := freeB wd hi l p.fx p.fy && freeB wd hi l p.tx p.ty && sideB p.sd && sideB p.ot && apartB p
theorem inB'_lt {wd hi x y : Int} {b : Bool} (h : inB' wd hi x y = b) : b = decide (0 ≤ x ∧ x < wd ∧ 0 ≤ y ∧ y < hi) := by
  rw [← h]; unfold inB'; rw [Bool.eq_iff_iff]; simp only [decide_eq_true_eq]; omega
theorem inB'_le {wd hi x y : Int} {b : Bool} (h : inB' wd hi x y = b) : b = decide (0 ≤ x ∧ x ≤ wd - 1 ∧ 0 ≤ y ∧ y ≤ hi - 1) := h.symm
theorem freeB_out {wd hi : Int} {l : List Pc} {x y : Int} (h : inB' wd hi x y = false) : freeB wd hi l x y = false := by unfold freeB; rw [h]; rfl
theorem freeB_in {wd hi : Int} {l : List Pc} {x y : Int} (h : inB' wd hi x y = true) : freeB wd hi l x y = decide (findFrom x y l 0 < 0) := by unfold freeB; rw [h]; rfl
theorem MapAt.neRow {w : World} {B b : Nat} {l : List Pc} {cs : Array Value} {t : TypeId} {fr : Nat × Nat} (h : MapAt w B l) (hc : w.heap[b]? = some (.cells cs t fr)) : B ≠ b := by
  obtain ⟨es, c, h1, _⟩ := h
  rintro rfl
  rw [h1] at hc
  cases hc
theorem MapAt.row {w : World} {B g : Nat} {l : List Pc} {cs : Array Value} (h : MapAt w B l) (hne : B ≠ g) : MapAt (w.setRow g cs) B l := by
  obtain ⟨es, c, h1, h2⟩ := h
  exact ⟨es, c, (setRow_other _ _ _ _ hne).trans h1, h2⟩
end Go.Proofs.YtobhppkcgioheaaDoor
