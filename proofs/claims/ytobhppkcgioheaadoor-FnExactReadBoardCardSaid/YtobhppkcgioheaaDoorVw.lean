/- ValidWay, both sides; ways as the laws have them. -/
import Derived.Test.YtobhppkcgioheaaDoorGr
import Derived.Test.YtobhppkcgioheaaDoorG4
namespace Go.Proofs.YtobhppkcgioheaaDoor
open Go.ChangeShapes Go.WideShapes Go.ChangeAt Go.RowKit
set_option linter.unusedVariables false
set_option linter.unusedSimpArgs false

theorem ints_six {cs : Array Value} {k0 k1 k2 k3 k4 k5 : IntKind} (h : Ints cs.toList [k0, k1, k2, k3, k4, k5]) :
    ∃ a b c d e f : Int, cs = #[.int k0 a, .int k1 b, .int k2 c, .int k3 d, .int k4 e, .int k5 f] ∧ (Lit.int k0 a).wf = true ∧ (Lit.int k1 b).wf = true ∧ (Lit.int k2 c).wf = true ∧ (Lit.int k3 d).wf = true ∧ (Lit.int k4 e).wf = true ∧ (Lit.int k5 f).wf = true := by
  obtain ⟨cs⟩ := cs
  match cs, h with
  | [_, _, _, _, _, _], ⟨⟨x, rfl, hx⟩, ⟨y, rfl, hy⟩, ⟨z, rfl, hz⟩, ⟨u, rfl, hu⟩, ⟨v, rfl, hv⟩, ⟨t, rfl, ht⟩, _⟩ => exact ⟨x, y, z, u, v, t, rfl, hx, hy, hz, hu, hv, ht⟩
theorem open_way {H : Type} {enc : TypeId × Value → H} {P : Program} {w w2 : World} {r : Reach} {b0 base : Nat} {spare : Nat → Bool} {held : Bool} {t : TypeId} {v : Value} {d : DataW H} {p : List MemPlace} {n : Nat}
    (hf : flat P n t = some [.i8, .i8, .i8, .i8, .i8, .i8]) (hs : isAggT P t = true) (hv : Value.okWide P w2 r b0 t v) (h : DataW.Trod enc P w base spare held t v d p) :
    ∃ p : Wy, v = .agg #[.int .i8 p.fx, .int .i8 p.fy, .int .i8 p.sd, .int .i8 p.tx, .int .i8 p.ty, .int .i8 p.ot] ∧ p.in8 := by
  obtain ⟨cs, rfl, hi⟩ := open_flat n hf hs hv h
  obtain ⟨x, y, z, t, u, q, rfl, hx, hy, hz, ht, hu, hq⟩ := ints_six hi
  exact ⟨⟨x, y, z, t, u, q⟩, rfl, i8_of hx, i8_of hy, i8_of hz, i8_of ht, i8_of hu, i8_of hq⟩
end Go.Proofs.YtobhppkcgioheaaDoor
