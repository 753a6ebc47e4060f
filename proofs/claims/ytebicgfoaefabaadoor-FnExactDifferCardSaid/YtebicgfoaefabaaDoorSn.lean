/- SameNetwork: both sides. -/
import Derived.Test.YtebicgfoaefabaaDoorEqNd
namespace Go.Proofs.YtebicgfoaefabaaDoor
open Go.ChangeShapes Go.WideShapes Go.ChangeAt Go.RowKit Go.Joins Go.Deep
set_option linter.unusedVariables false
set_option linter.unusedSimpArgs false

def sameN (ni nj : Int) (l l' : List Nd) (p p' : List Int) : Bool := decide (ni = nj) && decide (l = l') && decide (p = p')
theorem NK.slN {w : World} {b k : Nat} {l : List Nd} {p : List Int} (h : NK w b k l p) : SlNd w l (.slice (some ⟨b, 0, none⟩) l.length l.length) := .mk b 0 _ h.p0 h.z0 (Nat.le_refl _)
theorem NK.slS {w : World} {b k : Nat} {l : List Nd} {p : List Int} (h : NK w b k l p) : SlSh w p (.slice (some ⟨k, 0, none⟩) p.length p.length) := .mk k 0 _ h.p1 h.z1 (Nat.le_refl _)
end Go.Proofs.YtebicgfoaefabaaDoor
