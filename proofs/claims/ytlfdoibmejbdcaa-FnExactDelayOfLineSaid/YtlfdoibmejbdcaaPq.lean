/- Slices of pieces by themselves: the names that the laws' frame wants. -/
import Derived.Test.YtlfdoibmejbdcaaG4
namespace Go.Proofs.Ytlfdoibmejbdcaa
open Go.ChangeShapes Go.WideShapes Go.ChangeAt Go.RowKit
set_option linter.unusedVariables false

abbrev Pq := Pc
abbrev SlPq (w : World) (l : List Pc) (v : Value) : Prop := Sl w l v
abbrev SlOPq (B : Nat) (w : World) (l : List Pc) (v : Value) : Prop := SlO B w l v
abbrev SlWPq (lo hi : Nat) (w : World) (l : List Pc) (v : Value) : Prop := SlW lo hi w l v
abbrev PqsWf (l : List Pc) : Prop := All8 l
theorem SlOPq.start {w : World} {l : List Pc} {v : Value} (h : SlPq w l v) : SlOPq w.heap.size w l v := SlO.start h
theorem SlPq.mk {w : World} {l : List Pc} (b o cap : Nat) (hc : PcsAt w b o l) (hb : b < w.heap.size) (hl : l.length ≤ cap) : SlPq w l (.slice (some ⟨b, o, none⟩) l.length cap) := Sl.mk b o cap hc hb hl
theorem SlWPq.mk {lo hi : Nat} {w : World} {l : List Pc} (b o cap : Nat) (hc : PcsAt w b o l) (h1 : lo ≤ b) (h2 : b < hi) (h3 : b < w.heap.size) (hf : ∀ j, w.frozen? ⟨b, j, none⟩ = false) (hl : l.length ≤ cap) : SlWPq lo hi w l (.slice (some ⟨b, o, none⟩) l.length cap) := SlW.mk b o cap hc h1 h2 h3 hf hl
theorem Pq_cells : Try.prog.cellsOf 105 = 5 := piece_cells
theorem Pq_flat : flat Try.prog 4 105 = some [.i8, .i8, .i8, .i8, .i8] := piece_flat
theorem open_Pqs {H : Type} {enc : TypeId × Value → H} {P : Program} {w : World} {base : Nat} {spare : Nat → Bool} {held : Bool} {t e : TypeId} {fuel : Nat} {v : Value} {x : DataW H × List MemPlace}
    (ht : P.underlying t = some (.slice e)) (hce : P.cellsOf e = 5) (hfl : flat P 4 e = some [.i8, .i8, .i8, .i8, .i8]) (h : DataW.trod enc P w base spare held fuel t [v] = some x) :
    ∃ l : List Pc, SlPq w l v ∧ PqsWf l ∧ l.length ≤ maxLen := open_pcs ht hce hfl h
end Go.Proofs.Ytlfdoibmejbdcaa
