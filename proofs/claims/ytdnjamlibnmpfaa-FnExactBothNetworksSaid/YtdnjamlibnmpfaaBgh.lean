/- BothNetworks, both sides. -/
import Derived.Test.YtdnjamlibnmpfaaBg
import Derived.Test.YtdnjamlibnmpfaaBh
namespace Go.Proofs.Ytdnjamlibnmpfaa
open Go.ChangeShapes Go.WideShapes Go.ChangeAt Go.RowKit Go.Joins Go.Deep
set_option linter.unusedVariables false
set_option linter.unusedSimpArgs false
theorem kept3 {w : World} {g : Nat} (a b c : Value) : KeptOut g (g + 1) w (((w.setCell ⟨g, 0, none⟩ a).setCell ⟨g, 1, none⟩ b).setCell ⟨g, 2, none⟩ c) :=
  (((KeptOut.of_below (Below.refl _ _)).set ⟨g, 0, none⟩ (Nat.le_refl _) (Nat.lt_succ_self _) _).set ⟨g, 1, none⟩ (Nat.le_refl _) (Nat.lt_succ_self _) _).set ⟨g, 2, none⟩ (Nat.le_refl _) (Nat.lt_succ_self _) _
theorem NwO.set3 {lo hi g : Nat} {w : World} {l : List Nd} {p : List Int} {v u : Value} (h : NwO lo hi w l p v u) (hg : g < lo) (a b c : Value) : NwO lo hi (((w.setCell ⟨g, 0, none⟩ a).setCell ⟨g, 1, none⟩ b).setCell ⟨g, 2, none⟩ c) l p v u := h.out (kept3 a b c) (.inr hg)
theorem NwR.set3 {lo hi g : Nat} {w : World} {l : List Nd} {p : List Int} {v u : Value} (h : NwR lo hi w l p v u) (hg : g < lo) (a b c : Value) : NwR lo hi (((w.setCell ⟨g, 0, none⟩ a).setCell ⟨g, 1, none⟩ b).setCell ⟨g, 2, none⟩ c) l p v u := h.out (kept3 a b c) (.inr hg)
theorem implBothNetworks_any (b k b' k' : Nat) (ni nj : Int) (l l' : List Nd) (p p' : List Int) (w : World) (h : NK w b k l p) (h' : NK w b' k' l' p') (h8 : NdsWf l) (h9 : ShsWf p) (h8' : NdsWf l') (h9' : ShsWf p') (bw : i8 ni) (bw' : i8 nj) (m0 : l.length ≤ 1048576) (m1 : p.length ≤ 1048576) (m0' : l'.length ≤ 1048576) (m1' : p'.length ≤ 1048576) (R R' : Bool) (hR : R = netOk ni l p) (hR' : R' = netOk nj l' p') (Nr : Int) (lr : List Nd) (pr : List Int) (C : Int) (hQ : boQ R R' ni nj l l' p p' = (Nr, lr, pr, C)) :
    Calls Try.prog 9 #[.agg #[.int .i8 ni, .slice (some ⟨b, 0, none⟩) l.length l.length, .slice (some ⟨k, 0, none⟩) p.length p.length], .agg #[.int .i8 nj, .slice (some ⟨b', 0, none⟩) l'.length l'.length, .slice (some ⟨k', 0, none⟩) p'.length p'.length]] w fun e w' => ∃ v u, e = .returned (.tuple #[.agg #[.int .i8 Nr, v, u], .int .i64 C]) ∧ NwR w.heap.size w'.heap.size w' lr pr v u ∧ Below w.heap.size w w' := by
  by_cases hb : R = true ∧ R' = true
  · by_cases hn : ni = nj
    · by_cases h80 : l.length + l'.length ≤ 80
      · by_cases ho : p.length + p'.length ≤ 8
        · exact implBoth_ok b k b' k' ni nj l l' p p' w h h' h8 h9 h8' h9' bw bw' m0 m1 m0' m1' R R' hR hR' hb.1 hb.2 hn h80 ho Nr lr pr C hQ
        · exact implBoth_outs b k b' k' ni nj l l' p p' w h h' h8 h9 h8' h9' bw bw' m0 m1 m0' m1' R R' hR hR' hb.1 hb.2 hn h80 ho Nr lr pr C hQ
      · exact implBoth_many b k b' k' ni nj l l' p p' w h h' h8 h9 h8' h9' bw bw' m0 m1 m0' m1' R R' hR hR' hb.1 hb.2 hn h80 Nr lr pr C hQ
    · exact implBoth_state b k b' k' ni nj l l' p p' w h h' h8 h9 h8' h9' bw bw' m0 m1 m0' m1' R R' hR hR' hb.1 hb.2 hn Nr lr pr C hQ
  · exact implBoth_bad b k b' k' ni nj l l' p p' w h h' h8 h9 h8' h9' bw bw' m0 m1 m0' m1' R R' hR hR' hb Nr lr pr C hQ
theorem specBothNetworks_any (b k b' k' : Nat) (ni nj : Int) (l l' : List Nd) (p p' : List Int) (w : World) (h : NK w b k l p) (h' : NK w b' k' l' p') (h8 : NdsWf l) (h9 : ShsWf p) (h8' : NdsWf l') (h9' : ShsWf p') (bw : i8 ni) (bw' : i8 nj) (m0 : l.length ≤ 1048576) (m1 : p.length ≤ 1048576) (m0' : l'.length ≤ 1048576) (m1' : p'.length ≤ 1048576) (R R' : Bool) (hR : R = netOk ni l p) (hR' : R' = netOk nj l' p') (Nr : Int) (lr : List Nd) (pr : List Int) (C : Int) (hQ : boQ R R' ni nj l l' p p' = (Nr, lr, pr, C)) :
    Calls Try.prog 7 #[.agg #[.int .i8 ni, .slice (some ⟨b, 0, none⟩) l.length l.length, .slice (some ⟨k, 0, none⟩) p.length p.length], .agg #[.int .i8 nj, .slice (some ⟨b', 0, none⟩) l'.length l'.length, .slice (some ⟨k', 0, none⟩) p'.length p'.length]] w fun e w' => ∃ v u, e = .returned (.tuple #[.agg #[.int .i8 Nr, v, u], .int .i64 C]) ∧ NwO w.heap.size w'.heap.size w' lr pr v u ∧ Below w.heap.size w w' := by
  by_cases hb : R = true ∧ R' = true
  · by_cases hn : ni = nj
    · by_cases h80 : l.length + l'.length ≤ 80
      · by_cases ho : p.length + p'.length ≤ 8
        · exact specBoth_ok b k b' k' ni nj l l' p p' w h h' h8 h9 h8' h9' bw bw' m0 m1 m0' m1' R R' hR hR' hb.1 hb.2 hn h80 ho Nr lr pr C hQ
        · exact specBoth_outs b k b' k' ni nj l l' p p' w h h' h8 h9 h8' h9' bw bw' m0 m1 m0' m1' R R' hR hR' hb.1 hb.2 hn h80 ho Nr lr pr C hQ
      · exact specBoth_many b k b' k' ni nj l l' p p' w h h' h8 h9 h8' h9' bw bw' m0 m1 m0' m1' R R' hR hR' hb.1 hb.2 hn h80 Nr lr pr C hQ
    · exact specBoth_state b k b' k' ni nj l l' p p' w h h' h8 h9 h8' h9' bw bw' m0 m1 m0' m1' R R' hR hR' hb.1 hb.2 hn Nr lr pr C hQ
  · exact specBoth_bad b k b' k' ni nj l l' p p' w h h' h8 h9 h8' h9' bw bw' m0 m1 m0' m1' R R' hR hR' hb Nr lr pr C hQ
end Go.Proofs.Ytdnjamlibnmpfaa
