/- The table of words, listed and tied. -/
import Derived.Test.YtobhppkcgioheaaDoorNx0
import Derived.Test.YtobhppkcgioheaaDoorTie
import Derived.Test.YtobhppkcgioheaaDoorCards
import Derived.ProofKit
import Derived.LaidMore
import Derived.OpenShut
import Derived.OpenVars
import Derived.SevenTiedAt
import Derived.Laws.IdiomArrays
import Derived.Lay
namespace Go.Proofs.YtobhppkcgioheaaDoor
open Go.ChangeShapes Go.WideShapes Go.ChangeAt Go.RowKit Go.WideElems
set_option linter.unusedVariables false

theorem laidOut : laidOutB Tryd.prog = true := by kernel_rfl
theorem staysRowed : varsRowed Tryd.prog ["loop.example/g01274/impl.nodeWords", "loop.example/g01274/impl.nodeFields"] = true := by kernel_rfl
def laid1 : List (String × DataW Unit) := [("math/bits.deBruijn32tab", Rows.laid_math_bits_deBruijn32tab), ("math/bits.deBruijn64tab", Rows.laid_math_bits_deBruijn64tab), ("internal/strconv.uint64pow10", Rows.laid_internal_strconv_uint64pow10), ("loop.example/g01274/impl.nodeWords", Rows.laid_loop_example_g01274_impl_nodeWords), ("loop.example/g01274/impl.nodeFields", Rows.laid_loop_example_g01274_impl_nodeFields)]
theorem door_met (os : Os) (args : Array Value) : laidMetH Tryd.prog laid1 ((World.laidAll Tryd.prog os laid1).forCall (fun _ _ => 0) ⟨#[], args, []⟩).memory := by
  rw [MakeChecks.laidMetH_plain _ _ _ (by kernel_rfl)]
  exact laidMet_laidAll _ (by kernel_rfl) (by kernel_rfl)
structure StayAt (w : World) : Prop where
  word : NodeAt w
  fld : FieldAt w
theorem StayAt.below {w w' : World} (h : StayAt w) (b : Below w.heap.size w w') : StayAt w' := ⟨h.word.below b, h.fld.below b⟩
theorem stay_of_laid {W : World} (h : laidMetH Tryd.prog laid1 W) : StayAt W := by
  rw [MakeChecks.laidMetH_plain _ _ _ (by kernel_rfl)] at h
  obtain ⟨ps, ⟨g0, t0, cs0, f0_, p0, q0, hg0, ht0, hv0, hd0, r0, _⟩, _, _⟩ := h
  obtain ⟨g1, t1, cs1, f1_, p1, q1, hg1, ht1, hv1, hd1, r1, _⟩ := r0
  obtain ⟨g2, t2, cs2, f2_, p2, q2, hg2, ht2, hv2, hd2, r2, _⟩ := r1
  obtain ⟨g3, t3, cs3, f3_, p3, q3, hg3, ht3, hv3, hd3, r3, _⟩ := r2
  obtain ⟨g4, t4, cs4, f4_, p4, q4, hg4, ht4, hv4, hd4, _, _⟩ := r3
  obtain rfl := Option.some.inj (gNodeAt.symm.trans hg3)
  obtain rfl := Option.some.inj (tNodeAt.symm.trans ht3)
  rw [dNodeAt] at hd3
  have htk := str_trod _ aNodeAt hd3
  have hck : ∀ j, W.cell? ⟨0, j, none⟩ = cs3[j]? := fun j => World.var?_cell gNodeAt hv3 j
  obtain rfl := Option.some.inj (gFieldAt.symm.trans hg4)
  obtain rfl := Option.some.inj (tFieldAt.symm.trans ht4)
  rw [dFieldAt] at hd4
  have hcf := Lib.cells_of_tab aFieldAt.1 aFieldAt.2.1 aFieldAt.2.2.1 aFieldAt.2.2.2 hd4
  have hc : ∀ j, W.cell? ⟨1, j, none⟩ = cs4[j]? := fun j => World.var?_cell gFieldAt hv4 j
  refine ⟨NodeAt_of (cs := cs3.toList) (fun j => (hck j).trans (by simp)) htk, FieldAt_of (fun j => ?_)⟩
  rw [hc j, ← hcf]
  simp
theorem law_post1 {H : Type} {enc : TypeId × Value → H} {P : Program} (K : Kids P (· < P.types.size)) (full : ∀ t e, t < P.types.size → P.underlying t = some (.slice e) → 0 < P.cellsOf e) (hlo : laidOutB P = true) {nm nm2 : String} (hro : varsRowed P [nm, nm2] = true)
    {f : Func} {s : ChangeSpec} {W W' : World} {args : Array Value} {ds gs : List (DataW H)} {before : List MemPlace} {tb : TypeId} (hb : P.underlying tb = some .bool)
    (hpar : ∀ t ∈ f.params.toList, t < P.types.size) (hres : f.resultTypes = #[tb]) (hvars : s.vars = [nm, nm2]) (hfn : ∀ g g2, s.fn H (ds ++ [g, g2]) = { results := [.lit (.bool true)], args := ds, vars := [g, g2] })
    (hW : DataW.Whole enc P f.params.toList s.vars false W args.toList ds gs before) (hg : Below W.heap.size W W') : s.post enc P f false true false false W args (.bool true) W' := by
  have hW' := hW
  obtain ⟨p, q, hA, hV, rfl, _, _⟩ := hW
  rw [hvars] at hV
  obtain ⟨g, _, _, _, d, _, _, _, _, _, d2, _, rfl, _⟩ := trodVars_two hV
  have hlt : ∀ x ∈ p, x.block < W.heap.size := DataW.TrodAll.lt hA
  refine ⟨ds, [d, d2], p ++ q, [], p, q, hW', ?_, ?_, ?_, World.keptBut_mono (fun x hx => ⟨hx, ?_⟩) (hg.frame (· ∈ p ++ q)), fun h => by cases h⟩
  · rw [hfn, hres]
    exact trodAll_cons_mk (shut_bool hb _) trodAll_mk0
  · rw [hfn]
    exact DataW.TrodAll.respare K full hpar (trodAll_below hg hA hlt) (fun x hx => by simpa using hlt x hx)
  · rw [hfn, hvars]
    exact Below.trodVars hlo hg hro hV
  · rcases List.mem_append.1 hx with h | h
    · exact .inr (.inl h)
    · exact .inr (.inr h)
end Go.Proofs.YtobhppkcgioheaaDoor
