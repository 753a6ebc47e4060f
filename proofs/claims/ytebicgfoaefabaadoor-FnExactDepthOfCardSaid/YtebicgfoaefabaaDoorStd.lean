/- The package's variable 'nodeDepths', listed and tied: what the condition gives, a world that meets it, the law's end. -/
import Derived.Test.YtebicgfoaefabaaDoorDps
import Derived.Test.YtebicgfoaefabaaDoorTie
import Derived.Test.YtebicgfoaefabaaDoorCards
import Derived.ProofKit
import Derived.LaidMore
import Derived.OpenShut
import Derived.OpenVars
import Derived.SevenTiedAt
import Derived.Laws.IdiomArrays
namespace Go.Proofs.YtebicgfoaefabaaDoor
open Go.ChangeShapes Go.WideShapes Go.ChangeAt Go.RowKit Go.WideElems
set_option linter.unusedVariables false

theorem gStays : Tryd.prog.globalNamed "loop.example/g01274/impl.nodeDepths" = some 0 := by kernel_rfl
theorem tStays : (Tryd.prog.globals[0]?).map (·.type) = some 59 := by kernel_rfl
theorem laidOut : laidOutB Tryd.prog = true := by kernel_rfl
theorem staysRowed : varsRowed Tryd.prog ["loop.example/g01274/impl.nodeDepths"] = true := by kernel_rfl
def laid1 : List (String × DataW Unit) := [("loop.example/g01274/impl.nodeDepths", Rows.laid_loop_example_g01274_impl_nodeDepths)]
theorem door_met (os : Os) (args : Array Value) : laidMetH Tryd.prog laid1 ((World.doorLaid Tryd.prog 400 os).forCall (fun _ _ => 0) ⟨#[], args, []⟩).memory :=
  laidMetH_of_parts3 (fuel := 8) (laidMet_of_run' 8 (by kernel_rfl) (by kernel_rfl)) (by kernel_rfl) (by kernel_rfl)
/-- the variable holds what it is laid with -/
def StayAt (w : World) : Prop := DpAt w
theorem StayAt.below {w w' : World} (h : StayAt w) (b : Below w.heap.size w w') : StayAt w' := DpAt.below h b
theorem StayAt.kept {lo hi : Nat} {w w' : World} (h : StayAt w) (g : KeptOut lo hi w w') (h0 : 0 < lo) : StayAt w' :=
  ⟨⟨(g.cell h.2 (.inl h0)).trans h.1.1, (g.cell h.2 (.inl h0)).trans h.1.2.1, (g.cell h.2 (.inl h0)).trans h.1.2.2.1, (g.cell h.2 (.inl h0)).trans h.1.2.2.2⟩, Nat.lt_of_lt_of_le h.2 g.size⟩
theorem four_array : Tryd.prog.underlying 59 = some (.array 4 2) ∧ Tryd.prog.underlying 2 = some (.int .i64) ∧ Tryd.prog.cellsOf 2 = 1 ∧ Tryd.prog.cellsOf 59 = 4 := ⟨by kernel_rfl, by kernel_rfl, by kernel_rfl, by kernel_rfl⟩
theorem stay_of_laid {W : World} (h : laidMetH Tryd.prog laid1 W) : StayAt W := by
  rw [MakeChecks.laidMetH_plain _ _ _ (by kernel_rfl)] at h
  obtain ⟨ps, ⟨g0, t0, cs0, f0_, p0, q0, hg0, ht0, hv0, hd0, _, _⟩, _, _⟩ := h
  obtain rfl := Option.some.inj (gStays.symm.trans hg0)
  obtain rfl := Option.some.inj (tStays.symm.trans ht0)
  obtain ⟨ha, hu, hc1, hc4⟩ := four_array
  obtain ⟨L⟩ := cs0
  have hl : L.length = 4 := by
    obtain ⟨xs, m, _, _, hl, _, _⟩ := DataW.trod_array ha hd0
    rw [hc4] at hl
    exact hl
  match L, hl, hd0, hv0 with
  | [a, b, c, d], _, hd0, hv0 =>
    obtain ⟨y0, y1, y2, y3, n, e, h0, h1, h2, h3⟩ := trod_array4 ha hc1 hd0
    obtain ⟨k0, e0, x0, _⟩ := DataW.trod_int hu h0
    obtain ⟨k1, e1, x1, _⟩ := DataW.trod_int hu h1
    obtain ⟨k2, e2, x2, _⟩ := DataW.trod_int hu h2
    obtain ⟨k3, e3, x3, _⟩ := DataW.trod_int hu h3
    have ee := congrArg Prod.fst e
    simp only [Rows.laid_loop_example_g01274_impl_nodeDepths, x0, x1, x2, x3, DataW.agg.injEq, List.cons.injEq, DataW.lit.injEq, Lit.int.injEq, true_and, and_true] at ee
    obtain ⟨r0, r1, r2, r3⟩ := ee
    simp at e0 e1 e2 e3
    subst e0 e1 e2 e3 r0 r1 r2 r3
    have hc : ∀ j, W.cell? ⟨0, j, none⟩ = (#[Value.int .i64 0, .int .i64 1, .int .i64 2, .int .i64 3] : Array Value)[j]? := fun j => World.var?_cell gStays hv0 j
    have c0 : W.cell? ⟨0, 0, none⟩ = some (.int .i64 0) := hc 0
    exact ⟨⟨c0, hc 1, hc 2, hc 3⟩, World.block_lt_of_cell? W _ c0⟩
theorem law_post1 {H : Type} {enc : TypeId × Value → H} {P : Program} (K : Kids P (· < P.types.size)) (full : ∀ t e, t < P.types.size → P.underlying t = some (.slice e) → 0 < P.cellsOf e) (hlo : laidOutB P = true) {nm : String} (hro : varsRowed P [nm] = true)
    {f : Func} {s : ChangeSpec} {W W' : World} {args : Array Value} {ds gs : List (DataW H)} {before : List MemPlace} {tb : TypeId} (hb : P.underlying tb = some .bool)
    (hpar : ∀ t ∈ f.params.toList, t < P.types.size) (hres : f.resultTypes = #[tb]) (hvars : s.vars = [nm]) (hfn : ∀ g, s.fn H (ds ++ [g]) = { results := [.lit (.bool true)], args := ds, vars := [g] })
    (hW : DataW.Whole enc P f.params.toList s.vars false W args.toList ds gs before) (hg : Below W.heap.size W W') : s.post enc P f false true false false W args (.bool true) W' := by
  have hW' := hW
  obtain ⟨p, q, hA, hV, rfl, _, _⟩ := hW
  rw [hvars] at hV
  obtain ⟨g, _, _, _, d, _, rfl, _⟩ := trodVars_one hV
  have hlt : ∀ x ∈ p, x.block < W.heap.size := DataW.TrodAll.lt hA
  refine ⟨ds, [d], p ++ q, [], p, q, hW', ?_, ?_, ?_, World.keptBut_mono (fun x hx => ⟨hx, ?_⟩) (hg.frame (· ∈ p ++ q)), fun h => by cases h⟩
  · rw [hfn, hres]
    exact trodAll_cons_mk (shut_bool hb _) trodAll_mk0
  · rw [hfn]
    exact DataW.TrodAll.respare K full hpar (trodAll_below hg hA hlt) (fun x hx => by simpa using hlt x hx)
  · rw [hfn, hvars]
    exact Below.trodVars hlo hg hro hV
  · rcases List.mem_append.1 hx with h | h
    · exact .inr (.inl h)
    · exact .inr (.inr h)
end Go.Proofs.YtebicgfoaefabaaDoor
