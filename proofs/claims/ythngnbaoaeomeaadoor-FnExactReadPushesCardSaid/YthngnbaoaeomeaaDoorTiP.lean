/- The library's sentinels and the tables of words, listed and tied. -/
import Derived.Test.YthngnbaoaeomeaaDoorRd1
import Derived.Test.YthngnbaoaeomeaaDoorPx0
import Derived.Test.YthngnbaoaeomeaaDoorTie
import Derived.Test.YthngnbaoaeomeaaDoorCards
import Derived.ProofKit
import Derived.LaidMore
import Derived.OpenShut
import Derived.OpenVars
import Derived.SevenTiedAt
import Derived.Laws.IdiomArrays
import Derived.Stop.LaidErr
import Derived.Lib.LaidTab
import Derived.Lay
namespace Go.Proofs.YthngnbaoaeomeaaDoor
open Go.ChangeShapes Go.WideShapes Go.ChangeAt Go.RowKit Go.WideElems
set_option linter.unusedVariables false

theorem laidOut : laidOutB Tryd.prog = true := by kernel_rfl
theorem staysRowed : varsRowed Tryd.prog ["loop.example/g01274/impl.sideWords"] = true := by kernel_rfl
def laid1 : List (String × DataW Unit) := [("math/bits.deBruijn32tab", Rows.laid_math_bits_deBruijn32tab), ("math/bits.deBruijn64tab", Rows.laid_math_bits_deBruijn64tab), ("internal/strconv.uint64pow10", Rows.laid_internal_strconv_uint64pow10), ("unicode/utf8.acceptRanges", Rows.laid_unicode_utf8_acceptRanges), ("strconv.ErrRange", Rows.laid_strconv_ErrRange), ("strconv.ErrSyntax", Rows.laid_strconv_ErrSyntax), ("loop.example/g01274/impl.sideWords", Rows.laid_loop_example_g01274_impl_sideWords), ("unicode/utf8.first", Rows.laid_unicode_utf8_first)]
theorem door_met (os : Os) (args : Array Value) : laidMetH Tryd.prog laid1 ((World.laidAll Tryd.prog os laid1).forCall (fun _ _ => 0) ⟨#[], args, []⟩).memory := by
  rw [MakeChecks.laidMetH_plain _ _ _ (by kernel_rfl)]
  exact laidMet_laidAll _ (by kernel_rfl) (by kernel_rfl)
theorem starE : "*" ++ "errors.errorString" = "*errors.errorString" := by decide
theorem rowE (u : TypeId) (h : Tryd.prog.typeName? 3 u = some "*errors.errorString") : u = 196 :=
  typeName_ptr_named (nm := "errors.errorString") (by rw [starE]; kernel_rfl) (by kernel_rfl) (by decide) u (by rw [starE]; exact h)
structure StayAt (w : World) : Prop where
  err : ErrAt w
  side : SideAt w
  pow : PowAt w
theorem StayAt.below {w w' : World} (h : StayAt w) (b : Below w.heap.size w w') : StayAt w' := ⟨h.err.below b, h.side.below b, h.pow.below b⟩
theorem tPow : (Tryd.prog.globals[6]?).map (·.type) = some 185 := by kernel_rfl
theorem dPow : (Rows.laid_internal_strconv_uint64pow10 : DataW Unit) = Lib.tabData .u64 Lib.pow10Tab := by kernel_rfl
theorem aPow : Tryd.prog.underlying 185 = some (.array 20 165) ∧ Tryd.prog.underlying 165 = some (.int .u64) ∧ Tryd.prog.cellsOf 165 = 1 ∧ Tryd.prog.cellsOf 185 = 20 := ⟨by kernel_rfl, by kernel_rfl, by kernel_rfl, by kernel_rfl⟩
theorem stay_of_laid {W : World} (h : laidMetH Tryd.prog laid1 W) : StayAt W := by
  rw [MakeChecks.laidMetH_plain _ _ _ (by kernel_rfl)] at h
  obtain ⟨a1, s1, hv1, _⟩ := laid_sentinel h.tail.tail.tail.tail (show Tryd.prog.globalNamed "strconv.ErrRange" = some 5 by kernel_rfl) (show (Tryd.prog.globals[5]?).map (·.type) = some 112 by kernel_rfl) Tryd.underlying112 rowE Tryd.underlying196 Tryd.underlying198 rfl rfl Tryd.underlying9 (by kernel_rfl) (by kernel_rfl)
  obtain ⟨a2, s2, hv2, _⟩ := laid_sentinel h.tail.tail.tail.tail.tail (show Tryd.prog.globalNamed "strconv.ErrSyntax" = some 4 by kernel_rfl) (show (Tryd.prog.globals[4]?).map (·.type) = some 112 by kernel_rfl) Tryd.underlying112 rowE Tryd.underlying196 Tryd.underlying198 rfl rfl Tryd.underlying9 (by kernel_rfl) (by kernel_rfl)
  have e1 := World.var?_cell (show Tryd.prog.globalNamed "strconv.ErrRange" = some 5 by kernel_rfl) hv1 0
  have e2 := World.var?_cell (show Tryd.prog.globalNamed "strconv.ErrSyntax" = some 4 by kernel_rfl) hv2 0
  have hE : ErrAt W := ⟨⟨_, _, e2⟩, _, _, e1⟩
  obtain ⟨ps, ⟨g3, t3, cs3, f3_, p3, q3, hg3, ht3, hv3, hd3, _, _⟩, _, _⟩ := h.tail.tail.tail.tail.tail.tail
  obtain rfl := Option.some.inj (gSideAt.symm.trans hg3)
  obtain rfl := Option.some.inj (tSideAt.symm.trans ht3)
  rw [dSideAt] at hd3
  have ht := str_trod _ aSideAt hd3
  have hc := fun j => World.var?_cell gSideAt hv3 j
  obtain ⟨_, ⟨g2, t2, cs2, f2_, p2, q2, hg2, ht2, hv2, hd2, _, _⟩, _, _⟩ := h.tail.tail
  obtain rfl := Option.some.inj (gPow.symm.trans hg2)
  obtain rfl := Option.some.inj (tPow.symm.trans ht2)
  rw [dPow] at hd2
  have hT : Lib.TabIs Tryd.prog W "internal/strconv.uint64pow10" .u64 Lib.pow10Tab := by
    have hc2 := Lib.cells_of_tab aPow.1 aPow.2.1 aPow.2.2.1 aPow.2.2.2 hd2
    unfold Lib.TabIs
    rw [hv2, ← hc2]
  have hP : PowAt W := ⟨hT, World.block_lt_of_cell? W _ (hT.cell gPow 0 (by decide))⟩
  exact ⟨hE, SideAt_of (cs := cs3.toList) (fun j => (hc j).trans (by simp)) ht, hP⟩
theorem law_post1 {H : Type} {enc : TypeId × Value → H} {P : Program} (K : Kids P (· < P.types.size)) (full : ∀ t e, t < P.types.size → P.underlying t = some (.slice e) → 0 < P.cellsOf e) (hlo : laidOutB P = true) {nm : String} (hro : varsRowed P [nm] = true)
    {f : Func} {s : ChangeSpec} {W W' : World} {args : Array Value} {ds gs : List (DataW H)} {before : List MemPlace} {tb : TypeId} (hb : P.underlying tb = some .bool)
    (hpar : ∀ t ∈ f.params.toList, t < P.types.size) (hres : f.resultTypes = #[tb]) (hvars : s.vars = [nm]) (hfn : ∀ g, s.fn H (ds ++ [g]) = { results := [.lit (.bool true)], args := ds, vars := [g] })
    (hW : DataW.Whole enc P f.params.toList s.vars false W args.toList ds gs before) (hg : Below W.heap.size W W') : s.post enc P f false true false false W args (.bool true) W' := by
  have hW' := hW
  obtain ⟨p, q, hA, hV, rfl, _, _⟩ := hW
  rw [hvars] at hV
  obtain ⟨g, _, _, _, d, _, rfl, _⟩ := trodVars_one hV
  have hlt : ∀ x ∈ p, x.block < W.heap.size := DataW.TrodAll.lt hA
  refine ⟨ds, [d], p ++ q, [], p, q, hW', ?_, ?_, ?_, World.keptBut_mono (fun x hx => ⟨hx, ?_⟩) (hg.frame (· ∈ p ++ q)), fun h => by cases h⟩
  · rw [hfn, hres]
    exact trodAll_cons_mk (shut_bool hb _) trodAll_mk0
  · rw [hfn]
    exact DataW.TrodAll.respare K full hpar (trodAll_below hg hA hlt) (fun x hx => by simpa using hlt x hx)
  · rw [hfn, hvars]
    exact Below.trodVars hlo hg hro hV
  · rcases List.mem_append.1 hx with h | h
    · exact .inr (.inl h)
    · exact .inr (.inr h)
end Go.Proofs.YthngnbaoaeomeaaDoor
