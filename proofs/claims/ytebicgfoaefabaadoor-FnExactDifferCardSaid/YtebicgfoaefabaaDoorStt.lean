/- The table of TrailingZeros64, listed and tied: what the condition gives, a world that meets it, the law's end. -/
import Derived.Test.YtebicgfoaefabaaDoorTz
import Derived.Test.YtebicgfoaefabaaDoorTie
import Derived.Test.YtebicgfoaefabaaDoorCards
import Derived.ProofKit
import Derived.LaidMore
import Derived.OpenShut
import Derived.OpenVars
import Derived.SevenTiedAt
import Derived.Laws.IdiomArrays
namespace Go.Proofs.YtebicgfoaefabaaDoor
open Go.ChangeShapes Go.WideShapes Go.ChangeAt Go.RowKit Go.WideElems
set_option linter.unusedVariables false

theorem laidOut : laidOutB Tryd.prog = true := by kernel_rfl
theorem staysRowed : varsRowed Tryd.prog ["math/bits.deBruijn64tab"] = true := by kernel_rfl
theorem gTab : Tryd.prog.globalNamed "math/bits.deBruijn64tab" = some 1 := by kernel_rfl
theorem tTab : (Tryd.prog.globals[1]?).map (·.type) = some 78 := by kernel_rfl
def laid1 : List (String × DataW Unit) := [("math/bits.deBruijn64tab", Rows.laid_math_bits_deBruijn64tab)]
theorem door_met (os : Os) (args : Array Value) : laidMetH Tryd.prog laid1 ((World.doorLaid Tryd.prog 400 os).forCall (fun _ _ => 0) ⟨#[], args, []⟩).memory :=
  laidMetH_of_parts3 (fuel := 80) (laidMet_of_run' 80 (by kernel_rfl) (by kernel_rfl)) (by kernel_rfl) (by kernel_rfl)
theorem tab_data : (Rows.laid_math_bits_deBruijn64tab : DataW Unit) = .agg (Lib.deBruijn64tab.map fun n : Nat => .lit (.int .u8 (n : Int))) := by kernel_rfl
theorem tab_array : Tryd.prog.underlying 78 = some (.array 64 5) ∧ Tryd.prog.underlying 5 = some (.int .u8) ∧ Tryd.prog.cellsOf 5 = 1 := ⟨by kernel_rfl, by kernel_rfl, by kernel_rfl⟩
theorem tab_trod {W : World} {cs : List Value} {fuel : Nat} {p : List MemPlace} (h : DataW.trod (fun _ => ()) Tryd.prog W 0 (fun _ => true) false fuel 78 cs = some (Rows.laid_math_bits_deBruijn64tab, p)) :
    ∀ j, j < 64 → cs[j]? = some (.int .u8 (Lib.deBruijn64tab.getD j 0)) := by
  obtain ⟨ha, hu, hc⟩ := tab_array
  obtain ⟨xs, m, _, e, hl, hxl, hg⟩ := DataW.trod_array ha h
  have ee := congrArg Prod.fst e
  rw [tab_data] at ee
  simp only [DataW.agg.injEq] at ee
  intro j hj
  have h1 := hg j hj
  have hjx : j < xs.length := by omega
  rw [List.getElem?_eq_getElem hjx, hc] at h1
  obtain ⟨k, ek, xk, _⟩ := DataW.trod_int hu h1
  have h2 : (Lib.deBruijn64tab.map fun n : Nat => (.lit (.int .u8 (n : Int)) : DataW Unit))[j]? = some (.lit (.int .u8 k)) := by
    rw [ee, List.getElem?_map, List.getElem?_eq_getElem hjx, Option.map_some, xk]
  have hlt : j < Lib.deBruijn64tab.length := hj
  rw [List.getElem?_map, List.getElem?_eq_getElem hlt, Option.map_some] at h2
  have h3 : ((Lib.deBruijn64tab[j] : Nat) : Int) = k := by simpa using h2
  have h4 : cs[j]? = some (.int .u8 k) := by
    have h5 := congrArg (fun l : List Value => l[0]?) ek
    simpa using h5
  rw [h4, ← h3, List.getD_eq_getElem?_getD, List.getElem?_eq_getElem hlt]
  rfl
/-- the variable holds what it is laid with -/
def StayAt (w : World) : Prop := TabB 1 w
theorem StayAt.below {w w' : World} (h : StayAt w) (b : Below w.heap.size w w') : StayAt w' := TabB.below h b
theorem StayAt.kept {lo hi : Nat} {w w' : World} (h : StayAt w) (g : KeptOut lo hi w w') (h0 : 1 < lo) : StayAt w' := TabB.kept h g h0
theorem stay_of_laid {W : World} (h : laidMetH Tryd.prog laid1 W) : StayAt W := by
  rw [MakeChecks.laidMetH_plain _ _ _ (by kernel_rfl)] at h
  obtain ⟨ps, ⟨g0, t0, cs0, f0_, p0, q0, hg0, ht0, hv0, hd0, _, _⟩, _, _⟩ := h
  obtain rfl := Option.some.inj (gTab.symm.trans hg0)
  obtain rfl := Option.some.inj (tTab.symm.trans ht0)
  have ht := tab_trod hd0
  have hc : ∀ j, W.cell? ⟨1, j, none⟩ = cs0[j]? := fun j => World.var?_cell gTab hv0 j
  have h0 : ∀ j, j < 64 → W.cell? ⟨1, j, none⟩ = some (.int .u8 (Lib.deBruijn64tab.getD j 0)) := fun j hj => by rw [hc j, ← ht j hj]; simp
  exact ⟨h0, World.block_lt_of_cell? W _ (h0 0 (by decide))⟩
theorem law_post1 {H : Type} {enc : TypeId × Value → H} {P : Program} (K : Kids P (· < P.types.size)) (full : ∀ t e, t < P.types.size → P.underlying t = some (.slice e) → 0 < P.cellsOf e) (hlo : laidOutB P = true) {nm : String} (hro : varsRowed P [nm] = true)
    {f : Func} {s : ChangeSpec} {W W' : World} {args : Array Value} {ds gs : List (DataW H)} {before : List MemPlace} {tb : TypeId} (hb : P.underlying tb = some .bool)
    (hpar : ∀ t ∈ f.params.toList, t < P.types.size) (hres : f.resultTypes = #[tb]) (hvars : s.vars = []) (hfn : Unit → s.fn H ds = { results := [.lit (.bool true)], args := ds })
    (hW : DataW.Whole enc P f.params.toList s.vars false W args.toList ds gs before) (hg : Below W.heap.size W W') : s.post enc P f false true false false W args (.bool true) W' :=
  law_post K full hb hpar hres hvars (hfn ()) hW hg
end Go.Proofs.YtebicgfoaefabaaDoor
