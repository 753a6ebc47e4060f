/- Tables of strings: what their datum says of the cells; the two of the program. -/
import Derived.Test.YthngnbaoaeomeaaDoorTx0
import Derived.Test.YthngnbaoaeomeaaDoorTie
import Derived.Test.YthngnbaoaeomeaaDoorCards
import Derived.ProofKit
import Derived.LaidMore
import Derived.OpenShut
import Derived.OpenVars
import Derived.SevenTiedAt
import Derived.Laws.IdiomArrays
namespace Go.Proofs.YthngnbaoaeomeaaDoor
open Go.ChangeShapes Go.WideShapes Go.ChangeAt Go.RowKit Go.WideElems
set_option linter.unusedVariables false

theorem str_trod {W : World} {cs : List Value} {fuel : Nat} {p : List MemPlace} {t : TypeId} (ws : List (List UInt8)) (ha : Tryd.prog.underlying t = some (.array ws.length 9)) (h : DataW.trod (fun _ => ()) Tryd.prog W 0 (fun _ => true) false fuel t cs = some (.agg (ws.map fun x => .lit (.string x)), p)) :
    ∀ (j : Nat) x, ws[j]? = some x → cs[j]? = some (.string (bsT x)) := by
  have hu : Tryd.prog.underlying 9 = some .string := by kernel_rfl
  have hc : Tryd.prog.cellsOf 9 = 1 := by kernel_rfl
  obtain ⟨xs, m, _, e, hl, hxl, hg⟩ := DataW.trod_array ha h
  have ee := congrArg Prod.fst e
  simp only [DataW.agg.injEq] at ee
  intro j x hx
  have hj : j < ws.length := (List.getElem?_eq_some_iff.1 hx).1
  have h1 := hg j hj
  have hjx : j < xs.length := by omega
  rw [List.getElem?_eq_getElem hjx, hc] at h1
  obtain ⟨s, ek, xk, _⟩ := DataW.trod_string hu h1
  have h2 : (ws.map fun x => (.lit (.string x) : DataW Unit))[j]? = some (.lit (.string s.data.toList)) := by
    rw [ee, List.getElem?_map, List.getElem?_eq_getElem hjx, Option.map_some, xk]
  rw [List.getElem?_map, hx, Option.map_some] at h2
  have h3 : x = s.data.toList := by simpa using h2
  have h4 : bsT x = s := by rw [h3]; rfl
  have h5 : cs[j]? = some (.string s) := by
    have h6 := congrArg (fun l : List Value => l[0]?) ek
    simpa using h6
  rw [h5, h4]
def kindWs : List (List UInt8) := (List.range 6).map fun k : Nat => kindWL (k : Int)
def sideWs : List (List UInt8) := (List.range 4).map fun k : Nat => sideWL (k : Int)
/-- the variable holds the words -/
def SideAt (w : World) : Prop := (∀ k : Nat, k < 4 → w.cell? ⟨2, k, none⟩ = some (.string (bsT (sideWL (k : Int))))) ∧ 2 < w.heap.size
theorem SideAt.below {w w' : World} (h : SideAt w) (b : Below w.heap.size w w') : SideAt w' :=
  ⟨fun k hk => (b.cell (p := ⟨2, k, none⟩) h.2).trans (h.1 k hk), Nat.lt_of_lt_of_le h.2 b.size⟩
theorem SideAt_of {W : World} {cs : List Value} (hc : ∀ j, W.cell? ⟨2, j, none⟩ = cs[j]?) (ht : ∀ (j : Nat) x, sideWs[j]? = some x → cs[j]? = some (.string (bsT x))) : SideAt W := by
  have h0 : ∀ k : Nat, k < 4 → W.cell? ⟨2, k, none⟩ = some (.string (bsT (sideWL (k : Int)))) := fun k hk => by
    rw [hc k]
    exact ht k _ (by unfold sideWs; rw [List.getElem?_map, List.getElem?_range hk]; rfl)
  exact ⟨h0, World.block_lt_of_cell? W _ (h0 0 (by decide))⟩
theorem gSideAt : Tryd.prog.globalNamed "loop.example/g01274/impl.sideWords" = some 2 := by kernel_rfl
theorem tSideAt : (Tryd.prog.globals[2]?).map (·.type) = some 116 := by kernel_rfl
theorem dSideAt : (Rows.laid_loop_example_g01274_impl_sideWords : DataW Unit) = .agg (sideWs.map fun x => .lit (.string x)) := by rfl
theorem aSideAt : Tryd.prog.underlying 116 = some (.array sideWs.length 9) := by kernel_rfl
end Go.Proofs.YthngnbaoaeomeaaDoor
