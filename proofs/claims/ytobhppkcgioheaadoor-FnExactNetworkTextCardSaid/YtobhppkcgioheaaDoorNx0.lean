/- NetworkText: lists; the tables of words and of counts. -/
import Derived.Test.YtobhppkcgioheaaDoorTx2
import Derived.Test.YtobhppkcgioheaaDoorTw
import Derived.Test.YtobhppkcgioheaaDoorG20
import Derived.Lib.LaidTab
namespace Go.Proofs.YtobhppkcgioheaaDoor
open Go.ChangeShapes Go.WideShapes Go.ChangeAt Go.RowKit Go.Joins Go.Deep Go.WideElems
set_option linter.unusedVariables false
set_option linter.unusedSimpArgs false

def nodeWL (k : Int) : List UInt8 :=
  match k.toNat with
  | 0 => [105, 110]
  | 1 => [111, 110, 101]
  | 2 => [111, 114]
  | _ => [117, 110, 108, 101, 115, 115]
def nodeFN (k : Int) : Nat :=
  match k.toNat with
  | 0 => 1
  | 1 => 0
  | _ => 2
theorem nodeWL_len (k : Int) : (nodeWL k).length ≤ 6 := by unfold nodeWL; split <;> simp
def ndWs (x : Nd) : List (List UInt8) := [nodeWL x.kind, decL x.a, decL x.b].take (1 + nodeFN x.kind)
def ndLine (x : Nd) : List UInt8 := lineL (ndWs x)
def hdWs (ni : Int) (p : List Int) : List (List UInt8) := decL ni :: p.map decL
def nwL (ni : Int) (l : List Nd) (p : List Int) : List UInt8 := lineL (hdWs ni p) ++ l.flatMap ndLine
def ntQ (R : Bool) (ni : Int) (l : List Nd) (p : List Int) : List UInt8 := if R = true then nwL ni l p else []
def ndIn (x : Nd) : Prop := 0 ≤ x.kind ∧ x.kind ≤ 3 ∧ 0 ≤ x.a ∧ x.a < 80 ∧ 0 ≤ x.b ∧ x.b < 80
theorem ndIn_of {ni : Int} {l : List Nd} {p : List Int} (h : netOk ni l p = true) {x : Nd} (hx : x ∈ l) : ndIn x := by
  obtain ⟨i, hi, rfl⟩ := List.mem_iff_getElem.1 hx
  have hp := netOk_parts h
  have hc := nodeOk_cases (netOk_node h i hi)
  unfold ndIn
  omega
theorem hdWs_length (ni : Int) (p : List Int) : (hdWs ni p).length = p.length + 1 := by simp [hdWs]
theorem hdWs_zero (ni : Int) (p : List Int) : hdWs ni (p.take 0) = [decL ni] := by simp [hdWs]
theorem hdWs_succ (ni : Int) {p : List Int} {k : Nat} (h : k < p.length) : hdWs ni (p.take (k + 1)) = hdWs ni (p.take k) ++ [decL p[k]] := by
  unfold hdWs
  rw [List.take_succ_eq_append_getElem h, List.map_append]
  simp
theorem ndLine_len {x : Nd} (h : ndIn x) : (ndLine x).length ≤ 22 := by
  unfold ndIn at h
  have h1 := lineL_len (m := 6) (ws := ndWs x) (fun y hy => by
    have hy2 := List.mem_of_mem_take hy
    simp only [List.mem_cons, List.not_mem_nil, or_false] at hy2
    rcases hy2 with rfl | rfl | rfl
    · exact nodeWL_len _
    · have := decL_len2 (n := x.a) (by omega); omega
    · have := decL_len2 (n := x.b) (by omega); omega)
  have h2 : (ndWs x).length ≤ 3 := by unfold ndWs; rw [List.length_take]; exact Nat.min_le_right _ _
  unfold ndLine
  omega
theorem hd_small {ni : Int} {p : List Int} (h0 : ni < 100) (h1 : ∀ x ∈ p, x < 100) : ∀ y ∈ hdWs ni p, y.length ≤ 2 := by
  intro y hy
  unfold hdWs at hy
  rcases List.mem_cons.1 hy with rfl | hy
  · exact decL_len2 h0
  · obtain ⟨x, hx, rfl⟩ := List.mem_map.1 hy
    exact decL_len2 (h1 x hx)
theorem hd_len {ni : Int} {p : List Int} (h0 : ni < 100) (h1 : ∀ x ∈ p, x < 100) : (lineL (hdWs ni p)).length ≤ (p.length + 1) * 3 + 1 := by
  have h2 := lineL_len (m := 2) (ws := hdWs ni p) (hd_small h0 h1)
  rw [hdWs_length] at h2
  exact h2
theorem nwL_len {ni : Int} {p : List Int} (h0 : ni < 100) (h1 : ∀ x ∈ p, x < 100) : ∀ (r : List Nd), (∀ x ∈ r, ndIn x) → (nwL ni r p).length ≤ (p.length + 1) * 3 + 1 + r.length * 22 := by
  intro r h
  have hh := hd_len h0 h1
  unfold nwL
  rw [List.length_append]
  have key : ∀ (r : List Nd), (∀ x ∈ r, ndIn x) → (r.flatMap ndLine).length ≤ r.length * 22 := by
    intro r
    induction r with
    | nil => intro _; simp
    | cons x r ih =>
      intro h
      have h1 := ih (fun q hq => h q (List.mem_cons_of_mem _ hq))
      have h2 := ndLine_len (h x (List.mem_cons_self ..))
      rw [List.flatMap_cons, List.length_append, List.length_cons]
      omega
  have := key r h
  omega
theorem nwL_zero (ni : Int) (l : List Nd) (p : List Int) : nwL ni (l.take 0) p = lineL (hdWs ni p) := by simp [nwL]
theorem nwL_succ (ni : Int) {l : List Nd} {k : Nat} (p : List Int) (h : k < l.length) : nwL ni (l.take (k + 1)) p = nwL ni (l.take k) p ++ ndLine l[k] := by
  unfold nwL
  rw [List.take_succ_eq_append_getElem h, List.flatMap_append, List.append_assoc]
  simp
def nodeWs : List (List UInt8) := (List.range 4).map fun k : Nat => nodeWL (k : Int)
def nodeFs : List Int := [1, 0, 2, 2]
/-- the variable holds the words -/
def NodeAt (w : World) : Prop := (∀ k : Nat, k < 4 → w.cell? ⟨0, k, none⟩ = some (.string (bsT (nodeWL (k : Int))))) ∧ 0 < w.heap.size
theorem NodeAt.below {w w' : World} (h : NodeAt w) (b : Below w.heap.size w w') : NodeAt w' :=
  ⟨fun k hk => (b.cell (p := ⟨0, k, none⟩) h.2).trans (h.1 k hk), Nat.lt_of_lt_of_le h.2 b.size⟩
theorem NodeAt_of {W : World} {cs : List Value} (hc : ∀ j, W.cell? ⟨0, j, none⟩ = cs[j]?) (ht : ∀ (j : Nat) x, nodeWs[j]? = some x → cs[j]? = some (.string (bsT x))) : NodeAt W := by
  have h0 : ∀ k : Nat, k < 4 → W.cell? ⟨0, k, none⟩ = some (.string (bsT (nodeWL (k : Int)))) := fun k hk => by
    rw [hc k]
    exact ht k _ (by unfold nodeWs; rw [List.getElem?_map, List.getElem?_range hk]; rfl)
  exact ⟨h0, World.block_lt_of_cell? W _ (h0 0 (by decide))⟩
theorem gNodeAt : Tryd.prog.globalNamed "loop.example/g01274/impl.nodeWords" = some 0 := by kernel_rfl
theorem tNodeAt : (Tryd.prog.globals[0]?).map (·.type) = some 146 := by kernel_rfl
theorem dNodeAt : (Rows.laid_loop_example_g01274_impl_nodeWords : DataW Unit) = .agg (nodeWs.map fun x => .lit (.string x)) := by rfl
theorem aNodeAt : Tryd.prog.underlying 146 = some (.array nodeWs.length 9) := by kernel_rfl
/-- the variable holds the counts -/
def FieldAt (w : World) : Prop := (∀ k : Nat, k < 4 → w.cell? ⟨1, k, none⟩ = some (.int .i64 ((nodeFN (k : Int) : Nat) : Int))) ∧ 1 < w.heap.size
theorem FieldAt.below {w w' : World} (h : FieldAt w) (b : Below w.heap.size w w') : FieldAt w' :=
  ⟨fun k hk => (b.cell (p := ⟨1, k, none⟩) h.2).trans (h.1 k hk), Nat.lt_of_lt_of_le h.2 b.size⟩
theorem FieldAt_of {W : World} (hc : ∀ j, W.cell? ⟨1, j, none⟩ = (nodeFs.map fun z => Value.int .i64 z)[j]?) : FieldAt W := by
  have h0 : ∀ k : Nat, k < 4 → W.cell? ⟨1, k, none⟩ = some (.int .i64 ((nodeFN (k : Int) : Nat) : Int)) := fun k hk => by
    rw [hc k]
    have h4 : k = 0 ∨ k = 1 ∨ k = 2 ∨ k = 3 := by omega
    rcases h4 with rfl | rfl | rfl | rfl <;> rfl
  exact ⟨h0, World.block_lt_of_cell? W _ (h0 0 (by decide))⟩
theorem gFieldAt : Tryd.prog.globalNamed "loop.example/g01274/impl.nodeFields" = some 1 := by kernel_rfl
theorem tFieldAt : (Tryd.prog.globals[1]?).map (·.type) = some 147 := by kernel_rfl
theorem dFieldAt : (Rows.laid_loop_example_g01274_impl_nodeFields : DataW Unit) = Lib.tabData .i64 nodeFs := by rfl
theorem aFieldAt : Tryd.prog.underlying 147 = some (.array 4 3) ∧ Tryd.prog.underlying 3 = some (.int .i64) ∧ Tryd.prog.cellsOf 3 = 1 ∧ Tryd.prog.cellsOf 147 = 4 := ⟨by kernel_rfl, by kernel_rfl, by kernel_rfl, by kernel_rfl⟩
end Go.Proofs.YtobhppkcgioheaaDoor
