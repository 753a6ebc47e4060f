/- BoardText: lists. -/
import Derived.Test.YtobhppkcgioheaaDoorTx2
import Derived.Test.YtobhppkcgioheaaDoorTw
import Derived.Test.YtobhppkcgioheaaDoorG2
namespace Go.Proofs.YtobhppkcgioheaaDoor
open Go.ChangeShapes Go.WideShapes Go.ChangeAt Go.RowKit Go.Joins Go.Deep
set_option linter.unusedVariables false
set_option linter.unusedSimpArgs false

def pcWs (p : Pc) : List (List UInt8) := [decL p.x, decL p.y, kindWL p.kind, decL p.turn, decL p.delay]
def pcLine (p : Pc) : List UInt8 := lineL (pcWs p)
def bdL (wd hi : Int) (r : List Pc) : List UInt8 := lineL [decL wd, decL hi] ++ r.flatMap pcLine
def btQ (R : Bool) (wd hi : Int) (l : List Pc) : List UInt8 := if R = true then bdL wd hi l else []
def pcIn (p : Pc) : Prop := 0 ≤ p.x ∧ p.x ≤ 23 ∧ 0 ≤ p.y ∧ p.y ≤ 23 ∧ 0 ≤ p.kind ∧ p.kind ≤ 5 ∧ 0 ≤ p.turn ∧ p.turn ≤ 3 ∧ 1 ≤ p.delay ∧ p.delay ≤ 9
theorem pcIn_of {wd hi : Int} {l : List Pc} (h : boardOk wd hi l = true) {p : Pc} (hp : p ∈ l) : pcIn p := by
  have := boardOk_ok h p hp
  unfold Pc.ok at this
  simp at this
  unfold pcIn
  omega
theorem pcLine_len {p : Pc} (h : pcIn p) : (pcLine p).length ≤ 36 := by
  unfold pcIn at h
  refine lineL_len (m := 6) (ws := pcWs p) (fun x hx => ?_)
  simp only [pcWs, List.mem_cons, List.not_mem_nil, or_false] at hx
  rcases hx with rfl | rfl | rfl | rfl | rfl
  · have := decL_len2 (n := p.x) (by omega); omega
  · have := decL_len2 (n := p.y) (by omega); omega
  · exact kindWL_len _
  · have := decL_len2 (n := p.turn) (by omega); omega
  · have := decL_len2 (n := p.delay) (by omega); omega
theorem bdL_len {wd hi : Int} (h1 : wd < 100) (h2 : hi < 100) : ∀ (r : List Pc), (∀ p ∈ r, pcIn p) → (bdL wd hi r).length ≤ 10 + r.length * 36 := by
  intro r h
  have h0 : (lineL [decL wd, decL hi]).length ≤ 10 := by
    have := lineL_len (m := 2) (ws := [decL wd, decL hi]) (fun x hx => by
      simp only [List.mem_cons, List.not_mem_nil, or_false] at hx
      rcases hx with rfl | rfl
      · exact decL_len2 h1
      · exact decL_len2 h2)
    simp only [List.length_cons, List.length_nil] at this
    omega
  unfold bdL
  rw [List.length_append]
  have key : ∀ (r : List Pc), (∀ p ∈ r, pcIn p) → (r.flatMap pcLine).length ≤ r.length * 36 := by
    intro r
    induction r with
    | nil => intro _; simp
    | cons p r ih =>
      intro h
      have h1 := ih (fun q hq => h q (List.mem_cons_of_mem _ hq))
      have h2 := pcLine_len (h p (List.mem_cons_self ..))
      rw [List.flatMap_cons, List.length_append, List.length_cons]
      omega
  have := key r h
  omega
theorem bdL_zero (wd hi : Int) (l : List Pc) : bdL wd hi (l.take 0) = lineL [decL wd, decL hi] := by simp [bdL]
theorem bdL_succ (wd hi : Int) {l : List Pc} {k : Nat} (h : k < l.length) : bdL wd hi (l.take (k + 1)) = bdL wd hi (l.take k) ++ pcLine l[k] := by
  unfold bdL
  rw [List.take_succ_eq_append_getElem h, List.flatMap_append, List.append_assoc]
  simp
theorem bd_sides {wd hi : Int} {l : List Pc} (h : boardOk wd hi l = true) : 1 ≤ wd ∧ wd ≤ 24 ∧ 1 ≤ hi ∧ hi ≤ 24 ∧ l.length ≤ 200 := by
  simp only [boardOk, Bool.and_eq_true, decide_eq_true_eq] at h
  omega
end Go.Proofs.YtobhppkcgioheaaDoor
