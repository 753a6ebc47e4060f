/- OutputTables: both sides. -/
import Derived.Test.YtdnjamlibnmpfaaG21
namespace Go.Proofs.Ytdnjamlibnmpfaa
open Go.ChangeShapes Go.WideShapes Go.ChangeAt Go.RowKit Go.Joins Go.Deep
set_option linter.unusedVariables false
set_option linter.unusedSimpArgs false

/-- the tables at some places -/
def pickT (T : List Int) (p : List Int) : List Int := p.map fun x => T.getD x.toNat 0
theorem pickT_length (T p : List Int) : (pickT T p).length = p.length := by simp [pickT]
theorem pickT_get (T p : List Int) (i : Nat) (h : i < (pickT T p).length) (h' : i < p.length) : (pickT T p)[i] = T.getD (p[i]).toNat 0 := by simp [pickT]
theorem pickT_drop (T p : List Int) (j : Nat) (h : j < p.length) : pickT T (p.drop j) = T.getD (p[j]).toNat 0 :: pickT T (p.drop (j + 1)) := by rw [List.drop_eq_getElem_cons h]; rfl
theorem pickT_wf {T p : List Int} (h : UssWf T) : UssWf (pickT T p) := by
  intro x hx
  obtain ⟨y, _, rfl⟩ := List.mem_map.1 hx
  by_cases hy : y.toNat < T.length
  · rw [getD_at hy]; exact h _ (List.getElem_mem hy)
  · rw [List.getD_eq_getElem?_getD, List.getElem?_eq_none (by omega)]; decide
theorem slUs_someN {w : World} {T : List Int} {va : Option Addr} {vc N : Nat} (h : SlUs w T (.slice va N vc)) (h0 : 0 < T.length) : ∃ g o, va = some ⟨g, o, none⟩ ∧ UssAt w g o T ∧ g < w.heap.size ∧ T.length ≤ vc ∧ N = T.length := by
  generalize hv : Value.slice va N vc = v at h
  cases h with
  | empty _ _ h => rw [h] at h0; simp at h0
  | mk g o c h1 h2 h3 => cases hv; exact ⟨_, _, rfl, h1, h2, h3, rfl⟩
end Go.Proofs.Ytdnjamlibnmpfaa
