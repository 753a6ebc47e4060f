/- Texts: own rows of strings. -/
import Derived.Test.YthngnbaoaeomeaaDoorTx1
import Derived.Test.YthngnbaoaeomeaaDoorG4
namespace Go.Proofs.YthngnbaoaeomeaaDoor
open Go.ChangeShapes Go.WideShapes Go.ChangeAt Go.RowKit Go.Joins Go.Deep
set_option linter.unusedVariables false
set_option linter.unusedSimpArgs false

theorem info_str : (Tryd.prog.info? 9).map (fun i => (i.zero, i.size, i.bytes)) = some (some (.string ⟨#[]⟩), 1, 16) := by kernel_rfl
def strV (ws : List (List UInt8)) : List Value := ws.map fun x => Value.string (bsT x)
theorem strV_length (ws : List (List UInt8)) : (strV ws).length = ws.length := by simp [strV]
theorem strV_end (ws : List (List UInt8)) (x : List UInt8) : strV (ws ++ [x]) = strV ws ++ [.string (bsT x)] := by simp [strV]
theorem strV_one (ws : List (List UInt8)) : ∀ u ∈ strV ws, u.oneCell' = true := by
  intro u hu
  simp only [strV, List.mem_map] at hu
  obtain ⟨x, _, rfl⟩ := hu
  rfl
theorem own_str {w : World} {base n : Nat} {e : TypeId} {v : Value} {ws : List (List UInt8)} (h : w.ownsRow base e 1 v n (strV ws)) (h0 : 0 < n) : ∃ g c, v = .slice (some ⟨g, 0, none⟩) n c ∧ n ≤ c ∧ g < w.heap.size ∧ ∀ (j : Nat) x, ws[j]? = some x → w.cell? ⟨g, 0 + j, none⟩ = some (.string (bsT x)) := by
  have hl := h.1
  rw [strV_length] at hl
  rcases h.2 with ⟨h1, h2⟩ | ⟨g, c, cur, h1, h2, h3, h4, h5, h6, h7⟩
  · omega
  · refine ⟨g, c, h1, h4, (Array.getElem?_eq_some_iff.1 h3).1, fun j x hx => ?_⟩
    have hj : j < ws.length := (List.getElem?_eq_some_iff.1 hx).1
    have e1 : (strV ws)[j]? = some (.string (bsT x)) := by simp [strV, hx]
    rw [Nat.mul_one] at h7
    rw [← h7, List.getElem?_take_of_lt (by omega)] at e1
    rw [Nat.zero_add, cell_of_row w g j _ _ _ h3]
    simpa using e1
theorem join_snoc (xs : List (List UInt8)) (y sep : List UInt8) (h : xs ≠ []) : Lib.join (xs ++ [y]) sep = Lib.join xs sep ++ (sep ++ y) := by
  cases xs with
  | nil => exact absurd rfl h
  | cons x r =>
    rw [List.cons_append, Lib.join_cons, Lib.join_cons]
    simp [Lib.joinTail]
theorem join_len (m : Nat) : ∀ (ws : List (List UInt8)), (∀ x ∈ ws, x.length ≤ m) → (Lib.join ws [32]).length ≤ ws.length * (m + 1) := by
  intro ws h
  have h1 := lineL_len h
  unfold lineL at h1
  rw [List.length_append] at h1
  simp only [List.length_cons, List.length_nil] at h1
  omega
end Go.Proofs.YthngnbaoaeomeaaDoor
