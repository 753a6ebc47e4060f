/- JoinBoards: the mathematics. -/
import Derived.Test.YtlmnoopoohdbkaaG4
import Derived.Test.YtlmnoopoohdbkaaG2
namespace Go.Proofs.Ytlmnoopoohdbkaa
open Go.ChangeShapes Go.WideShapes Go.ChangeAt Go.RowKit Go.Joins Go.Deep
set_option linter.unusedVariables false
set_option linter.unusedSimpArgs false

def jIn (wd hi : Int) (p : Pc) : Bool := decide (0 ≤ p.x ∧ p.x ≤ wd - 1 ∧ 0 ≤ p.y ∧ p.y ≤ hi - 1)
def jInR (wd hi : Int) (l' : List Pc) : Bool := l'.all (jIn wd hi)
def jFr (l : List Pc) (p : Pc) : Bool := decide (findFrom p.x p.y l 0 < 0)
def jFrR (l l' : List Pc) : Bool := l'.all (jFr l)
def jnQ (R R' : Bool) (wd hi : Int) (l l' : List Pc) : Int × Int × List Pc × Int :=
  if R = true ∧ R' = true then (if jInR wd hi l' = true then (if jFrR l l' = true then (if l.length + l'.length ≤ 200 then (wd, hi, l ++ l', 0) else (0, 0, [], 3)) else (0, 0, [], 4)) else (0, 0, [], 2)) else (0, 0, [], 1)
theorem jnQ_ok {R R' : Bool} {wd hi : Int} {l l' : List Pc} {Wr Hr : Int} {lr : List Pc} {C : Int} (h8 : All8 l) (h8' : All8 l') (h : jnQ R R' wd hi l l' = (Wr, Hr, lr, C)) : All8 lr ∧ lr.length ≤ 1048576 := by
  have hnil : All8 ([] : List Pc) ∧ ([] : List Pc).length ≤ 1048576 := ⟨fun p h => absurd h (by simp), by simp⟩
  unfold jnQ at h
  split at h
  · split at h
    · split at h
      · split at h
        · rename_i hl
          obtain ⟨_, _, rfl, _⟩ := four_inj h
          exact ⟨fun p hp => (List.mem_append.1 hp).elim (h8 p) (h8' p), by simp; omega⟩
        · obtain ⟨_, _, rfl, _⟩ := four_inj h; exact hnil
      · obtain ⟨_, _, rfl, _⟩ := four_inj h; exact hnil
    · obtain ⟨_, _, rfl, _⟩ := four_inj h; exact hnil
  · obtain ⟨_, _, rfl, _⟩ := four_inj h; exact hnil
theorem all_no {f : Pc → Bool} {l : List Pc} {j : Nat} (h : j < l.length) (hf : f l[j] = false) : l.all f = false := by
  rw [List.all_eq_false]
  exact ⟨l[j], List.getElem_mem h, by simp [hf]⟩
theorem all_yes {f : Pc → Bool} {l : List Pc} (h : ∀ i (hi : i < l.length), f l[i] = true) : l.all f = true := by
  rw [List.all_eq_true]
  intro x hx
  obtain ⟨i, hi, rfl⟩ := List.getElem_of_mem hx
  exact h i hi
end Go.Proofs.Ytlmnoopoohdbkaa
