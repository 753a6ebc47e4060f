/- Slices of the type Cell that a call has made: where they lie; the laws' own marking of them; copies. -/
import Derived.Test.YtmllfacgonchnaaDoorCl
import Derived.Test.YtmllfacgonchnaaDoorG4
namespace Go.Proofs.YtmllfacgonchnaaDoor
open Go.ChangeShapes Go.WideShapes Go.ChangeAt Go.RowKit Go.Joins Go.Deep
set_option linter.unusedVariables false

theorem ClsAt.out {lo hi : Nat} {w w' : World} {b o : Nat} {l : List Cl} (h : ClsAt w b o l) (g : KeptOut lo hi w w') (hb : b < w.heap.size) (ho : b < lo ∨ hi ≤ b) : ClsAt w' b o l := by
  intro i hi'
  obtain ⟨h0, h1⟩ := h i hi'
  exact ⟨(g.cell hb ho).trans h0, (g.cell hb ho).trans h1⟩
inductive SlWCl (lo hi : Nat) (w : World) (l : List Cl) : Value → Prop where
  | empty (a : Option Addr) (cap : Nat) (h : l = []) : SlWCl lo hi w l (.slice a 0 cap)
  | mk (b o cap : Nat) (hc : ClsAt w b o l) (h1 : lo ≤ b) (h2 : b < hi) (hb : b < w.heap.size) (hf : ∀ j, w.frozen? ⟨b, j, none⟩ = false) (hl : l.length ≤ cap) : SlWCl lo hi w l (.slice (some ⟨b, o, none⟩) l.length cap)
theorem SlWCl.sl {lo hi : Nat} {w : World} {l : List Cl} {v : Value} (h : SlWCl lo hi w l v) : SlCl w l v := by
  cases h with
  | empty a cap h => exact .empty a cap h
  | mk b o cap hc _ _ hb _ hl => exact .mk b o cap hc hb hl
theorem SlWCl.below {lo hi : Nat} {w w' : World} {l : List Cl} {v : Value} (h : SlWCl lo hi w l v) (g : Below w.heap.size w w') : SlWCl lo hi w' l v := by
  cases h with
  | empty a cap h => exact .empty a cap h
  | mk b o cap hc h1 h2 hb hf hl => exact .mk b o cap (hc.below g hb) h1 h2 (Nat.lt_of_lt_of_le hb g.size) (fun j => (g.frozen (p := ⟨b, j, none⟩) hb).trans (hf j)) hl
theorem SlWCl.out {lo hi lo2 hi2 : Nat} {w w' : World} {l : List Cl} {v : Value} (h : SlWCl lo hi w l v) (g : KeptOut lo2 hi2 w w') (ho : hi ≤ lo2 ∨ hi2 ≤ lo) : SlWCl lo hi w' l v := by
  cases h with
  | empty a cap h => exact .empty a cap h
  | mk b o cap hc h1 h2 hb hf hl => exact .mk b o cap (hc.out g hb (by omega)) h1 h2 (Nat.lt_of_lt_of_le hb g.size) (fun j => (g.frozen hb (by omega)).trans (hf j)) hl
theorem SlWCl.mono {lo hi lo2 hi2 : Nat} {w : World} {l : List Cl} {v : Value} (h : SlWCl lo hi w l v) (h1 : lo2 ≤ lo) (h2 : hi ≤ hi2) : SlWCl lo2 hi2 w l v := by
  cases h with
  | empty a cap h => exact .empty a cap h
  | mk b o cap hc h1 h2 hb hf hl => exact .mk b o cap hc (by omega) (by omega) hb hf hl
theorem SlWCl.form {lo hi : Nat} {w : World} {l : List Cl} {v : Value} (h : SlWCl lo hi w l v) : ∃ a c, v = .slice a l.length c := by
  cases h with
  | empty a cap h => exact ⟨a, cap, by rw [h]; rfl⟩
  | mk b o cap _ _ _ _ _ _ => exact ⟨_, cap, rfl⟩
inductive SlOCl (B : Nat) (w : World) (l : List Cl) : Value → Prop where
  | empty (a : Option Addr) (cap : Nat) (h : l = []) : SlOCl B w l (.slice a 0 cap)
  | mk (b o cap : Nat) (hc : ClsAt w b o l) (hB : b < B) (hb : b < w.heap.size) (hl : l.length ≤ cap) : SlOCl B w l (.slice (some ⟨b, o, none⟩) l.length cap)
theorem SlOCl.sl {B : Nat} {w : World} {l : List Cl} {v : Value} (h : SlOCl B w l v) : SlCl w l v := by
  cases h with
  | empty a cap h => exact .empty a cap h
  | mk b o cap hc _ hb hl => exact .mk b o cap hc hb hl
theorem SlOCl.start {w : World} {l : List Cl} {v : Value} (h : SlCl w l v) : SlOCl w.heap.size w l v := by
  cases h with
  | empty a cap h => exact .empty a cap h
  | mk b o cap hc hb hl => exact .mk b o cap hc hb hb hl
theorem SlOCl.below {B : Nat} {w w' : World} {l : List Cl} {v : Value} (h : SlOCl B w l v) (g : Below w.heap.size w w') : SlOCl B w' l v := by
  cases h with
  | empty a cap h => exact .empty a cap h
  | mk b o cap hc hB hb hl => exact .mk b o cap (hc.below g hb) hB (Nat.lt_of_lt_of_le hb g.size) hl
theorem SlOCl.out {B lo hi : Nat} {w w' : World} {l : List Cl} {v : Value} (h : SlOCl B w l v) (g : KeptOut lo hi w w') (ho : B ≤ lo) : SlOCl B w' l v := by
  cases h with
  | empty a cap h => exact .empty a cap h
  | mk b o cap hc hB hb hl => exact .mk b o cap (hc.out g hb (Or.inl (by omega))) hB (Nat.lt_of_lt_of_le hb g.size) hl

def Cl.cells (p : Cl) : List Value := [.int .i8 p.x, .int .i8 p.y]
def flatCl (l : List Cl) : List Value := l.flatMap Cl.cells
theorem flatCl_length (l : List Cl) : (flatCl l).length = l.length * 2 := by
  induction l with
  | nil => rfl
  | cons p l ih => simp only [flatCl, List.flatMap_cons, List.length_append, List.length_cons] at *; rw [ih]; simp only [Cl.cells, List.length_cons, List.length_nil]; omega
theorem Cl_one (p : Cl) : ∀ u ∈ p.cells, u.oneCell' = true := by
  intro u hu
  simp only [Cl.cells, List.mem_cons, List.not_mem_nil, or_false] at hu
  rcases hu with rfl | rfl <;> rfl
theorem flatCl_one (l : List Cl) : ∀ u ∈ flatCl l, u.oneCell' = true := by
  intro u hu
  obtain ⟨p, _, hp⟩ := List.mem_flatMap.1 hu
  exact Cl_one p u hp
theorem flatCl_end (l : List Cl) (p : Cl) : flatCl (l ++ [p]) = flatCl l ++ p.cells := by simp [flatCl]
theorem flatCl_get : ∀ (l : List Cl) (i j : Nat) (h : i < l.length), j < 2 → (flatCl l)[i * 2 + j]? = l[i].cells[j]?
  | p :: l, 0, j, _, hj => by
    rw [show flatCl (p :: l) = p.cells ++ flatCl l from List.flatMap_cons, List.getElem?_append_left (by simp [Cl.cells]; omega)]; simp
  | p :: l, i + 1, j, h, hj => by
    rw [show flatCl (p :: l) = p.cells ++ flatCl l from List.flatMap_cons, List.getElem?_append_right (by simp [Cl.cells]; omega)]
    have := flatCl_get l i j (by simpa using h) hj
    simp only [List.getElem_cons_succ]
    rw [← this]
    congr 1
    simp [Cl.cells]; omega
  | [], _, _, h, _ => by simp at h
theorem ClsAt.news {w : World} {b o : Nat} {l : List Cl} (h : ClsAt w b o l) : ∀ j u, (flatCl l)[j]? = some u → w.cell? ((⟨b, o, none⟩ : Addr).add j) = some u := by
  intro j u hu
  rw [add_none]
  have hj : j < (flatCl l).length := by
    cases hlt : decide (j < (flatCl l).length) with
    | true => simpa using hlt
    | false => rw [List.getElem?_eq_none (by simpa using hlt)] at hu; cases hu
  rw [flatCl_length] at hj
  have hi : j / 2 < l.length := by omega
  have e : j / 2 * 2 + j % 2 = j := by omega
  have hg := flatCl_get l (j / 2) (j % 2) hi (by omega)
  rw [e, hu] at hg
  obtain ⟨h0, h1⟩ := h (j / 2) hi
  have h5 : j % 2 = 0 ∨ j % 2 = 1 := by omega
  rw [show o + j = o + j / 2 * 2 + j % 2 by omega]
  rcases h5 with q | q <;> rw [q] at hg ⊢ <;> simp only [Cl.cells, List.getElem?_cons_zero, List.getElem?_cons_succ, Option.some.injEq] at hg <;> subst hg
  · exact h0
  · exact h1
theorem SlWCl.of_owns {w : World} {base : Nat} {e : TypeId} {v : Value} {n : Nat} {l : List Cl} (h : w.ownsRow base e 2 v n (flatCl l)) : SlWCl base w.heap.size w l v := by
  obtain ⟨hl, h | ⟨g, cap, cur, rfl, hb, hg, hn, hm, hs, ht⟩⟩ := h
  · obtain ⟨rfl, rfl⟩ := h
    rw [flatCl_length] at hl
    exact .empty none 0 (List.length_eq_zero_iff.1 (by omega))
  · rw [flatCl_length] at hl
    obtain rfl : n = l.length := by omega
    have hlt : g < w.heap.size := (Array.getElem?_eq_some_iff.1 hg).1
    have hcell : ∀ j, j < l.length * 2 → w.cell? ⟨g, j, none⟩ = (flatCl l)[j]? := by
      intro j hj
      rw [← ht, List.getElem?_take_of_lt hj]
      have hjs : j < cur.toList.length := by rw [Array.length_toList, hs]; exact Nat.lt_of_lt_of_le hj (Nat.mul_le_mul_right 2 hn)
      rw [List.getElem?_eq_getElem hjs]
      exact (cell_of_row w g j cur e _ hg).trans (by simp)
    refine .mk g 0 cap (fun i hi => ?_) hb hlt hlt (fun j => frozen_of_row w _ j _ _ hg) hn
    have hc : ∀ j, j < 2 → w.cell? ⟨g, 0 + i * 2 + j, none⟩ = l[i].cells[j]? := fun j hj => by rw [Nat.zero_add, hcell _ (by omega), flatCl_get l i j hi hj]
    exact ⟨hc 0 (by omega), hc 1 (by omega)⟩
def FilledOCl (w : World) (B o n : Nat) (l : List Cl) (k : Nat) : Prop :=
  B < w.heap.size ∧ (∀ i (h : i < l.length), i < k → ClAt w B (o + i * 2) l[i]) ∧ (∀ j, j < n * 2 → ∃ v, w.cell? ⟨B, o + j, none⟩ = some v) ∧ (∀ j, w.frozen? ⟨B, j, none⟩ = false)
theorem FilledOCl.start {w : World} {B o : Nat} {l0 l : List Cl} (h : ClsAt w B o l0) (hb : B < w.heap.size) (hf : ∀ j, w.frozen? ⟨B, j, none⟩ = false) : FilledOCl w B o l0.length l 0 := by
  refine ⟨hb, fun i _ hi => absurd hi (by omega), fun j hj => ?_, hf⟩
  obtain ⟨h0, h1⟩ := h (j / 2) (by omega)
  have : j % 2 = 0 ∨ j % 2 = 1 := by omega
  have hj5 : j = j / 2 * 2 + j % 2 := by omega
  rcases this with e | e <;> rw [e] at hj5 <;> rw [hj5]
  · exact ⟨_, h0⟩
  · exact ⟨_, by rw [← Nat.add_assoc]; exact h1⟩
theorem FilledOCl.store {w : World} {B o n k : Nat} {l : List Cl} {p : Cl} (h : FilledOCl w B o n l k) (hk : k < l.length) (hp : l[k] = p) (hkn : k < n) : FilledOCl (World.setCl w B (o + k * 2) p) B o n l (k + 1) := by
  obtain ⟨h1, h2, h3, h4⟩ := h
  refine ⟨by simpa [World.setCl, World.size_setCell] using h1, fun i hi hik => ?_, fun j hj => ?_, fun j => ?_⟩
  · by_cases e : i = k
    · subst e
      rw [hp]
      exact setCl_at (fun j hj => by rw [Nat.add_assoc]; exact h3 _ (by omega))
    · obtain ⟨a0, a1⟩ := h2 i hi (by omega)
      exact ⟨by rw [setCl_other (by omega)]; exact a0, by rw [setCl_other (by omega)]; exact a1⟩
  · obtain ⟨v, hv⟩ := h3 j hj
    unfold World.setCl
    obtain ⟨v1, g1⟩ := cell_set (j := o + k * 2) (v := .int .i8 p.x) hv
    exact cell_set (j := o + k * 2 + 1) (v := .int .i8 p.y) g1
  · unfold World.setCl
    simp only [World.frozen?_setCell]
    exact h4 j

def markCl (k : Int) : Cl := ⟨IntKind.i8.wrap (k), IntKind.i8.wrap (k + 1)⟩
def marksCl (k : Int) (n : Nat) : List Cl := (List.range n).map fun i : Nat => markCl (k + 2 * (i : Int))
theorem marksCl_length (k : Int) (n : Nat) : (marksCl k n).length = n := by simp [marksCl]
theorem marksCl_get (k : Int) (n i : Nat) (h : i < (marksCl k n).length) : (marksCl k n)[i] = markCl (k + 2 * i) := by simp [marksCl]

end Go.Proofs.YtmllfacgonchnaaDoor
