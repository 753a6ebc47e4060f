/- Slices of the type Port that a call has made: where they lie; the laws' own marking of them; copies. -/
import Derived.Test.YtmllfacgonchnaaDoorPo
import Derived.Test.YtmllfacgonchnaaDoorG4
namespace Go.Proofs.YtmllfacgonchnaaDoor
open Go.ChangeShapes Go.WideShapes Go.ChangeAt Go.RowKit Go.Joins Go.Deep
set_option linter.unusedVariables false

theorem PosAt.out {lo hi : Nat} {w w' : World} {b o : Nat} {l : List Po} (h : PosAt w b o l) (g : KeptOut lo hi w w') (hb : b < w.heap.size) (ho : b < lo ∨ hi ≤ b) : PosAt w' b o l := by
  intro i hi'
  obtain ⟨h0, h1, h2⟩ := h i hi'
  exact ⟨(g.cell hb ho).trans h0, (g.cell hb ho).trans h1, (g.cell hb ho).trans h2⟩
inductive SlWPo (lo hi : Nat) (w : World) (l : List Po) : Value → Prop where
  | empty (a : Option Addr) (cap : Nat) (h : l = []) : SlWPo lo hi w l (.slice a 0 cap)
  | mk (b o cap : Nat) (hc : PosAt w b o l) (h1 : lo ≤ b) (h2 : b < hi) (hb : b < w.heap.size) (hf : ∀ j, w.frozen? ⟨b, j, none⟩ = false) (hl : l.length ≤ cap) : SlWPo lo hi w l (.slice (some ⟨b, o, none⟩) l.length cap)
theorem SlWPo.sl {lo hi : Nat} {w : World} {l : List Po} {v : Value} (h : SlWPo lo hi w l v) : SlPo w l v := by
  cases h with
  | empty a cap h => exact .empty a cap h
  | mk b o cap hc _ _ hb _ hl => exact .mk b o cap hc hb hl
theorem SlWPo.below {lo hi : Nat} {w w' : World} {l : List Po} {v : Value} (h : SlWPo lo hi w l v) (g : Below w.heap.size w w') : SlWPo lo hi w' l v := by
  cases h with
  | empty a cap h => exact .empty a cap h
  | mk b o cap hc h1 h2 hb hf hl => exact .mk b o cap (hc.below g hb) h1 h2 (Nat.lt_of_lt_of_le hb g.size) (fun j => (g.frozen (p := ⟨b, j, none⟩) hb).trans (hf j)) hl
theorem SlWPo.out {lo hi lo2 hi2 : Nat} {w w' : World} {l : List Po} {v : Value} (h : SlWPo lo hi w l v) (g : KeptOut lo2 hi2 w w') (ho : hi ≤ lo2 ∨ hi2 ≤ lo) : SlWPo lo hi w' l v := by
  cases h with
  | empty a cap h => exact .empty a cap h
  | mk b o cap hc h1 h2 hb hf hl => exact .mk b o cap (hc.out g hb (by omega)) h1 h2 (Nat.lt_of_lt_of_le hb g.size) (fun j => (g.frozen hb (by omega)).trans (hf j)) hl
theorem SlWPo.mono {lo hi lo2 hi2 : Nat} {w : World} {l : List Po} {v : Value} (h : SlWPo lo hi w l v) (h1 : lo2 ≤ lo) (h2 : hi ≤ hi2) : SlWPo lo2 hi2 w l v := by
  cases h with
  | empty a cap h => exact .empty a cap h
  | mk b o cap hc h1 h2 hb hf hl => exact .mk b o cap hc (by omega) (by omega) hb hf hl
theorem SlWPo.form {lo hi : Nat} {w : World} {l : List Po} {v : Value} (h : SlWPo lo hi w l v) : ∃ a c, v = .slice a l.length c := by
  cases h with
  | empty a cap h => exact ⟨a, cap, by rw [h]; rfl⟩
  | mk b o cap _ _ _ _ _ _ => exact ⟨_, cap, rfl⟩
inductive SlOPo (B : Nat) (w : World) (l : List Po) : Value → Prop where
  | empty (a : Option Addr) (cap : Nat) (h : l = []) : SlOPo B w l (.slice a 0 cap)
  | mk (b o cap : Nat) (hc : PosAt w b o l) (hB : b < B) (hb : b < w.heap.size) (hl : l.length ≤ cap) : SlOPo B w l (.slice (some ⟨b, o, none⟩) l.length cap)
theorem SlOPo.sl {B : Nat} {w : World} {l : List Po} {v : Value} (h : SlOPo B w l v) : SlPo w l v := by
  cases h with
  | empty a cap h => exact .empty a cap h
  | mk b o cap hc _ hb hl => exact .mk b o cap hc hb hl
theorem SlOPo.start {w : World} {l : List Po} {v : Value} (h : SlPo w l v) : SlOPo w.heap.size w l v := by
  cases h with
  | empty a cap h => exact .empty a cap h
  | mk b o cap hc hb hl => exact .mk b o cap hc hb hb hl
theorem SlOPo.below {B : Nat} {w w' : World} {l : List Po} {v : Value} (h : SlOPo B w l v) (g : Below w.heap.size w w') : SlOPo B w' l v := by
  cases h with
  | empty a cap h => exact .empty a cap h
  | mk b o cap hc hB hb hl => exact .mk b o cap (hc.below g hb) hB (Nat.lt_of_lt_of_le hb g.size) hl
theorem SlOPo.out {B lo hi : Nat} {w w' : World} {l : List Po} {v : Value} (h : SlOPo B w l v) (g : KeptOut lo hi w w') (ho : B ≤ lo) : SlOPo B w' l v := by
  cases h with
  | empty a cap h => exact .empty a cap h
  | mk b o cap hc hB hb hl => exact .mk b o cap (hc.out g hb (Or.inl (by omega))) hB (Nat.lt_of_lt_of_le hb g.size) hl

def Po.cells (p : Po) : List Value := [.int .i8 p.x, .int .i8 p.y, .int .i8 p.side]
def flatPo (l : List Po) : List Value := l.flatMap Po.cells
theorem flatPo_length (l : List Po) : (flatPo l).length = l.length * 3 := by
  induction l with
  | nil => rfl
  | cons p l ih => simp only [flatPo, List.flatMap_cons, List.length_append, List.length_cons] at *; rw [ih]; simp only [Po.cells, List.length_cons, List.length_nil]; omega
theorem Po_one (p : Po) : ∀ u ∈ p.cells, u.oneCell' = true := by
  intro u hu
  simp only [Po.cells, List.mem_cons, List.not_mem_nil, or_false] at hu
  rcases hu with rfl | rfl | rfl <;> rfl
theorem flatPo_one (l : List Po) : ∀ u ∈ flatPo l, u.oneCell' = true := by
  intro u hu
  obtain ⟨p, _, hp⟩ := List.mem_flatMap.1 hu
  exact Po_one p u hp
theorem flatPo_end (l : List Po) (p : Po) : flatPo (l ++ [p]) = flatPo l ++ p.cells := by simp [flatPo]
theorem flatPo_get : ∀ (l : List Po) (i j : Nat) (h : i < l.length), j < 3 → (flatPo l)[i * 3 + j]? = l[i].cells[j]?
  | p :: l, 0, j, _, hj => by
    rw [show flatPo (p :: l) = p.cells ++ flatPo l from List.flatMap_cons, List.getElem?_append_left (by simp [Po.cells]; omega)]; simp
  | p :: l, i + 1, j, h, hj => by
    rw [show flatPo (p :: l) = p.cells ++ flatPo l from List.flatMap_cons, List.getElem?_append_right (by simp [Po.cells]; omega)]
    have := flatPo_get l i j (by simpa using h) hj
    simp only [List.getElem_cons_succ]
    rw [← this]
    congr 1
    simp [Po.cells]; omega
  | [], _, _, h, _ => by simp at h
theorem PosAt.news {w : World} {b o : Nat} {l : List Po} (h : PosAt w b o l) : ∀ j u, (flatPo l)[j]? = some u → w.cell? ((⟨b, o, none⟩ : Addr).add j) = some u := by
  intro j u hu
  rw [add_none]
  have hj : j < (flatPo l).length := by
    cases hlt : decide (j < (flatPo l).length) with
    | true => simpa using hlt
    | false => rw [List.getElem?_eq_none (by simpa using hlt)] at hu; cases hu
  rw [flatPo_length] at hj
  have hi : j / 3 < l.length := by omega
  have e : j / 3 * 3 + j % 3 = j := by omega
  have hg := flatPo_get l (j / 3) (j % 3) hi (by omega)
  rw [e, hu] at hg
  obtain ⟨h0, h1, h2⟩ := h (j / 3) hi
  have h5 : j % 3 = 0 ∨ j % 3 = 1 ∨ j % 3 = 2 := by omega
  rw [show o + j = o + j / 3 * 3 + j % 3 by omega]
  rcases h5 with q | q | q <;> rw [q] at hg ⊢ <;> simp only [Po.cells, List.getElem?_cons_zero, List.getElem?_cons_succ, Option.some.injEq] at hg <;> subst hg
  · exact h0
  · exact h1
  · exact h2
theorem SlWPo.of_owns {w : World} {base : Nat} {e : TypeId} {v : Value} {n : Nat} {l : List Po} (h : w.ownsRow base e 3 v n (flatPo l)) : SlWPo base w.heap.size w l v := by
  obtain ⟨hl, h | ⟨g, cap, cur, rfl, hb, hg, hn, hm, hs, ht⟩⟩ := h
  · obtain ⟨rfl, rfl⟩ := h
    rw [flatPo_length] at hl
    exact .empty none 0 (List.length_eq_zero_iff.1 (by omega))
  · rw [flatPo_length] at hl
    obtain rfl : n = l.length := by omega
    have hlt : g < w.heap.size := (Array.getElem?_eq_some_iff.1 hg).1
    have hcell : ∀ j, j < l.length * 3 → w.cell? ⟨g, j, none⟩ = (flatPo l)[j]? := by
      intro j hj
      rw [← ht, List.getElem?_take_of_lt hj]
      have hjs : j < cur.toList.length := by rw [Array.length_toList, hs]; exact Nat.lt_of_lt_of_le hj (Nat.mul_le_mul_right 3 hn)
      rw [List.getElem?_eq_getElem hjs]
      exact (cell_of_row w g j cur e _ hg).trans (by simp)
    refine .mk g 0 cap (fun i hi => ?_) hb hlt hlt (fun j => frozen_of_row w _ j _ _ hg) hn
    have hc : ∀ j, j < 3 → w.cell? ⟨g, 0 + i * 3 + j, none⟩ = l[i].cells[j]? := fun j hj => by rw [Nat.zero_add, hcell _ (by omega), flatPo_get l i j hi hj]
    exact ⟨hc 0 (by omega), hc 1 (by omega), hc 2 (by omega)⟩
def FilledOPo (w : World) (B o n : Nat) (l : List Po) (k : Nat) : Prop :=
  B < w.heap.size ∧ (∀ i (h : i < l.length), i < k → PoAt w B (o + i * 3) l[i]) ∧ (∀ j, j < n * 3 → ∃ v, w.cell? ⟨B, o + j, none⟩ = some v) ∧ (∀ j, w.frozen? ⟨B, j, none⟩ = false)
theorem FilledOPo.start {w : World} {B o : Nat} {l0 l : List Po} (h : PosAt w B o l0) (hb : B < w.heap.size) (hf : ∀ j, w.frozen? ⟨B, j, none⟩ = false) : FilledOPo w B o l0.length l 0 := by
  refine ⟨hb, fun i _ hi => absurd hi (by omega), fun j hj => ?_, hf⟩
  obtain ⟨h0, h1, h2⟩ := h (j / 3) (by omega)
  have : j % 3 = 0 ∨ j % 3 = 1 ∨ j % 3 = 2 := by omega
  have hj5 : j = j / 3 * 3 + j % 3 := by omega
  rcases this with e | e | e <;> rw [e] at hj5 <;> rw [hj5]
  · exact ⟨_, h0⟩
  · exact ⟨_, by rw [← Nat.add_assoc]; exact h1⟩
  · exact ⟨_, by rw [← Nat.add_assoc]; exact h2⟩
theorem FilledOPo.store {w : World} {B o n k : Nat} {l : List Po} {p : Po} (h : FilledOPo w B o n l k) (hk : k < l.length) (hp : l[k] = p) (hkn : k < n) : FilledOPo (World.setPo w B (o + k * 3) p) B o n l (k + 1) := by
  obtain ⟨h1, h2, h3, h4⟩ := h
  refine ⟨by simpa [World.setPo, World.size_setCell] using h1, fun i hi hik => ?_, fun j hj => ?_, fun j => ?_⟩
  · by_cases e : i = k
    · subst e
      rw [hp]
      exact setPo_at (fun j hj => by rw [Nat.add_assoc]; exact h3 _ (by omega))
    · obtain ⟨a0, a1, a2⟩ := h2 i hi (by omega)
      exact ⟨by rw [setPo_other (by omega)]; exact a0, by rw [setPo_other (by omega)]; exact a1, by rw [setPo_other (by omega)]; exact a2⟩
  · obtain ⟨v, hv⟩ := h3 j hj
    unfold World.setPo
    obtain ⟨v1, g1⟩ := cell_set (j := o + k * 3) (v := .int .i8 p.x) hv
    obtain ⟨v2, g2⟩ := cell_set (j := o + k * 3 + 1) (v := .int .i8 p.y) g1
    exact cell_set (j := o + k * 3 + 2) (v := .int .i8 p.side) g2
  · unfold World.setPo
    simp only [World.frozen?_setCell]
    exact h4 j

def markPo (k : Int) : Po := ⟨IntKind.i8.wrap (k), IntKind.i8.wrap (k + 1), IntKind.i8.wrap (k + 1 + 1)⟩
def marksPo (k : Int) (n : Nat) : List Po := (List.range n).map fun i : Nat => markPo (k + 3 * (i : Int))
theorem marksPo_length (k : Int) (n : Nat) : (marksPo k n).length = n := by simp [marksPo]
theorem marksPo_get (k : Int) (n i : Nat) (h : i < (marksPo k n).length) : (marksPo k n)[i] = markPo (k + 3 * i) := by simp [marksPo]

end Go.Proofs.YtmllfacgonchnaaDoor
