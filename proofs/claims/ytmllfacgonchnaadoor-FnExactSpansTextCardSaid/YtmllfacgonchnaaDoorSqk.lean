/- Slices of the type Span that a call has made: where they lie; the laws' own marking of them; copies. -/
import Derived.Test.YtmllfacgonchnaaDoorSq
import Derived.Test.YtmllfacgonchnaaDoorG4
namespace Go.Proofs.YtmllfacgonchnaaDoor
open Go.ChangeShapes Go.WideShapes Go.ChangeAt Go.RowKit Go.Joins Go.Deep
set_option linter.unusedVariables false

theorem SqsAt.out {lo hi : Nat} {w w' : World} {b o : Nat} {l : List Sq} (h : SqsAt w b o l) (g : KeptOut lo hi w w') (hb : b < w.heap.size) (ho : b < lo ∨ hi ≤ b) : SqsAt w' b o l := by
  intro i hi'
  obtain ⟨h0, h1⟩ := h i hi'
  exact ⟨(g.cell hb ho).trans h0, (g.cell hb ho).trans h1⟩
inductive SlWSq (lo hi : Nat) (w : World) (l : List Sq) : Value → Prop where
  | empty (a : Option Addr) (cap : Nat) (h : l = []) : SlWSq lo hi w l (.slice a 0 cap)
  | mk (b o cap : Nat) (hc : SqsAt w b o l) (h1 : lo ≤ b) (h2 : b < hi) (hb : b < w.heap.size) (hf : ∀ j, w.frozen? ⟨b, j, none⟩ = false) (hl : l.length ≤ cap) : SlWSq lo hi w l (.slice (some ⟨b, o, none⟩) l.length cap)
theorem SlWSq.sl {lo hi : Nat} {w : World} {l : List Sq} {v : Value} (h : SlWSq lo hi w l v) : SlSq w l v := by
  cases h with
  | empty a cap h => exact .empty a cap h
  | mk b o cap hc _ _ hb _ hl => exact .mk b o cap hc hb hl
theorem SlWSq.below {lo hi : Nat} {w w' : World} {l : List Sq} {v : Value} (h : SlWSq lo hi w l v) (g : Below w.heap.size w w') : SlWSq lo hi w' l v := by
  cases h with
  | empty a cap h => exact .empty a cap h
  | mk b o cap hc h1 h2 hb hf hl => exact .mk b o cap (hc.below g hb) h1 h2 (Nat.lt_of_lt_of_le hb g.size) (fun j => (g.frozen (p := ⟨b, j, none⟩) hb).trans (hf j)) hl
theorem SlWSq.out {lo hi lo2 hi2 : Nat} {w w' : World} {l : List Sq} {v : Value} (h : SlWSq lo hi w l v) (g : KeptOut lo2 hi2 w w') (ho : hi ≤ lo2 ∨ hi2 ≤ lo) : SlWSq lo hi w' l v := by
  cases h with
  | empty a cap h => exact .empty a cap h
  | mk b o cap hc h1 h2 hb hf hl => exact .mk b o cap (hc.out g hb (by omega)) h1 h2 (Nat.lt_of_lt_of_le hb g.size) (fun j => (g.frozen hb (by omega)).trans (hf j)) hl
theorem SlWSq.mono {lo hi lo2 hi2 : Nat} {w : World} {l : List Sq} {v : Value} (h : SlWSq lo hi w l v) (h1 : lo2 ≤ lo) (h2 : hi ≤ hi2) : SlWSq lo2 hi2 w l v := by
  cases h with
  | empty a cap h => exact .empty a cap h
  | mk b o cap hc h1 h2 hb hf hl => exact .mk b o cap hc (by omega) (by omega) hb hf hl
theorem SlWSq.form {lo hi : Nat} {w : World} {l : List Sq} {v : Value} (h : SlWSq lo hi w l v) : ∃ a c, v = .slice a l.length c := by
  cases h with
  | empty a cap h => exact ⟨a, cap, by rw [h]; rfl⟩
  | mk b o cap _ _ _ _ _ _ => exact ⟨_, cap, rfl⟩
inductive SlOSq (B : Nat) (w : World) (l : List Sq) : Value → Prop where
  | empty (a : Option Addr) (cap : Nat) (h : l = []) : SlOSq B w l (.slice a 0 cap)
  | mk (b o cap : Nat) (hc : SqsAt w b o l) (hB : b < B) (hb : b < w.heap.size) (hl : l.length ≤ cap) : SlOSq B w l (.slice (some ⟨b, o, none⟩) l.length cap)
theorem SlOSq.sl {B : Nat} {w : World} {l : List Sq} {v : Value} (h : SlOSq B w l v) : SlSq w l v := by
  cases h with
  | empty a cap h => exact .empty a cap h
  | mk b o cap hc _ hb hl => exact .mk b o cap hc hb hl
theorem SlOSq.start {w : World} {l : List Sq} {v : Value} (h : SlSq w l v) : SlOSq w.heap.size w l v := by
  cases h with
  | empty a cap h => exact .empty a cap h
  | mk b o cap hc hb hl => exact .mk b o cap hc hb hb hl
theorem SlOSq.below {B : Nat} {w w' : World} {l : List Sq} {v : Value} (h : SlOSq B w l v) (g : Below w.heap.size w w') : SlOSq B w' l v := by
  cases h with
  | empty a cap h => exact .empty a cap h
  | mk b o cap hc hB hb hl => exact .mk b o cap (hc.below g hb) hB (Nat.lt_of_lt_of_le hb g.size) hl
theorem SlOSq.out {B lo hi : Nat} {w w' : World} {l : List Sq} {v : Value} (h : SlOSq B w l v) (g : KeptOut lo hi w w') (ho : B ≤ lo) : SlOSq B w' l v := by
  cases h with
  | empty a cap h => exact .empty a cap h
  | mk b o cap hc hB hb hl => exact .mk b o cap (hc.out g hb (Or.inl (by omega))) hB (Nat.lt_of_lt_of_le hb g.size) hl

def Sq.cells (p : Sq) : List Value := [.int .i8 p.low, .int .i8 p.high]
def flatSq (l : List Sq) : List Value := l.flatMap Sq.cells
theorem flatSq_length (l : List Sq) : (flatSq l).length = l.length * 2 := by
  induction l with
  | nil => rfl
  | cons p l ih => simp only [flatSq, List.flatMap_cons, List.length_append, List.length_cons] at *; rw [ih]; simp only [Sq.cells, List.length_cons, List.length_nil]; omega
theorem Sq_one (p : Sq) : ∀ u ∈ p.cells, u.oneCell' = true := by
  intro u hu
  simp only [Sq.cells, List.mem_cons, List.not_mem_nil, or_false] at hu
  rcases hu with rfl | rfl <;> rfl
theorem flatSq_one (l : List Sq) : ∀ u ∈ flatSq l, u.oneCell' = true := by
  intro u hu
  obtain ⟨p, _, hp⟩ := List.mem_flatMap.1 hu
  exact Sq_one p u hp
theorem flatSq_end (l : List Sq) (p : Sq) : flatSq (l ++ [p]) = flatSq l ++ p.cells := by simp [flatSq]
theorem flatSq_get : ∀ (l : List Sq) (i j : Nat) (h : i < l.length), j < 2 → (flatSq l)[i * 2 + j]? = l[i].cells[j]?
  | p :: l, 0, j, _, hj => by
    rw [show flatSq (p :: l) = p.cells ++ flatSq l from List.flatMap_cons, List.getElem?_append_left (by simp [Sq.cells]; omega)]; simp
  | p :: l, i + 1, j, h, hj => by
    rw [show flatSq (p :: l) = p.cells ++ flatSq l from List.flatMap_cons, List.getElem?_append_right (by simp [Sq.cells]; omega)]
    have := flatSq_get l i j (by simpa using h) hj
    simp only [List.getElem_cons_succ]
    rw [← this]
    congr 1
    simp [Sq.cells]; omega
  | [], _, _, h, _ => by simp at h
theorem SqsAt.news {w : World} {b o : Nat} {l : List Sq} (h : SqsAt w b o l) : ∀ j u, (flatSq l)[j]? = some u → w.cell? ((⟨b, o, none⟩ : Addr).add j) = some u := by
  intro j u hu
  rw [add_none]
  have hj : j < (flatSq l).length := by
    cases hlt : decide (j < (flatSq l).length) with
    | true => simpa using hlt
    | false => rw [List.getElem?_eq_none (by simpa using hlt)] at hu; cases hu
  rw [flatSq_length] at hj
  have hi : j / 2 < l.length := by omega
  have e : j / 2 * 2 + j % 2 = j := by omega
  have hg := flatSq_get l (j / 2) (j % 2) hi (by omega)
  rw [e, hu] at hg
  obtain ⟨h0, h1⟩ := h (j / 2) hi
  have h5 : j % 2 = 0 ∨ j % 2 = 1 := by omega
  rw [show o + j = o + j / 2 * 2 + j % 2 by omega]
  rcases h5 with q | q <;> rw [q] at hg ⊢ <;> simp only [Sq.cells, List.getElem?_cons_zero, List.getElem?_cons_succ, Option.some.injEq] at hg <;> subst hg
  · exact h0
  · exact h1
theorem SlWSq.of_owns {w : World} {base : Nat} {e : TypeId} {v : Value} {n : Nat} {l : List Sq} (h : w.ownsRow base e 2 v n (flatSq l)) : SlWSq base w.heap.size w l v := by
  obtain ⟨hl, h | ⟨g, cap, cur, rfl, hb, hg, hn, hm, hs, ht⟩⟩ := h
  · obtain ⟨rfl, rfl⟩ := h
    rw [flatSq_length] at hl
    exact .empty none 0 (List.length_eq_zero_iff.1 (by omega))
  · rw [flatSq_length] at hl
    obtain rfl : n = l.length := by omega
    have hlt : g < w.heap.size := (Array.getElem?_eq_some_iff.1 hg).1
    have hcell : ∀ j, j < l.length * 2 → w.cell? ⟨g, j, none⟩ = (flatSq l)[j]? := by
      intro j hj
      rw [← ht, List.getElem?_take_of_lt hj]
      have hjs : j < cur.toList.length := by rw [Array.length_toList, hs]; exact Nat.lt_of_lt_of_le hj (Nat.mul_le_mul_right 2 hn)
      rw [List.getElem?_eq_getElem hjs]
      exact (cell_of_row w g j cur e _ hg).trans (by simp)
    refine .mk g 0 cap (fun i hi => ?_) hb hlt hlt (fun j => frozen_of_row w _ j _ _ hg) hn
    have hc : ∀ j, j < 2 → w.cell? ⟨g, 0 + i * 2 + j, none⟩ = l[i].cells[j]? := fun j hj => by rw [Nat.zero_add, hcell _ (by omega), flatSq_get l i j hi hj]
    exact ⟨hc 0 (by omega), hc 1 (by omega)⟩
def FilledOSq (w : World) (B o n : Nat) (l : List Sq) (k : Nat) : Prop :=
  B < w.heap.size ∧ (∀ i (h : i < l.length), i < k → SqAt w B (o + i * 2) l[i]) ∧ (∀ j, j < n * 2 → ∃ v, w.cell? ⟨B, o + j, none⟩ = some v) ∧ (∀ j, w.frozen? ⟨B, j, none⟩ = false)
theorem FilledOSq.start {w : World} {B o : Nat} {l0 l : List Sq} (h : SqsAt w B o l0) (hb : B < w.heap.size) (hf : ∀ j, w.frozen? ⟨B, j, none⟩ = false) : FilledOSq w B o l0.length l 0 := by
  refine ⟨hb, fun i _ hi => absurd hi (by omega), fun j hj => ?_, hf⟩
  obtain ⟨h0, h1⟩ := h (j / 2) (by omega)
  have : j % 2 = 0 ∨ j % 2 = 1 := by omega
  have hj5 : j = j / 2 * 2 + j % 2 := by omega
  rcases this with e | e <;> rw [e] at hj5 <;> rw [hj5]
  · exact ⟨_, h0⟩
  · exact ⟨_, by rw [← Nat.add_assoc]; exact h1⟩
theorem FilledOSq.store {w : World} {B o n k : Nat} {l : List Sq} {p : Sq} (h : FilledOSq w B o n l k) (hk : k < l.length) (hp : l[k] = p) (hkn : k < n) : FilledOSq (World.setSq w B (o + k * 2) p) B o n l (k + 1) := by
  obtain ⟨h1, h2, h3, h4⟩ := h
  refine ⟨by simpa [World.setSq, World.size_setCell] using h1, fun i hi hik => ?_, fun j hj => ?_, fun j => ?_⟩
  · by_cases e : i = k
    · subst e
      rw [hp]
      exact setSq_at (fun j hj => by rw [Nat.add_assoc]; exact h3 _ (by omega))
    · obtain ⟨a0, a1⟩ := h2 i hi (by omega)
      exact ⟨by rw [setSq_other (by omega)]; exact a0, by rw [setSq_other (by omega)]; exact a1⟩
  · obtain ⟨v, hv⟩ := h3 j hj
    unfold World.setSq
    obtain ⟨v1, g1⟩ := cell_set (j := o + k * 2) (v := .int .i8 p.low) hv
    exact cell_set (j := o + k * 2 + 1) (v := .int .i8 p.high) g1
  · unfold World.setSq
    simp only [World.frozen?_setCell]
    exact h4 j

def markSq (k : Int) : Sq := ⟨IntKind.i8.wrap (k), IntKind.i8.wrap (k + 1)⟩
def marksSq (k : Int) (n : Nat) : List Sq := (List.range n).map fun i : Nat => markSq (k + 2 * (i : Int))
theorem marksSq_length (k : Int) (n : Nat) : (marksSq k n).length = n := by simp [marksSq]
theorem marksSq_get (k : Int) (n i : Nat) (h : i < (marksSq k n).length) : (marksSq k n)[i] = markSq (k + 2 * i) := by simp [marksSq]

end Go.Proofs.YtmllfacgonchnaaDoor
