/- Slices of the type Node that a call has made: where they lie; the laws' own marking of them; copies. -/
import Derived.Test.YtlbnhdnmcnfgdaaDoorNd
import Derived.Test.YtlbnhdnmcnfgdaaDoorG4
namespace Go.Proofs.YtlbnhdnmcnfgdaaDoor
open Go.ChangeShapes Go.WideShapes Go.ChangeAt Go.RowKit Go.Joins Go.Deep
set_option linter.unusedVariables false

theorem NdsAt.out {lo hi : Nat} {w w' : World} {b o : Nat} {l : List Nd} (h : NdsAt w b o l) (g : KeptOut lo hi w w') (hb : b < w.heap.size) (ho : b < lo ∨ hi ≤ b) : NdsAt w' b o l := by
  intro i hi'
  obtain ⟨h0, h1, h2⟩ := h i hi'
  exact ⟨(g.cell hb ho).trans h0, (g.cell hb ho).trans h1, (g.cell hb ho).trans h2⟩
inductive SlWNd (lo hi : Nat) (w : World) (l : List Nd) : Value → Prop where
  | empty (a : Option Addr) (cap : Nat) (h : l = []) : SlWNd lo hi w l (.slice a 0 cap)
  | mk (b o cap : Nat) (hc : NdsAt w b o l) (h1 : lo ≤ b) (h2 : b < hi) (hb : b < w.heap.size) (hf : ∀ j, w.frozen? ⟨b, j, none⟩ = false) (hl : l.length ≤ cap) : SlWNd lo hi w l (.slice (some ⟨b, o, none⟩) l.length cap)
theorem SlWNd.sl {lo hi : Nat} {w : World} {l : List Nd} {v : Value} (h : SlWNd lo hi w l v) : SlNd w l v := by
  cases h with
  | empty a cap h => exact .empty a cap h
  | mk b o cap hc _ _ hb _ hl => exact .mk b o cap hc hb hl
theorem SlWNd.below {lo hi : Nat} {w w' : World} {l : List Nd} {v : Value} (h : SlWNd lo hi w l v) (g : Below w.heap.size w w') : SlWNd lo hi w' l v := by
  cases h with
  | empty a cap h => exact .empty a cap h
  | mk b o cap hc h1 h2 hb hf hl => exact .mk b o cap (hc.below g hb) h1 h2 (Nat.lt_of_lt_of_le hb g.size) (fun j => (g.frozen (p := ⟨b, j, none⟩) hb).trans (hf j)) hl
theorem SlWNd.out {lo hi lo2 hi2 : Nat} {w w' : World} {l : List Nd} {v : Value} (h : SlWNd lo hi w l v) (g : KeptOut lo2 hi2 w w') (ho : hi ≤ lo2 ∨ hi2 ≤ lo) : SlWNd lo hi w' l v := by
  cases h with
  | empty a cap h => exact .empty a cap h
  | mk b o cap hc h1 h2 hb hf hl => exact .mk b o cap (hc.out g hb (by omega)) h1 h2 (Nat.lt_of_lt_of_le hb g.size) (fun j => (g.frozen hb (by omega)).trans (hf j)) hl
theorem SlWNd.mono {lo hi lo2 hi2 : Nat} {w : World} {l : List Nd} {v : Value} (h : SlWNd lo hi w l v) (h1 : lo2 ≤ lo) (h2 : hi ≤ hi2) : SlWNd lo2 hi2 w l v := by
  cases h with
  | empty a cap h => exact .empty a cap h
  | mk b o cap hc h1 h2 hb hf hl => exact .mk b o cap hc (by omega) (by omega) hb hf hl
theorem SlWNd.form {lo hi : Nat} {w : World} {l : List Nd} {v : Value} (h : SlWNd lo hi w l v) : ∃ a c, v = .slice a l.length c := by
  cases h with
  | empty a cap h => exact ⟨a, cap, by rw [h]; rfl⟩
  | mk b o cap _ _ _ _ _ _ => exact ⟨_, cap, rfl⟩
inductive SlONd (B : Nat) (w : World) (l : List Nd) : Value → Prop where
  | empty (a : Option Addr) (cap : Nat) (h : l = []) : SlONd B w l (.slice a 0 cap)
  | mk (b o cap : Nat) (hc : NdsAt w b o l) (hB : b < B) (hb : b < w.heap.size) (hl : l.length ≤ cap) : SlONd B w l (.slice (some ⟨b, o, none⟩) l.length cap)
theorem SlONd.sl {B : Nat} {w : World} {l : List Nd} {v : Value} (h : SlONd B w l v) : SlNd w l v := by
  cases h with
  | empty a cap h => exact .empty a cap h
  | mk b o cap hc _ hb hl => exact .mk b o cap hc hb hl
theorem SlONd.start {w : World} {l : List Nd} {v : Value} (h : SlNd w l v) : SlONd w.heap.size w l v := by
  cases h with
  | empty a cap h => exact .empty a cap h
  | mk b o cap hc hb hl => exact .mk b o cap hc hb hb hl
theorem SlONd.below {B : Nat} {w w' : World} {l : List Nd} {v : Value} (h : SlONd B w l v) (g : Below w.heap.size w w') : SlONd B w' l v := by
  cases h with
  | empty a cap h => exact .empty a cap h
  | mk b o cap hc hB hb hl => exact .mk b o cap (hc.below g hb) hB (Nat.lt_of_lt_of_le hb g.size) hl
theorem SlONd.out {B lo hi : Nat} {w w' : World} {l : List Nd} {v : Value} (h : SlONd B w l v) (g : KeptOut lo hi w w') (ho : B ≤ lo) : SlONd B w' l v := by
  cases h with
  | empty a cap h => exact .empty a cap h
  | mk b o cap hc hB hb hl => exact .mk b o cap (hc.out g hb (Or.inl (by omega))) hB (Nat.lt_of_lt_of_le hb g.size) hl

def Nd.cells (p : Nd) : List Value := [.int .i8 p.kind, .int .i16 p.a, .int .i16 p.b]
def flatNd (l : List Nd) : List Value := l.flatMap Nd.cells
theorem flatNd_length (l : List Nd) : (flatNd l).length = l.length * 3 := by
  induction l with
  | nil => rfl
  | cons p l ih => simp only [flatNd, List.flatMap_cons, List.length_append, List.length_cons] at *; rw [ih]; simp only [Nd.cells, List.length_cons, List.length_nil]; omega
theorem Nd_one (p : Nd) : ∀ u ∈ p.cells, u.oneCell' = true := by
  intro u hu
  simp only [Nd.cells, List.mem_cons, List.not_mem_nil, or_false] at hu
  rcases hu with rfl | rfl | rfl <;> rfl
theorem flatNd_one (l : List Nd) : ∀ u ∈ flatNd l, u.oneCell' = true := by
  intro u hu
  obtain ⟨p, _, hp⟩ := List.mem_flatMap.1 hu
  exact Nd_one p u hp
theorem flatNd_end (l : List Nd) (p : Nd) : flatNd (l ++ [p]) = flatNd l ++ p.cells := by simp [flatNd]
theorem flatNd_get : ∀ (l : List Nd) (i j : Nat) (h : i < l.length), j < 3 → (flatNd l)[i * 3 + j]? = l[i].cells[j]?
  | p :: l, 0, j, _, hj => by
    rw [show flatNd (p :: l) = p.cells ++ flatNd l from List.flatMap_cons, List.getElem?_append_left (by simp [Nd.cells]; omega)]; simp
  | p :: l, i + 1, j, h, hj => by
    rw [show flatNd (p :: l) = p.cells ++ flatNd l from List.flatMap_cons, List.getElem?_append_right (by simp [Nd.cells]; omega)]
    have := flatNd_get l i j (by simpa using h) hj
    simp only [List.getElem_cons_succ]
    rw [← this]
    congr 1
    simp [Nd.cells]; omega
  | [], _, _, h, _ => by simp at h
theorem NdsAt.news {w : World} {b o : Nat} {l : List Nd} (h : NdsAt w b o l) : ∀ j u, (flatNd l)[j]? = some u → w.cell? ((⟨b, o, none⟩ : Addr).add j) = some u := by
  intro j u hu
  rw [add_none]
  have hj : j < (flatNd l).length := by
    cases hlt : decide (j < (flatNd l).length) with
    | true => simpa using hlt
    | false => rw [List.getElem?_eq_none (by simpa using hlt)] at hu; cases hu
  rw [flatNd_length] at hj
  have hi : j / 3 < l.length := by omega
  have e : j / 3 * 3 + j % 3 = j := by omega
  have hg := flatNd_get l (j / 3) (j % 3) hi (by omega)
  rw [e, hu] at hg
  obtain ⟨h0, h1, h2⟩ := h (j / 3) hi
  have h5 : j % 3 = 0 ∨ j % 3 = 1 ∨ j % 3 = 2 := by omega
  rw [show o + j = o + j / 3 * 3 + j % 3 by omega]
  rcases h5 with q | q | q <;> rw [q] at hg ⊢ <;> simp only [Nd.cells, List.getElem?_cons_zero, List.getElem?_cons_succ, Option.some.injEq] at hg <;> subst hg
  · exact h0
  · exact h1
  · exact h2
theorem SlWNd.of_owns {w : World} {base : Nat} {e : TypeId} {v : Value} {n : Nat} {l : List Nd} (h : w.ownsRow base e 3 v n (flatNd l)) : SlWNd base w.heap.size w l v := by
  obtain ⟨hl, h | ⟨g, cap, cur, rfl, hb, hg, hn, hm, hs, ht⟩⟩ := h
  · obtain ⟨rfl, rfl⟩ := h
    rw [flatNd_length] at hl
    exact .empty none 0 (List.length_eq_zero_iff.1 (by omega))
  · rw [flatNd_length] at hl
    obtain rfl : n = l.length := by omega
    have hlt : g < w.heap.size := (Array.getElem?_eq_some_iff.1 hg).1
    have hcell : ∀ j, j < l.length * 3 → w.cell? ⟨g, j, none⟩ = (flatNd l)[j]? := by
      intro j hj
      rw [← ht, List.getElem?_take_of_lt hj]
      have hjs : j < cur.toList.length := by rw [Array.length_toList, hs]; exact Nat.lt_of_lt_of_le hj (Nat.mul_le_mul_right 3 hn)
      rw [List.getElem?_eq_getElem hjs]
      exact (cell_of_row w g j cur e _ hg).trans (by simp)
    refine .mk g 0 cap (fun i hi => ?_) hb hlt hlt (fun j => frozen_of_row w _ j _ _ hg) hn
    have hc : ∀ j, j < 3 → w.cell? ⟨g, 0 + i * 3 + j, none⟩ = l[i].cells[j]? := fun j hj => by rw [Nat.zero_add, hcell _ (by omega), flatNd_get l i j hi hj]
    exact ⟨hc 0 (by omega), hc 1 (by omega), hc 2 (by omega)⟩
def FilledONd (w : World) (B o n : Nat) (l : List Nd) (k : Nat) : Prop :=
  B < w.heap.size ∧ (∀ i (h : i < l.length), i < k → NdAt w B (o + i * 3) l[i]) ∧ (∀ j, j < n * 3 → ∃ v, w.cell? ⟨B, o + j, none⟩ = some v) ∧ (∀ j, w.frozen? ⟨B, j, none⟩ = false)
theorem FilledONd.start {w : World} {B o : Nat} {l0 l : List Nd} (h : NdsAt w B o l0) (hb : B < w.heap.size) (hf : ∀ j, w.frozen? ⟨B, j, none⟩ = false) : FilledONd w B o l0.length l 0 := by
  refine ⟨hb, fun i _ hi => absurd hi (by omega), fun j hj => ?_, hf⟩
  obtain ⟨h0, h1, h2⟩ := h (j / 3) (by omega)
  have : j % 3 = 0 ∨ j % 3 = 1 ∨ j % 3 = 2 := by omega
  have hj5 : j = j / 3 * 3 + j % 3 := by omega
  rcases this with e | e | e <;> rw [e] at hj5 <;> rw [hj5]
  · exact ⟨_, h0⟩
  · exact ⟨_, by rw [← Nat.add_assoc]; exact h1⟩
  · exact ⟨_, by rw [← Nat.add_assoc]; exact h2⟩
theorem FilledONd.store {w : World} {B o n k : Nat} {l : List Nd} {p : Nd} (h : FilledONd w B o n l k) (hk : k < l.length) (hp : l[k] = p) (hkn : k < n) : FilledONd (World.setNd w B (o + k * 3) p) B o n l (k + 1) := by
  obtain ⟨h1, h2, h3, h4⟩ := h
  refine ⟨by simpa [World.setNd, World.size_setCell] using h1, fun i hi hik => ?_, fun j hj => ?_, fun j => ?_⟩
  · by_cases e : i = k
    · subst e
      rw [hp]
      exact setNd_at (fun j hj => by rw [Nat.add_assoc]; exact h3 _ (by omega))
    · obtain ⟨a0, a1, a2⟩ := h2 i hi (by omega)
      exact ⟨by rw [setNd_other (by omega)]; exact a0, by rw [setNd_other (by omega)]; exact a1, by rw [setNd_other (by omega)]; exact a2⟩
  · obtain ⟨v, hv⟩ := h3 j hj
    unfold World.setNd
    obtain ⟨v1, g1⟩ := cell_set (j := o + k * 3) (v := .int .i8 p.kind) hv
    obtain ⟨v2, g2⟩ := cell_set (j := o + k * 3 + 1) (v := .int .i16 p.a) g1
    exact cell_set (j := o + k * 3 + 2) (v := .int .i16 p.b) g2
  · unfold World.setNd
    simp only [World.frozen?_setCell]
    exact h4 j

def markNd (k : Int) : Nd := ⟨IntKind.i8.wrap (k), IntKind.i16.wrap (k + 1), IntKind.i16.wrap (k + 1 + 1)⟩
def marksNd (k : Int) (n : Nat) : List Nd := (List.range n).map fun i : Nat => markNd (k + 3 * (i : Int))
theorem marksNd_length (k : Int) (n : Nat) : (marksNd k n).length = n := by simp [marksNd]
theorem marksNd_get (k : Int) (n i : Nat) (h : i < (marksNd k n).length) : (marksNd k n)[i] = markNd (k + 3 * i) := by simp [marksNd]

end Go.Proofs.YtlbnhdnmcnfgdaaDoor
