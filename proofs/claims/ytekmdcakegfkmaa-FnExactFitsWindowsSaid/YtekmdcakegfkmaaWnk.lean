/- Slices of the type Window that a call has made: where they lie; the laws' own marking of them; copies. -/
import Derived.Test.YtekmdcakegfkmaaWn
import Derived.Test.YtekmdcakegfkmaaG4
namespace Go.Proofs.Ytekmdcakegfkmaa
open Go.ChangeShapes Go.WideShapes Go.ChangeAt Go.RowKit Go.Joins Go.Deep
set_option linter.unusedVariables false

theorem WnsAt.out {lo hi : Nat} {w w' : World} {b o : Nat} {l : List Wn} (h : WnsAt w b o l) (g : KeptOut lo hi w w') (hb : b < w.heap.size) (ho : b < lo ∨ hi ≤ b) : WnsAt w' b o l := by
  intro i hi'
  obtain ⟨h0, h1, h2, h3⟩ := h i hi'
  exact ⟨(g.cell hb ho).trans h0, (g.cell hb ho).trans h1, (g.cell hb ho).trans h2, (g.cell hb ho).trans h3⟩
inductive SlWWn (lo hi : Nat) (w : World) (l : List Wn) : Value → Prop where
  | empty (a : Option Addr) (cap : Nat) (h : l = []) : SlWWn lo hi w l (.slice a 0 cap)
  | mk (b o cap : Nat) (hc : WnsAt w b o l) (h1 : lo ≤ b) (h2 : b < hi) (hb : b < w.heap.size) (hf : ∀ j, w.frozen? ⟨b, j, none⟩ = false) (hl : l.length ≤ cap) : SlWWn lo hi w l (.slice (some ⟨b, o, none⟩) l.length cap)
theorem SlWWn.sl {lo hi : Nat} {w : World} {l : List Wn} {v : Value} (h : SlWWn lo hi w l v) : SlWn w l v := by
  cases h with
  | empty a cap h => exact .empty a cap h
  | mk b o cap hc _ _ hb _ hl => exact .mk b o cap hc hb hl
theorem SlWWn.below {lo hi : Nat} {w w' : World} {l : List Wn} {v : Value} (h : SlWWn lo hi w l v) (g : Below w.heap.size w w') : SlWWn lo hi w' l v := by
  cases h with
  | empty a cap h => exact .empty a cap h
  | mk b o cap hc h1 h2 hb hf hl => exact .mk b o cap (hc.below g hb) h1 h2 (Nat.lt_of_lt_of_le hb g.size) (fun j => (g.frozen (p := ⟨b, j, none⟩) hb).trans (hf j)) hl
theorem SlWWn.out {lo hi lo2 hi2 : Nat} {w w' : World} {l : List Wn} {v : Value} (h : SlWWn lo hi w l v) (g : KeptOut lo2 hi2 w w') (ho : hi ≤ lo2 ∨ hi2 ≤ lo) : SlWWn lo hi w' l v := by
  cases h with
  | empty a cap h => exact .empty a cap h
  | mk b o cap hc h1 h2 hb hf hl => exact .mk b o cap (hc.out g hb (by omega)) h1 h2 (Nat.lt_of_lt_of_le hb g.size) (fun j => (g.frozen hb (by omega)).trans (hf j)) hl
theorem SlWWn.mono {lo hi lo2 hi2 : Nat} {w : World} {l : List Wn} {v : Value} (h : SlWWn lo hi w l v) (h1 : lo2 ≤ lo) (h2 : hi ≤ hi2) : SlWWn lo2 hi2 w l v := by
  cases h with
  | empty a cap h => exact .empty a cap h
  | mk b o cap hc h1 h2 hb hf hl => exact .mk b o cap hc (by omega) (by omega) hb hf hl
theorem SlWWn.form {lo hi : Nat} {w : World} {l : List Wn} {v : Value} (h : SlWWn lo hi w l v) : ∃ a c, v = .slice a l.length c := by
  cases h with
  | empty a cap h => exact ⟨a, cap, by rw [h]; rfl⟩
  | mk b o cap _ _ _ _ _ _ => exact ⟨_, cap, rfl⟩
inductive SlOWn (B : Nat) (w : World) (l : List Wn) : Value → Prop where
  | empty (a : Option Addr) (cap : Nat) (h : l = []) : SlOWn B w l (.slice a 0 cap)
  | mk (b o cap : Nat) (hc : WnsAt w b o l) (hB : b < B) (hb : b < w.heap.size) (hl : l.length ≤ cap) : SlOWn B w l (.slice (some ⟨b, o, none⟩) l.length cap)
theorem SlOWn.sl {B : Nat} {w : World} {l : List Wn} {v : Value} (h : SlOWn B w l v) : SlWn w l v := by
  cases h with
  | empty a cap h => exact .empty a cap h
  | mk b o cap hc _ hb hl => exact .mk b o cap hc hb hl
theorem SlOWn.start {w : World} {l : List Wn} {v : Value} (h : SlWn w l v) : SlOWn w.heap.size w l v := by
  cases h with
  | empty a cap h => exact .empty a cap h
  | mk b o cap hc hb hl => exact .mk b o cap hc hb hb hl
theorem SlOWn.below {B : Nat} {w w' : World} {l : List Wn} {v : Value} (h : SlOWn B w l v) (g : Below w.heap.size w w') : SlOWn B w' l v := by
  cases h with
  | empty a cap h => exact .empty a cap h
  | mk b o cap hc hB hb hl => exact .mk b o cap (hc.below g hb) hB (Nat.lt_of_lt_of_le hb g.size) hl
theorem SlOWn.out {B lo hi : Nat} {w w' : World} {l : List Wn} {v : Value} (h : SlOWn B w l v) (g : KeptOut lo hi w w') (ho : B ≤ lo) : SlOWn B w' l v := by
  cases h with
  | empty a cap h => exact .empty a cap h
  | mk b o cap hc hB hb hl => exact .mk b o cap (hc.out g hb (Or.inl (by omega))) hB (Nat.lt_of_lt_of_le hb g.size) hl

def Wn.cells (p : Wn) : List Value := [.int .u8 p.sides, .bool p.sure, .int .i64 p.early, .int .i64 p.late]
def flatWn (l : List Wn) : List Value := l.flatMap Wn.cells
theorem flatWn_length (l : List Wn) : (flatWn l).length = l.length * 4 := by
  induction l with
  | nil => rfl
  | cons p l ih => simp only [flatWn, List.flatMap_cons, List.length_append, List.length_cons] at *; rw [ih]; simp only [Wn.cells, List.length_cons, List.length_nil]; omega
theorem Wn_one (p : Wn) : ∀ u ∈ p.cells, u.oneCell' = true := by
  intro u hu
  simp only [Wn.cells, List.mem_cons, List.not_mem_nil, or_false] at hu
  rcases hu with rfl | rfl | rfl | rfl <;> rfl
theorem flatWn_one (l : List Wn) : ∀ u ∈ flatWn l, u.oneCell' = true := by
  intro u hu
  obtain ⟨p, _, hp⟩ := List.mem_flatMap.1 hu
  exact Wn_one p u hp
theorem flatWn_end (l : List Wn) (p : Wn) : flatWn (l ++ [p]) = flatWn l ++ p.cells := by simp [flatWn]
theorem flatWn_get : ∀ (l : List Wn) (i j : Nat) (h : i < l.length), j < 4 → (flatWn l)[i * 4 + j]? = l[i].cells[j]?
  | p :: l, 0, j, _, hj => by
    rw [show flatWn (p :: l) = p.cells ++ flatWn l from List.flatMap_cons, List.getElem?_append_left (by simp [Wn.cells]; omega)]; simp
  | p :: l, i + 1, j, h, hj => by
    rw [show flatWn (p :: l) = p.cells ++ flatWn l from List.flatMap_cons, List.getElem?_append_right (by simp [Wn.cells]; omega)]
    have := flatWn_get l i j (by simpa using h) hj
    simp only [List.getElem_cons_succ]
    rw [← this]
    congr 1
    simp [Wn.cells]; omega
  | [], _, _, h, _ => by simp at h
theorem WnsAt.news {w : World} {b o : Nat} {l : List Wn} (h : WnsAt w b o l) : ∀ j u, (flatWn l)[j]? = some u → w.cell? ((⟨b, o, none⟩ : Addr).add j) = some u := by
  intro j u hu
  rw [add_none]
  have hj : j < (flatWn l).length := by
    cases hlt : decide (j < (flatWn l).length) with
    | true => simpa using hlt
    | false => rw [List.getElem?_eq_none (by simpa using hlt)] at hu; cases hu
  rw [flatWn_length] at hj
  have hi : j / 4 < l.length := by omega
  have e : j / 4 * 4 + j % 4 = j := by omega
  have hg := flatWn_get l (j / 4) (j % 4) hi (by omega)
  rw [e, hu] at hg
  obtain ⟨h0, h1, h2, h3⟩ := h (j / 4) hi
  have h5 : j % 4 = 0 ∨ j % 4 = 1 ∨ j % 4 = 2 ∨ j % 4 = 3 := by omega
  rw [show o + j = o + j / 4 * 4 + j % 4 by omega]
  rcases h5 with q | q | q | q <;> rw [q] at hg ⊢ <;> simp only [Wn.cells, List.getElem?_cons_zero, List.getElem?_cons_succ, Option.some.injEq] at hg <;> subst hg
  · exact h0
  · exact h1
  · exact h2
  · exact h3
theorem SlWWn.of_owns {w : World} {base : Nat} {e : TypeId} {v : Value} {n : Nat} {l : List Wn} (h : w.ownsRow base e 4 v n (flatWn l)) : SlWWn base w.heap.size w l v := by
  obtain ⟨hl, h | ⟨g, cap, cur, rfl, hb, hg, hn, hm, hs, ht⟩⟩ := h
  · obtain ⟨rfl, rfl⟩ := h
    rw [flatWn_length] at hl
    exact .empty none 0 (List.length_eq_zero_iff.1 (by omega))
  · rw [flatWn_length] at hl
    obtain rfl : n = l.length := by omega
    have hlt : g < w.heap.size := (Array.getElem?_eq_some_iff.1 hg).1
    have hcell : ∀ j, j < l.length * 4 → w.cell? ⟨g, j, none⟩ = (flatWn l)[j]? := by
      intro j hj
      rw [← ht, List.getElem?_take_of_lt hj]
      have hjs : j < cur.toList.length := by rw [Array.length_toList, hs]; exact Nat.lt_of_lt_of_le hj (Nat.mul_le_mul_right 4 hn)
      rw [List.getElem?_eq_getElem hjs]
      exact (cell_of_row w g j cur e _ hg).trans (by simp)
    refine .mk g 0 cap (fun i hi => ?_) hb hlt hlt (fun j => frozen_of_row w _ j _ _ hg) hn
    have hc : ∀ j, j < 4 → w.cell? ⟨g, 0 + i * 4 + j, none⟩ = l[i].cells[j]? := fun j hj => by rw [Nat.zero_add, hcell _ (by omega), flatWn_get l i j hi hj]
    exact ⟨hc 0 (by omega), hc 1 (by omega), hc 2 (by omega), hc 3 (by omega)⟩
def FilledOWn (w : World) (B o n : Nat) (l : List Wn) (k : Nat) : Prop :=
  B < w.heap.size ∧ (∀ i (h : i < l.length), i < k → WnAt w B (o + i * 4) l[i]) ∧ (∀ j, j < n * 4 → ∃ v, w.cell? ⟨B, o + j, none⟩ = some v) ∧ (∀ j, w.frozen? ⟨B, j, none⟩ = false)
theorem FilledOWn.start {w : World} {B o : Nat} {l0 l : List Wn} (h : WnsAt w B o l0) (hb : B < w.heap.size) (hf : ∀ j, w.frozen? ⟨B, j, none⟩ = false) : FilledOWn w B o l0.length l 0 := by
  refine ⟨hb, fun i _ hi => absurd hi (by omega), fun j hj => ?_, hf⟩
  obtain ⟨h0, h1, h2, h3⟩ := h (j / 4) (by omega)
  have : j % 4 = 0 ∨ j % 4 = 1 ∨ j % 4 = 2 ∨ j % 4 = 3 := by omega
  have hj5 : j = j / 4 * 4 + j % 4 := by omega
  rcases this with e | e | e | e <;> rw [e] at hj5 <;> rw [hj5]
  · exact ⟨_, h0⟩
  · exact ⟨_, by rw [← Nat.add_assoc]; exact h1⟩
  · exact ⟨_, by rw [← Nat.add_assoc]; exact h2⟩
  · exact ⟨_, by rw [← Nat.add_assoc]; exact h3⟩
theorem FilledOWn.store {w : World} {B o n k : Nat} {l : List Wn} {p : Wn} (h : FilledOWn w B o n l k) (hk : k < l.length) (hp : l[k] = p) (hkn : k < n) : FilledOWn (World.setWn w B (o + k * 4) p) B o n l (k + 1) := by
  obtain ⟨h1, h2, h3, h4⟩ := h
  refine ⟨by simpa [World.setWn, World.size_setCell] using h1, fun i hi hik => ?_, fun j hj => ?_, fun j => ?_⟩
  · by_cases e : i = k
    · subst e
      rw [hp]
      exact setWn_at (fun j hj => by rw [Nat.add_assoc]; exact h3 _ (by omega))
    · obtain ⟨a0, a1, a2, a3⟩ := h2 i hi (by omega)
      exact ⟨by rw [setWn_other (by omega)]; exact a0, by rw [setWn_other (by omega)]; exact a1, by rw [setWn_other (by omega)]; exact a2, by rw [setWn_other (by omega)]; exact a3⟩
  · obtain ⟨v, hv⟩ := h3 j hj
    unfold World.setWn
    obtain ⟨v1, g1⟩ := cell_set (j := o + k * 4) (v := .int .u8 p.sides) hv
    obtain ⟨v2, g2⟩ := cell_set (j := o + k * 4 + 1) (v := .bool p.sure) g1
    obtain ⟨v3, g3⟩ := cell_set (j := o + k * 4 + 2) (v := .int .i64 p.early) g2
    exact cell_set (j := o + k * 4 + 3) (v := .int .i64 p.late) g3
  · unfold World.setWn
    simp only [World.frozen?_setCell]
    exact h4 j

def markWn (k : Int) : Wn := ⟨IntKind.u8.wrap (k), decide ((k + 1).tmod 3 = 0), k + 1 + 1, k + 1 + 1 + 1⟩
def marksWn (k : Int) (n : Nat) : List Wn := (List.range n).map fun i : Nat => markWn (k + 4 * (i : Int))
theorem marksWn_length (k : Int) (n : Nat) : (marksWn k n).length = n := by simp [marksWn]
theorem marksWn_get (k : Int) (n i : Nat) (h : i < (marksWn k n).length) : (marksWn k n)[i] = markWn (k + 4 * i) := by simp [marksWn]

end Go.Proofs.Ytekmdcakegfkmaa
