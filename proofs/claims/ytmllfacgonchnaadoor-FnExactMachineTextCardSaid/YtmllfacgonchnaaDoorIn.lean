/- Slices of whole numbers: cells, slices in a window of blocks; the laws' own equality, marking, copies. -/
import Derived.Test.YtmllfacgonchnaaDoorG4
namespace Go.Proofs.YtmllfacgonchnaaDoor
open Go.ChangeShapes Go.WideShapes Go.ChangeAt Go.RowKit Go.Joins Go.Deep
set_option linter.unusedVariables false

def InsAt (w : World) (b o : Nat) (l : List Int) : Prop := ∀ i (h : i < l.length), w.cell? ⟨b, o + i, none⟩ = some (.int .i64 l[i])
def InsWf (l : List Int) : Prop := ∀ p ∈ l, (Lit.int .i64 p).wf = true
theorem InsAt.below {W w' : World} {b o : Nat} {l : List Int} (h : InsAt W b o l) (hb : Below W.heap.size W w') (hl : b < W.heap.size) : InsAt w' b o l :=
  fun i hi => (hb.cell (p := ⟨b, o + i, none⟩) hl).trans (h i hi)
inductive SlIn (w : World) (l : List Int) : Value → Prop where
  | empty (a : Option Addr) (cap : Nat) (h : l = []) : SlIn w l (.slice a 0 cap)
  | mk (b o cap : Nat) (hc : InsAt w b o l) (hb : b < w.heap.size) (hl : l.length ≤ cap) : SlIn w l (.slice (some ⟨b, o, none⟩) l.length cap)
theorem SlIn.below {w w' : World} {l : List Int} {s : Value} (h : SlIn w l s) (hb : Below w.heap.size w w') : SlIn w' l s := by
  cases h with
  | empty a cap h => exact .empty a cap h
  | mk b o cap hc hbl hl => exact .mk b o cap (hc.below hb hbl) (Nat.lt_of_lt_of_le hbl hb.size) hl
theorem InsAt.out {lo hi : Nat} {w w' : World} {b o : Nat} {l : List Int} (h : InsAt w b o l) (g : KeptOut lo hi w w') (hb : b < w.heap.size) (ho : b < lo ∨ hi ≤ b) : InsAt w' b o l :=
  fun i hi' => (g.cell hb ho).trans (h i hi')
inductive SlWIn (lo hi : Nat) (w : World) (l : List Int) : Value → Prop where
  | empty (a : Option Addr) (cap : Nat) (h : l = []) : SlWIn lo hi w l (.slice a 0 cap)
  | mk (b o cap : Nat) (hc : InsAt w b o l) (h1 : lo ≤ b) (h2 : b < hi) (hb : b < w.heap.size) (hf : ∀ j, w.frozen? ⟨b, j, none⟩ = false) (hl : l.length ≤ cap) : SlWIn lo hi w l (.slice (some ⟨b, o, none⟩) l.length cap)
theorem SlWIn.sl {lo hi : Nat} {w : World} {l : List Int} {v : Value} (h : SlWIn lo hi w l v) : SlIn w l v := by
  cases h with
  | empty a cap h => exact .empty a cap h
  | mk b o cap hc _ _ hb _ hl => exact .mk b o cap hc hb hl
theorem SlWIn.below {lo hi : Nat} {w w' : World} {l : List Int} {v : Value} (h : SlWIn lo hi w l v) (g : Below w.heap.size w w') : SlWIn lo hi w' l v := by
  cases h with
  | empty a cap h => exact .empty a cap h
  | mk b o cap hc h1 h2 hb hf hl => exact .mk b o cap (hc.below g hb) h1 h2 (Nat.lt_of_lt_of_le hb g.size) (fun j => (g.frozen (p := ⟨b, j, none⟩) hb).trans (hf j)) hl
theorem SlWIn.out {lo hi lo2 hi2 : Nat} {w w' : World} {l : List Int} {v : Value} (h : SlWIn lo hi w l v) (g : KeptOut lo2 hi2 w w') (ho : hi ≤ lo2 ∨ hi2 ≤ lo) : SlWIn lo hi w' l v := by
  cases h with
  | empty a cap h => exact .empty a cap h
  | mk b o cap hc h1 h2 hb hf hl => exact .mk b o cap (hc.out g hb (by omega)) h1 h2 (Nat.lt_of_lt_of_le hb g.size) (fun j => (g.frozen hb (by omega)).trans (hf j)) hl
theorem SlWIn.mono {lo hi lo2 hi2 : Nat} {w : World} {l : List Int} {v : Value} (h : SlWIn lo hi w l v) (h1 : lo2 ≤ lo) (h2 : hi ≤ hi2) : SlWIn lo2 hi2 w l v := by
  cases h with
  | empty a cap h => exact .empty a cap h
  | mk b o cap hc h1 h2 hb hf hl => exact .mk b o cap hc (by omega) (by omega) hb hf hl
theorem SlWIn.form {lo hi : Nat} {w : World} {l : List Int} {v : Value} (h : SlWIn lo hi w l v) : ∃ a c, v = .slice a l.length c := by
  cases h with
  | empty a cap h => exact ⟨a, cap, by rw [h]; rfl⟩
  | mk b o cap _ _ _ _ _ _ => exact ⟨_, cap, rfl⟩
inductive SlOIn (B : Nat) (w : World) (l : List Int) : Value → Prop where
  | empty (a : Option Addr) (cap : Nat) (h : l = []) : SlOIn B w l (.slice a 0 cap)
  | mk (b o cap : Nat) (hc : InsAt w b o l) (hB : b < B) (hb : b < w.heap.size) (hl : l.length ≤ cap) : SlOIn B w l (.slice (some ⟨b, o, none⟩) l.length cap)
theorem SlOIn.sl {B : Nat} {w : World} {l : List Int} {v : Value} (h : SlOIn B w l v) : SlIn w l v := by
  cases h with
  | empty a cap h => exact .empty a cap h
  | mk b o cap hc _ hb hl => exact .mk b o cap hc hb hl
theorem SlOIn.start {w : World} {l : List Int} {v : Value} (h : SlIn w l v) : SlOIn w.heap.size w l v := by
  cases h with
  | empty a cap h => exact .empty a cap h
  | mk b o cap hc hb hl => exact .mk b o cap hc hb hb hl
theorem SlOIn.below {B : Nat} {w w' : World} {l : List Int} {v : Value} (h : SlOIn B w l v) (g : Below w.heap.size w w') : SlOIn B w' l v := by
  cases h with
  | empty a cap h => exact .empty a cap h
  | mk b o cap hc hB hb hl => exact .mk b o cap (hc.below g hb) hB (Nat.lt_of_lt_of_le hb g.size) hl
theorem SlOIn.out {B lo hi : Nat} {w w' : World} {l : List Int} {v : Value} (h : SlOIn B w l v) (g : KeptOut lo hi w w') (ho : B ≤ lo) : SlOIn B w' l v := by
  cases h with
  | empty a cap h => exact .empty a cap h
  | mk b o cap hc hB hb hl => exact .mk b o cap (hc.out g hb (Or.inl (by omega))) hB (Nat.lt_of_lt_of_le hb g.size) hl

def flatIn (l : List Int) : List Value := l.map fun x => .int .i64 x
theorem flatIn_length (l : List Int) : (flatIn l).length = l.length := by simp [flatIn]
theorem flatIn_one (l : List Int) : ∀ u ∈ flatIn l, u.oneCell' = true := by
  intro u hu
  obtain ⟨p, _, rfl⟩ := List.mem_map.1 hu
  rfl
theorem flatIn_end (l : List Int) (p : Int) : flatIn (l ++ [p]) = flatIn l ++ [.int .i64 p] := by simp [flatIn]
theorem SlWIn.of_owns {w : World} {base : Nat} {e : TypeId} {v : Value} {n : Nat} {l : List Int} (h : w.ownsRow base e 1 v n (flatIn l)) : SlWIn base w.heap.size w l v := by
  obtain ⟨hl, h | ⟨g, cap, cur, rfl, hb, hg, hn, hm, hs, ht⟩⟩ := h
  · obtain ⟨rfl, rfl⟩ := h
    rw [flatIn_length] at hl
    exact .empty none 0 (List.length_eq_zero_iff.1 (by omega))
  · rw [flatIn_length] at hl
    obtain rfl : n = l.length := by omega
    have hlt : g < w.heap.size := (Array.getElem?_eq_some_iff.1 hg).1
    refine .mk g 0 cap (fun i hi => ?_) hb hlt hlt (fun j => frozen_of_row w _ j _ _ hg) hn
    have hjs : i < cur.toList.length := by rw [Array.length_toList, hs]; omega
    have h2 : w.cell? ⟨g, i, none⟩ = (flatIn l)[i]? := by
      rw [← ht, List.getElem?_take_of_lt (by omega), List.getElem?_eq_getElem hjs]
      exact (cell_of_row w g i cur e _ hg).trans (by simp)
    rw [Nat.zero_add, h2]
    simp [flatIn, List.getElem?_eq_getElem hi]
/-- block B holds n numbers from o on, whose first k are those of 'l' -/
def FilledIn (w : World) (B o n : Nat) (l : List Int) (k : Nat) : Prop :=
  B < w.heap.size ∧ (∀ i (h : i < l.length), i < k → w.cell? ⟨B, o + i, none⟩ = some (.int .i64 l[i])) ∧ (∀ j, j < n → ∃ v, w.cell? ⟨B, o + j, none⟩ = some v) ∧ (∀ j, w.frozen? ⟨B, j, none⟩ = false)
theorem FilledIn.start {w : World} {B o : Nat} {l0 l : List Int} (h : InsAt w B o l0) (hb : B < w.heap.size) (hf : ∀ j, w.frozen? ⟨B, j, none⟩ = false) : FilledIn w B o l0.length l 0 :=
  ⟨hb, fun i _ hi => absurd hi (by omega), fun j hj => ⟨_, h j hj⟩, hf⟩
theorem FilledIn.made {w w' : World} {n B : Nat} {l : List Int} {e : TypeId} {v : Value} {xs : List Value} (h : w.ownsRow B e 1 (.slice (some ⟨B, 0, none⟩) n n) n xs) : FilledIn w B 0 n l 0 := by
  refine ⟨(h.lt B rfl).2, fun i _ hi => absurd hi (by omega), fun j hj => ?_, fun j => h.frozenAt j⟩
  have hl : xs.length = n * 1 := h.1
  exact ⟨xs[j]'(by omega), by rw [Nat.zero_add, h.cellAt j (by omega)]; exact List.getElem?_eq_getElem (by omega)⟩
theorem FilledIn.below {w w' : World} {n B o k : Nat} {l : List Int} (h : FilledIn w B o n l k) (hb : Below w.heap.size w w') : FilledIn w' B o n l k := by
  obtain ⟨h1, h2, h3, h4⟩ := h
  refine ⟨Nat.lt_of_lt_of_le h1 hb.size, fun i hi hk => ?_, fun j hj => ?_, fun j => ?_⟩
  · rw [hb.cell (p := ⟨B, o + i, none⟩) h1]; exact h2 i hi hk
  · rw [hb.cell (p := ⟨B, o + j, none⟩) h1]; exact h3 j hj
  · rw [hb.frozen (p := ⟨B, j, none⟩) h1]; exact h4 j
theorem FilledIn.store {w : World} {B o n k : Nat} {l : List Int} {p : Int} (h : FilledIn w B o n l k) (hk : k < l.length) (hp : l[k] = p) (hkn : k < n) : FilledIn (w.setCell ⟨B, o + k, none⟩ (.int .i64 p)) B o n l (k + 1) := by
  obtain ⟨h1, h2, h3, h4⟩ := h
  have ne : ∀ i : Nat, i ≠ k → (⟨B, o + k, none⟩ : Addr) ≠ ⟨B, o + i, none⟩ := by intro i hi e; injection e with _ h _; omega
  refine ⟨by simpa [World.size_setCell] using h1, fun i hi hik => ?_, fun j hj => ?_, fun j => by rw [World.frozen?_setCell]; exact h4 j⟩
  · by_cases e : i = k
    · subst e
      obtain ⟨v, hv⟩ := h3 i hkn
      rw [hp, World.cell?_setCell_same _ _ _ hv]
    · rw [World.cell?_setCell_other _ _ _ _ (ne i e)]; exact h2 i hi (by omega)
  · by_cases e : j = k
    · subst e
      obtain ⟨v, hv⟩ := h3 j hj
      exact ⟨_, World.cell?_setCell_same _ _ _ hv⟩
    · rw [World.cell?_setCell_other _ _ _ _ (ne j e)]; exact h3 j hj
def markIn (k : Int) : Int := k
def marksIn (k : Int) (n : Nat) : List Int := (List.range n).map fun i : Nat => k + (i : Int)
theorem marksIn_length (k : Int) (n : Nat) : (marksIn k n).length = n := by simp [marksIn]
theorem marksIn_get (k : Int) (n i : Nat) (h : i < (marksIn k n).length) : (marksIn k n)[i] = k + (i : Int) := by simp [marksIn]
end Go.Proofs.YtmllfacgonchnaaDoor
