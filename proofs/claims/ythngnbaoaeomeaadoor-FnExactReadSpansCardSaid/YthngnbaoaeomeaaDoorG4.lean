/- Several texts in one: Mk, Bo, Cp, Wk, Pp, MvA. -/
import Derived.Test.YthngnbaoaeomeaaDoorG2
import Derived.Test.YthngnbaoaeomeaaDoorG1
import Derived.Deep.AppendLies
import Derived.Deep.RegionLaw
import Derived.Deep.RegionHeldLaw
import Derived.Lib.SliceRun
import Derived.Laws.Tables
import Derived.Laws.Rows
/- The laws' own marking of boards, and what is told of slices that a call hands back. -/
namespace Go.Proofs.YthngnbaoaeomeaaDoor
open Go.ChangeShapes Go.WideShapes Go.ChangeAt Go.RowKit
set_option linter.unusedVariables false

/-- as it was, but for the blocks from lo up to hi -/
structure KeptOut (lo hi : Nat) (w w' : World) : Prop where
  os : w'.os = w.os
  tape : w'.tape = w.tape
  output : w'.output = w.output
  size : w.heap.size ≤ w'.heap.size
  block : ∀ k, k < w.heap.size → (k < lo ∨ hi ≤ k) → w'.heap[k]? = w.heap[k]?
theorem KeptOut.of_below {lo hi : Nat} {w w' : World} (h : Below w.heap.size w w') : KeptOut lo hi w w' := ⟨h.os, h.tape, h.output, h.size, fun k hk _ => h.block k hk⟩
theorem KeptOut.trans {lo hi : Nat} {a b c : World} (h : KeptOut lo hi a b) (g : KeptOut lo hi b c) : KeptOut lo hi a c :=
  ⟨g.os.trans h.os, g.tape.trans h.tape, g.output.trans h.output, Nat.le_trans h.size g.size, fun k hk ho => (g.block k (Nat.lt_of_lt_of_le hk h.size) ho).trans (h.block k hk ho)⟩
theorem KeptOut.set {lo hi : Nat} {a b : World} (h : KeptOut lo hi a b) (p : Addr) (h1 : lo ≤ p.block) (h2 : p.block < hi) (v : Value) : KeptOut lo hi a (b.setCell p v) :=
  ⟨h.os, h.tape, h.output, by simpa [World.setCell] using h.size, fun k hk ho => (Below.heap_setCell _ _ _ _ (by omega)).trans (h.block k hk ho)⟩
theorem KeptOut.widen {lo hi lo2 hi2 : Nat} {w w' : World} (h : KeptOut lo hi w w') (h1 : lo2 ≤ lo) (h2 : hi ≤ hi2) : KeptOut lo2 hi2 w w' := ⟨h.os, h.tape, h.output, h.size, fun k hk ho => h.block k hk (by omega)⟩
theorem KeptOut.drew {lo hi : Nat} {a b : World} (h : KeptOut lo hi a b) : KeptOut lo hi a b.drew := ⟨h.os, h.tape, h.output, h.size, h.block⟩
theorem KeptOut.drewN {lo hi : Nat} {a b : World} (h : KeptOut lo hi a b) (n : Nat) : KeptOut lo hi a (b.drewN n) := ⟨h.os, h.tape, h.output, h.size, h.block⟩
theorem kOut {a b c : World} {lo hi : Nat} (h : Below a.heap.size a b) (g : KeptOut lo hi b c) (hl : a.heap.size ≤ lo) : Below a.heap.size a c :=
  ⟨g.os.trans h.os, g.tape.trans h.tape, g.output.trans h.output, Nat.le_trans h.size g.size, fun k hk => (g.block k (Nat.lt_of_lt_of_le hk h.size) (Or.inl (by omega))).trans (h.block k hk)⟩
theorem KeptOut.cell {lo hi : Nat} {w w' : World} (h : KeptOut lo hi w w') {b o : Nat} (hb : b < w.heap.size) (ho : b < lo ∨ hi ≤ b) : w'.cell? ⟨b, o, none⟩ = w.cell? ⟨b, o, none⟩ := World.cell?_of_block (w := w) (h.block b hb ho)
theorem KeptOut.frozen {lo hi : Nat} {w w' : World} (h : KeptOut lo hi w w') {b o : Nat} (hb : b < w.heap.size) (ho : b < lo ∨ hi ≤ b) : w'.frozen? ⟨b, o, none⟩ = w.frozen? ⟨b, o, none⟩ := World.frozen?_of_block (w := w) (h.block b hb ho)
theorem PcsAt.out {lo hi : Nat} {w w' : World} {b o : Nat} {l : List Pc} (h : PcsAt w b o l) (g : KeptOut lo hi w w') (hb : b < w.heap.size) (ho : b < lo ∨ hi ≤ b) : PcsAt w' b o l := by
  intro i hi'
  obtain ⟨h0, h1, h2, h3, h4⟩ := h i hi'
  exact ⟨(g.cell hb ho).trans h0, (g.cell hb ho).trans h1, (g.cell hb ho).trans h2, (g.cell hb ho).trans h3, (g.cell hb ho).trans h4⟩
theorem BdAt.out {lo hi : Nat} {w w' : World} {b o : Nat} {wd hg : Int} {v : Value} (h : BdAt w b o wd hg v) (g : KeptOut lo hi w w') (ho : b < lo ∨ hi ≤ b) : BdAt w' b o wd hg v :=
  ⟨(g.cell h.lt ho).trans h.1, (g.cell h.lt ho).trans h.2.1, (g.cell h.lt ho).trans h.2.2⟩

/-- a slice of pieces whose block, if it has any, is one from lo up to hi, and not frozen -/
inductive SlW (lo hi : Nat) (w : World) (l : List Pc) : Value → Prop where
  | empty (a : Option Addr) (cap : Nat) (h : l = []) : SlW lo hi w l (.slice a 0 cap)
  | mk (b o cap : Nat) (hc : PcsAt w b o l) (h1 : lo ≤ b) (h2 : b < hi) (hb : b < w.heap.size) (hf : ∀ j, w.frozen? ⟨b, j, none⟩ = false) (hl : l.length ≤ cap) : SlW lo hi w l (.slice (some ⟨b, o, none⟩) l.length cap)
theorem SlW.sl {lo hi : Nat} {w : World} {l : List Pc} {v : Value} (h : SlW lo hi w l v) : Sl w l v := by
  cases h with
  | empty a cap h => exact .empty a cap h
  | mk b o cap hc _ _ hb _ hl => exact .mk b o cap hc hb hl
theorem SlW.below {lo hi : Nat} {w w' : World} {l : List Pc} {v : Value} (h : SlW lo hi w l v) (g : Below w.heap.size w w') : SlW lo hi w' l v := by
  cases h with
  | empty a cap h => exact .empty a cap h
  | mk b o cap hc h1 h2 hb hf hl => exact .mk b o cap (hc.below g hb) h1 h2 (Nat.lt_of_lt_of_le hb g.size) (fun j => (g.frozen (p := ⟨b, j, none⟩) hb).trans (hf j)) hl
theorem SlW.out {lo hi lo2 hi2 : Nat} {w w' : World} {l : List Pc} {v : Value} (h : SlW lo hi w l v) (g : KeptOut lo2 hi2 w w') (ho : hi ≤ lo2 ∨ hi2 ≤ lo) : SlW lo hi w' l v := by
  cases h with
  | empty a cap h => exact .empty a cap h
  | mk b o cap hc h1 h2 hb hf hl => exact .mk b o cap (hc.out g hb (by omega)) h1 h2 (Nat.lt_of_lt_of_le hb g.size) (fun j => (g.frozen hb (by omega)).trans (hf j)) hl
theorem SlW.mono {lo hi lo2 hi2 : Nat} {w : World} {l : List Pc} {v : Value} (h : SlW lo hi w l v) (h1 : lo2 ≤ lo) (h2 : hi ≤ hi2) : SlW lo2 hi2 w l v := by
  cases h with
  | empty a cap h => exact .empty a cap h
  | mk b o cap hc h1 h2 hb hf hl => exact .mk b o cap hc (by omega) (by omega) hb hf hl
theorem Sl.out {lo hi : Nat} {w w' : World} {l : List Pc} {v : Value} {n : Nat} (h : Sl w l v) (g : KeptOut lo hi w w') (hl : w.heap.size ≤ lo) : Sl w' l v := by
  cases h with
  | empty a cap h => exact .empty a cap h
  | mk b o cap hc hb h => exact .mk b o cap (hc.out g hb (by omega)) (Nat.lt_of_lt_of_le hb g.size) h

/-! ### slices that a call has made by append -/
def flatL (l : List Pc) : List Value := l.flatMap Pc.cells
theorem flatL_length (l : List Pc) : (flatL l).length = l.length * 5 := by
  induction l with
  | nil => rfl
  | cons p l ih => simp only [flatL, List.flatMap_cons, List.length_append, List.length_cons] at *; rw [ih]; simp only [Pc.cells, List.length_cons, List.length_nil]; omega
theorem flatL_append (l r : List Pc) : flatL (l ++ r) = flatL l ++ flatL r := by simp [flatL]
theorem flatL_one (l : List Pc) : ∀ u ∈ flatL l, u.oneCell' = true := by
  intro u hu
  obtain ⟨p, _, hp⟩ := List.mem_flatMap.1 hu
  simp only [Pc.cells, List.mem_cons, List.not_mem_nil, or_false] at hp
  rcases hp with rfl | rfl | rfl | rfl | rfl <;> rfl
theorem flatL_get : ∀ (l : List Pc) (i j : Nat) (h : i < l.length), j < 5 → (flatL l)[i * 5 + j]? = l[i].cells[j]?
  | p :: l, 0, j, _, hj => by
    rw [show flatL (p :: l) = p.cells ++ flatL l from List.flatMap_cons, List.getElem?_append_left (by simp [Pc.cells]; omega)]; simp
  | p :: l, i + 1, j, h, hj => by
    rw [show flatL (p :: l) = p.cells ++ flatL l from List.flatMap_cons, List.getElem?_append_right (by simp [Pc.cells]; omega)]
    have := flatL_get l i j (by simpa using h) hj
    simp only [List.getElem_cons_succ]
    rw [← this]
    congr 1
    simp [Pc.cells]; omega
  | [], _, _, h, _ => by simp at h
/-- the cells of a slice that is read, as they stand in memory -/
theorem PcsAt.news {w : World} {b o : Nat} {l : List Pc} (h : PcsAt w b o l) : ∀ j u, (flatL l)[j]? = some u → w.cell? ((⟨b, o, none⟩ : Addr).add j) = some u := by
  intro j u hu
  rw [add_none]
  have hj : j < (flatL l).length := by
    cases hlt : decide (j < (flatL l).length) with
    | true => simpa using hlt
    | false => rw [List.getElem?_eq_none (by simpa using hlt)] at hu; cases hu
  rw [flatL_length] at hj
  have hi : j / 5 < l.length := by omega
  have hm : j % 5 < 5 := by omega
  have e : j / 5 * 5 + j % 5 = j := by omega
  have hg := flatL_get l (j / 5) (j % 5) hi hm
  rw [e, hu] at hg
  obtain ⟨h0, h1, h2, h3, h4⟩ := h (j / 5) hi
  have h5 : j % 5 = 0 ∨ j % 5 = 1 ∨ j % 5 = 2 ∨ j % 5 = 3 ∨ j % 5 = 4 := by omega
  rw [show o + j = o + j / 5 * 5 + j % 5 by omega]
  rcases h5 with q | q | q | q | q <;> rw [q] at hg ⊢ <;> simp only [Pc.cells, List.getElem?_cons_zero, List.getElem?_cons_succ, Option.some.injEq] at hg <;> subst hg
  · exact h0
  · exact h1
  · exact h2
  · exact h3
  · exact h4
theorem SlW.of_owns {w : World} {base : Nat} {e : TypeId} {v : Value} {n : Nat} {l : List Pc} (h : w.ownsRow base e 5 v n (flatL l)) : SlW base w.heap.size w l v := by
  obtain ⟨hl, h | ⟨g, cap, cur, rfl, hb, hg, hn, hm, hs, ht⟩⟩ := h
  · obtain ⟨rfl, rfl⟩ := h
    rw [flatL_length] at hl
    exact .empty none 0 (List.length_eq_zero_iff.1 (by omega))
  · rw [flatL_length] at hl
    obtain rfl : n = l.length := by omega
    have hlt : g < w.heap.size := (Array.getElem?_eq_some_iff.1 hg).1
    have hcell : ∀ j, j < l.length * 5 → w.cell? ⟨g, j, none⟩ = (flatL l)[j]? := by
      intro j hj
      rw [← ht, List.getElem?_take_of_lt hj]
      have hjs : j < cur.toList.length := by rw [Array.length_toList, hs]; exact Nat.lt_of_lt_of_le hj (Nat.mul_le_mul_right 5 hn)
      rw [List.getElem?_eq_getElem hjs]
      exact (cell_of_row w g j cur e _ hg).trans (by simp)
    refine .mk g 0 cap (fun i hi => ?_) hb hlt hlt (fun j => frozen_of_row w _ j _ _ hg) hn
    have hc : ∀ j, j < 5 → w.cell? ⟨g, 0 + i * 5 + j, none⟩ = l[i].cells[j]? := fun j hj => by rw [Nat.zero_add, hcell _ (by omega), flatL_get l i j hi hj]
    exact ⟨hc 0 (by omega), hc 1 (by omega), hc 2 (by omega), hc 3 (by omega), hc 4 (by omega)⟩

/-- a row of n pieces from the o-th cell on, whose first k are those of 'l' -/
def FilledO (w : World) (B o n : Nat) (l : List Pc) (k : Nat) : Prop :=
  B < w.heap.size ∧ (∀ i (h : i < l.length), i < k → PcAt w B (o + i * 5) l[i]) ∧ (∀ j, j < n * 5 → ∃ v, w.cell? ⟨B, o + j, none⟩ = some v) ∧ (∀ j, w.frozen? ⟨B, j, none⟩ = false)
theorem FilledO.start {w : World} {B o : Nat} {l0 l : List Pc} (h : PcsAt w B o l0) (hb : B < w.heap.size) (hf : ∀ j, w.frozen? ⟨B, j, none⟩ = false) : FilledO w B o l0.length l 0 := by
  refine ⟨hb, fun i _ hi => absurd hi (by omega), fun j hj => ?_, hf⟩
  obtain ⟨h0, h1, h2, h3, h4⟩ := h (j / 5) (by omega)
  have : j % 5 = 0 ∨ j % 5 = 1 ∨ j % 5 = 2 ∨ j % 5 = 3 ∨ j % 5 = 4 := by omega
  have hj5 : j = j / 5 * 5 + j % 5 := by omega
  rcases this with e | e | e | e | e <;> rw [e] at hj5 <;> rw [hj5]
  · exact ⟨_, h0⟩
  · exact ⟨_, by rw [← Nat.add_assoc]; exact h1⟩
  · exact ⟨_, by rw [← Nat.add_assoc]; exact h2⟩
  · exact ⟨_, by rw [← Nat.add_assoc]; exact h3⟩
  · exact ⟨_, by rw [← Nat.add_assoc]; exact h4⟩
theorem FilledO.store {w : World} {B o n k : Nat} {l : List Pc} {p : Pc} (h : FilledO w B o n l k) (hk : k < l.length) (hp : l[k] = p) (hkn : k < n) : FilledO (World.set5 w B (o + k * 5) p) B o n l (k + 1) := by
  obtain ⟨h1, h2, h3, h4⟩ := h
  refine ⟨by simpa [World.set5, World.size_setCell] using h1, fun i hi hik => ?_, fun j hj => ?_, fun j => ?_⟩
  · by_cases e : i = k
    · subst e
      rw [hp]
      exact set5_at (fun j hj => by rw [Nat.add_assoc]; exact h3 _ (by omega))
    · obtain ⟨a0, a1, a2, a3, a4⟩ := h2 i hi (by omega)
      exact ⟨by rw [set5_other (by omega)]; exact a0, by rw [set5_other (by omega)]; exact a1, by rw [set5_other (by omega)]; exact a2, by rw [set5_other (by omega)]; exact a3, by rw [set5_other (by omega)]; exact a4⟩
  · obtain ⟨v, hv⟩ := h3 j hj
    unfold World.set5
    obtain ⟨v1, h1⟩ := cell_set (j := o + k * 5) (v := .int .i8 p.x) hv
    obtain ⟨v2, h2⟩ := cell_set (j := o + k * 5 + 1) (v := .int .i8 p.y) h1
    obtain ⟨v3, h3⟩ := cell_set (j := o + k * 5 + 2) (v := .int .i8 p.kind) h2
    obtain ⟨v4, h4⟩ := cell_set (j := o + k * 5 + 3) (v := .int .i8 p.turn) h3
    exact cell_set (j := o + k * 5 + 4) (v := .int .i8 p.delay) h4
  · unfold World.set5
    simp only [World.frozen?_setCell]
    exact h4 j

def markPc (k : Int) : Pc := ⟨IntKind.i8.wrap k, IntKind.i8.wrap (k + 1), IntKind.i8.wrap (k + 1 + 1), IntKind.i8.wrap (k + 1 + 1 + 1), IntKind.i8.wrap (k + 1 + 1 + 1 + 1)⟩
def marks (k : Int) (n : Nat) : List Pc := (List.range n).map fun i : Nat => markPc (k + 5 * (i : Int))
theorem marks_length (k : Int) (n : Nat) : (marks k n).length = n := by simp [marks]
theorem marks_get (k : Int) (n i : Nat) (h : i < (marks k n).length) : (marks k n)[i] = markPc (k + 5 * i) := by simp [marks]

end Go.Proofs.YthngnbaoaeomeaaDoor

/- The tail of the laws whose function hands a board back: what is kept from step to step; copies of arguments that are not frozen; equal boards, whatever their slices. -/
namespace Go.Proofs.YthngnbaoaeomeaaDoor
open Go.ChangeShapes Go.WideShapes Go.ChangeAt Go.RowKit
set_option linter.unusedVariables false

/-- a slice that came in: its block, if it has any, is below B -/
inductive SlO (B : Nat) (w : World) (l : List Pc) : Value → Prop where
  | empty (a : Option Addr) (cap : Nat) (h : l = []) : SlO B w l (.slice a 0 cap)
  | mk (b o cap : Nat) (hc : PcsAt w b o l) (hB : b < B) (hb : b < w.heap.size) (hl : l.length ≤ cap) : SlO B w l (.slice (some ⟨b, o, none⟩) l.length cap)
theorem SlO.sl {B : Nat} {w : World} {l : List Pc} {v : Value} (h : SlO B w l v) : Sl w l v := by
  cases h with
  | empty a cap h => exact .empty a cap h
  | mk b o cap hc _ hb hl => exact .mk b o cap hc hb hl
theorem SlO.start {w : World} {l : List Pc} {v : Value} (h : Sl w l v) : SlO w.heap.size w l v := by
  cases h with
  | empty a cap h => exact .empty a cap h
  | mk b o cap hc hb hl => exact .mk b o cap hc hb hb hl
theorem SlO.below {B : Nat} {w w' : World} {l : List Pc} {v : Value} (h : SlO B w l v) (g : Below w.heap.size w w') : SlO B w' l v := by
  cases h with
  | empty a cap h => exact .empty a cap h
  | mk b o cap hc hB hb hl => exact .mk b o cap (hc.below g hb) hB (Nat.lt_of_lt_of_le hb g.size) hl
theorem SlO.out {B lo hi : Nat} {w w' : World} {l : List Pc} {v : Value} (h : SlO B w l v) (g : KeptOut lo hi w w') (ho : B ≤ lo) : SlO B w' l v := by
  cases h with
  | empty a cap h => exact .empty a cap h
  | mk b o cap hc hB hb hl => exact .mk b o cap (hc.out g hb (Or.inl (by omega))) hB (Nat.lt_of_lt_of_le hb g.size) hl

/-- what the tail keeps: four boxes (the argument's, the model's answer, the copy that the program got, its answer), and their slices -/
structure Tail (wr : World) (a pw px pg wlo whi xlo xhi glo ghi : Nat) (ec : Nat → Option Value) (wd hi : Int) (s : Value) (l : List Pc) (wdr hir : Int) (sw sx sg : Value) (lr lx lg : List Pc) : Prop where
  ba : BdAt wr a 0 wd hi s
  be : ∀ j v, ec j = some v → wr.cell? ⟨a + 1, j, none⟩ = some v
  bw : BdAt wr pw 0 wdr hir sw
  bx : BdAt wr px 0 wd hi sx
  bg : BdAt wr pg 0 wdr hir sg
  ss : SlO a wr l s
  vw : SlW wlo whi wr lr sw
  vx : SlW xlo xhi wr lx sx
  vg : SlW glo ghi wr lg sg
  o1 : a + 1 < wlo
  o2 : wlo ≤ whi
  o3 : whi ≤ pw
  o4 : pw < xlo
  o5 : xlo ≤ xhi
  o6 : xhi ≤ px
  o7 : px < glo
  o8 : glo ≤ ghi
  o9 : ghi ≤ pg
  oz : pg < wr.heap.size
theorem Tail.below {wr w' : World} {a pw px pg wlo whi xlo xhi glo ghi : Nat} {ec : Nat → Option Value} {wd hi : Int} {s : Value} {l : List Pc} {wdr hir : Int} {sw sx sg : Value} {lr lx lg : List Pc}
    (h : Tail wr a pw px pg wlo whi xlo xhi glo ghi ec wd hi s l wdr hir sw sx sg lr lx lg) (g : Below wr.heap.size wr w') : Tail w' a pw px pg wlo whi xlo xhi glo ghi ec wd hi s l wdr hir sw sx sg lr lx lg := by
  obtain ⟨ba, be, bw, bx, bg, ss, vw, vx, vg, o1, o2, o3, o4, o5, o6, o7, o8, o9, oz⟩ := h
  exact ⟨ba.below g ba.lt, fun j v hv => (g.cell (p := ⟨a + 1, j, none⟩) (by simp; omega)).trans (be j v hv), bw.below g bw.lt, bx.below g bx.lt, bg.below g bg.lt, ss.below g, vw.below g, vx.below g, vg.below g, o1, o2, o3, o4, o5, o6, o7, o8, o9, Nat.lt_of_lt_of_le oz g.size⟩
theorem Tail.markX {wr w' : World} {a pw px pg wlo whi xlo xhi glo ghi : Nat} {ec : Nat → Option Value} {wd hi : Int} {s : Value} {l : List Pc} {wdr hir : Int} {sw sx sg : Value} {lr lx lg lx2 : List Pc}
    (h : Tail wr a pw px pg wlo whi xlo xhi glo ghi ec wd hi s l wdr hir sw sx sg lr lx lg) (hs : SlW xlo xhi w' lx2 sx) (g : KeptOut xlo xhi wr w') : Tail w' a pw px pg wlo whi xlo xhi glo ghi ec wd hi s l wdr hir sw sx sg lr lx2 lg := by
  obtain ⟨ba, be, bw, bx, bg, ss, vw, vx, vg, o1, o2, o3, o4, o5, o6, o7, o8, o9, oz⟩ := h
  exact ⟨ba.out g (by omega), fun j v hv => (g.cell (by omega) (by omega)).trans (be j v hv), bw.out g (by omega), bx.out g (by omega), bg.out g (by omega), ss.out g (by omega), vw.out g (by omega), hs, vg.out g (by omega), o1, o2, o3, o4, o5, o6, o7, o8, o9, Nat.lt_of_lt_of_le oz g.size⟩
theorem Tail.markG {wr w' : World} {a pw px pg wlo whi xlo xhi glo ghi : Nat} {ec : Nat → Option Value} {wd hi : Int} {s : Value} {l : List Pc} {wdr hir : Int} {sw sx sg : Value} {lr lx lg lg2 : List Pc}
    (h : Tail wr a pw px pg wlo whi xlo xhi glo ghi ec wd hi s l wdr hir sw sx sg lr lx lg) (hs : SlW glo ghi w' lg2 sg) (g : KeptOut glo ghi wr w') : Tail w' a pw px pg wlo whi xlo xhi glo ghi ec wd hi s l wdr hir sw sx sg lr lx lg2 := by
  obtain ⟨ba, be, bw, bx, bg, ss, vw, vx, vg, o1, o2, o3, o4, o5, o6, o7, o8, o9, oz⟩ := h
  exact ⟨ba.out g (by omega), fun j v hv => (g.cell (by omega) (by omega)).trans (be j v hv), bw.out g (by omega), bx.out g (by omega), bg.out g (by omega), ss.out g (by omega), vw.out g (by omega), vx.out g (by omega), hs, o1, o2, o3, o4, o5, o6, o7, o8, o9, Nat.lt_of_lt_of_le oz g.size⟩

theorem PcsAt.setB {w : World} {b o : Nat} {v : Value} {p : Addr} {l : List Pc} (h : PcsAt w b o l) (hne : p.block ≠ b) : PcsAt (w.setCell p v) b o l := by
  intro i hi
  obtain ⟨h0, h1, h2, h3, h4⟩ := h i hi
  have ne : ∀ x : Nat, p ≠ ⟨b, x, none⟩ := by intro x e; rw [e] at hne; exact hne rfl
  exact ⟨by rw [World.cell?_setCell_other _ _ _ _ (ne _)]; exact h0, by rw [World.cell?_setCell_other _ _ _ _ (ne _)]; exact h1, by rw [World.cell?_setCell_other _ _ _ _ (ne _)]; exact h2, by rw [World.cell?_setCell_other _ _ _ _ (ne _)]; exact h3, by rw [World.cell?_setCell_other _ _ _ _ (ne _)]; exact h4⟩
end Go.Proofs.YthngnbaoaeomeaaDoor

/- Copies of boards: the program's slices.Clone and the model's copy. -/
namespace Go.Proofs.YthngnbaoaeomeaaDoor
open Go.ChangeShapes Go.WideShapes Go.ChangeAt Go.RowKit
set_option linter.unusedVariables false

/-- append onto an own row, as one step of a region that draws -/
theorem step_append_own {P : Program} {ops : Array Oper} {o : Oper} {a : Act} {w : World} {K : Act → World → Prop} {Q : Exit → Act → World → Prop} {E : Prop} (hgd : o.guard = none) (s x : Operand) (t : TypeId)
    (ho : o.op = .call { callee := .builtin .append, args := #[s, x], argTypes := #[t, t] })
    (base : Nat) (e : TypeId) (i : TypeInfo) (z : Value) (size bytes : Nat) (ht : P.underlying t = some (.slice e)) (hi : P.info? e = some i) (hz : i.zero = some z)
    (hsize : i.size = size) (hby : i.bytes = bytes) (hzs : z.cells.size = size) (hsz : 0 < size)
    (v : Value) (n : Nat) (xs : List Value) (hs : a.eval s = v) (hown : w.ownsRow base e size v n xs)
    (ad : Addr) (m c : Nat) (news : List Value) (hx : a.eval x = .slice (some ad) m c) (hl : news.length = m * size) (hnews : ∀ j u, news[j]? = some u → w.cell? (ad.add j) = some u) (h1 : ∀ u ∈ news, u.oneCell' = true)
    (h63 : n + m ≤ maxLen) (hbytes : (n + m) * bytes ≤ 140737488355328) (hbase : base ≤ w.heap.size)
    (h : ∀ v' w', w'.ownsRow base e size v' (n + m) (xs ++ news) → w.grownBy w' v.ownBlock → (v' = .slice none 0 0 ↔ v = .slice none 0 0 ∧ m = 0) → K (a.put o.dst v') w') :
    if Region.wanted o (yielded ops a.tmps) = true then Oper.wp P o a w K Q else E := by
  have hw : Region.wanted o (yielded ops a.tmps) = true := by simp [Region.wanted, hgd]
  rw [if_pos hw]
  exact wp_append_own w s x t ho base e i z size bytes ht hi hz hsize hby hzs hsz v n xs hs hown ad m c news hx hl hnews h1 h63 hbytes hbase h

theorem owns_new {w : World} {base g size : Nat} {e : TypeId} (hb : base ≤ g) (hg : w.heap[g]? = some (.cells #[] e (0, 0))) : w.ownsRow base e size (.slice (some ⟨g, 0, none⟩) 0 0) 0 [] :=
  ⟨by simp, .inr ⟨g, 0, #[], rfl, hb, hg, Nat.le_refl _, Nat.zero_le _, by simp, by simp⟩⟩
theorem owns_slice {w : World} {base n size : Nat} {e : TypeId} {v : Value} {xs : List Value} (h : w.ownsRow base e size v n xs) : ∃ a c, v = .slice a n c := by
  rcases h.2 with ⟨h1, h2⟩ | ⟨g, cap, cur, h1, _⟩
  · exact ⟨none, 0, by rw [h1, h2]⟩
  · exact ⟨_, cap, h1⟩
theorem owns_mono {w : World} {base base2 n size : Nat} {e : TypeId} {v : Value} {xs : List Value} (hb : base2 ≤ base) (h : w.ownsRow base e size v n xs) : w.ownsRow base2 e size v n xs := by
  refine ⟨h.1, ?_⟩
  rcases h.2 with h2 | ⟨g, cap, cur, h1, h2, r⟩
  · exact .inl h2
  · exact .inr ⟨g, cap, cur, h1, Nat.le_trans hb h2, r⟩
theorem heap_two (w : World) (x y : Obj) : ((w.alloc x).alloc y).heap[w.heap.size + 1]? = some y := by
  have := heap_alloc_new (w.alloc x) y
  simpa only [World.size_alloc] using this
theorem grown_below {a w w' : World} {v : Value} (h : Below a.heap.size a w) (hg : w.grownBy w' v.ownBlock) (hv : ∀ k, v.ownBlock = some k → a.heap.size ≤ k) : Below a.heap.size a w' := h.grown hg h.size (fun k hk => hv k hk)
theorem flatL_bytes {n : Nat} (h : n ≤ 1048576) : (0 + n) * 5 ≤ 140737488355328 := by omega

end Go.Proofs.YthngnbaoaeomeaaDoor

/- Whole blocks, carried from world to world; boxes of results. -/
namespace Go.Proofs.YthngnbaoaeomeaaDoor
open Go.ChangeShapes Go.WideShapes Go.ChangeAt Go.RowKit
set_option linter.unusedVariables false

theorem blk_lt {W : World} {b : Nat} {o : Obj} (h : W.heap[b]? = some o) : b < W.heap.size := (Array.getElem?_eq_some_iff.1 h).1
theorem blk_below {W W' : World} {b : Nat} {o : Obj} (h : W.heap[b]? = some o) (g : Below W.heap.size W W') : W'.heap[b]? = some o := (g.block b (blk_lt h)).trans h
theorem blk_out {lo hi : Nat} {W W' : World} {b : Nat} {o : Obj} (h : W.heap[b]? = some o) (g : KeptOut lo hi W W') (ho : b < lo ∨ hi ≤ b) : W'.heap[b]? = some o := (g.block b (blk_lt h) ho).trans h
theorem blk_set {W : World} {b : Nat} {o : Obj} {p : Addr} {v : Value} (h : W.heap[b]? = some o) (ho : b ≠ p.block) : (W.setCell p v).heap[b]? = some o := (Below.heap_setCell _ _ _ _ ho).trans h
theorem blk_drew {W : World} {b : Nat} {o : Obj} (h : W.heap[b]? = some o) : W.drew.heap[b]? = some o := h
theorem blk_row {W : World} {b g : Nat} {o : Obj} {cs : Array Value} (h : W.heap[b]? = some o) (ho : b ≠ g) : (W.setRow g cs).heap[b]? = some o := (setRow_other _ _ _ _ ho).trans h
theorem kRowW {a b : World} {g : Nat} (h : Below a.heap.size a b) (hg : a.heap.size ≤ g) (cs : Array Value) : Below a.heap.size a (b.setRow g cs) :=
  h.trans ⟨rfl, rfl, rfl, by simp, fun k hk => setRow_other _ _ _ _ (by omega)⟩
theorem SlW.form {lo hi : Nat} {w : World} {l : List Pc} {v : Value} (h : SlW lo hi w l v) : ∃ a c, v = .slice a l.length c := by
  cases h with
  | empty a cap h => exact ⟨a, cap, by rw [h]; rfl⟩
  | mk b o cap _ _ _ _ _ _ => exact ⟨_, cap, rfl⟩
theorem BdAt.of {w : World} {b : Nat} {wd hi : Int} {v : Value} {t : TypeId} (h : w.heap[b]? = some (.cells #[.int .i8 wd, .int .i8 hi, v] t (0, 0))) : BdAt w b 0 wd hi v :=
  ⟨cell_of_row w b 0 _ _ _ h, cell_of_row w b 1 _ _ _ h, cell_of_row w b 2 _ _ _ h⟩
theorem PcsAt.row {w : World} {b o g : Nat} {l : List Pc} {cs : Array Value} (h : PcsAt w b o l) (hne : b ≠ g) : PcsAt (w.setRow g cs) b o l := by
  have hb : (w.setRow g cs).heap[b]? = w.heap[b]? := setRow_other _ _ _ _ hne
  have hc : ∀ j, (w.setRow g cs).cell? ⟨b, j, none⟩ = w.cell? ⟨b, j, none⟩ := fun j => World.cell?_of_block (w := w) hb
  intro i hi
  obtain ⟨h0, h1, h2, h3, h4⟩ := h i hi
  exact ⟨(hc _).trans h0, (hc _).trans h1, (hc _).trans h2, (hc _).trans h3, (hc _).trans h4⟩
theorem SlW.row {lo hi g : Nat} {w : World} {l : List Pc} {v : Value} {cs : Array Value} (h : SlW lo hi w l v) (hg : g < lo) : SlW lo hi (w.setRow g cs) l v := by
  cases h with
  | empty a cap h => exact .empty a cap h
  | mk b o cap hc h1 h2 hb hf hl =>
    have he : (w.setRow g cs).heap[b]? = w.heap[b]? := setRow_other _ _ _ _ (by omega)
    exact .mk b o cap (hc.row (by omega)) h1 h2 (by simpa [World.setRow] using hb) (fun j => (World.frozen?_of_block (w := w) he).trans (hf j)) hl
theorem SlW.setFar {lo hi : Nat} {w : World} {l : List Pc} {v u : Value} {p : Addr} (h : SlW lo hi w l v) (hg : p.block < lo) : SlW lo hi (w.setCell p u) l v := by
  cases h with
  | empty a cap h => exact .empty a cap h
  | mk b o cap hc h1 h2 hb hf hl =>
    have he : (w.setCell p u).heap[b]? = w.heap[b]? := Below.heap_setCell _ _ _ _ (by omega)
    exact .mk b o cap (hc.setB (by omega)) h1 h2 (by simpa [World.setCell] using hb) (fun j => (World.frozen?_of_block (w := w) he).trans (hf j)) hl
theorem blk_set_same' {w : World} {b i : Nat} {cs : Array Value} {t : TypeId} {fr : Nat × Nat} {v : Value} (h : w.heap[b]? = some (.cells cs t fr)) : (w.setCell ⟨b, i, none⟩ v).heap[b]? = some (.cells (cs.setIfInBounds i v) t fr) := by
  simp [World.setCell, Array.getElem?_modify, h]
theorem box3_set {w : World} {b : Nat} {t : TypeId} {fr : Nat × Nat} {x y z x' y' z' : Value} (h : w.heap[b]? = some (.cells #[x, y, z] t fr)) : (((w.setCell ⟨b, 0, none⟩ x').setCell ⟨b, 1, none⟩ y').setCell ⟨b, 2, none⟩ z').heap[b]? = some (.cells #[x', y', z'] t fr) :=
  blk_set_same' (blk_set_same' (blk_set_same' h))
/-- a result in a box, and one in a slot -/
theorem results_cell_tmp {P : Program} {fn : Func} {p q : Tmp} {ty : TypeId} (h : fn.results = #[.cell p ty, .tmp q]) (tmps : Array Value) (w : World) (g : Nat) (t : TypeId) (cs : Array Value) (fr : Nat × Nat) (d : TypeDesc) (v : Value)
    (hp : tmps.getD p undef = .pointer (some ⟨g, 0, none⟩)) (hq : tmps.getD q undef = v) (hg : w.heap[g]? = some (.cells cs t fr))
    (hu : P.underlying ty = some d) (hd : (match d with | .struct _ | .array _ _ => true | _ => false) = true) (hi : (P.info? ty).map (·.size) = some cs.size) :
    (results fn tmps).run P w = .ok (.tuple #[.agg cs, v]) w := by
  have hp' : tmps[p]?.getD undef = .pointer (some ⟨g, 0, none⟩) := by simpa using hp
  have hq' : tmps[q]?.getD undef = v := by simpa using hq
  simp [results, h, hp', hq', asAddr, run_loadVar_row w g t ty cs fr d hg hu hd hi]
end Go.Proofs.YthngnbaoaeomeaaDoor

/- PutPiece: the model. -/
namespace Go.Proofs.YthngnbaoaeomeaaDoor
open Go.ChangeShapes Go.WideShapes Go.ChangeAt Go.RowKit
set_option linter.unusedVariables false

/-- the answer: width, height, pieces, code -/
def putQ (R : Bool) (wd hi : Int) (l : List Pc) (p : Pc) : Int × Int × List Pc × Int :=
  if R = true ∧ p.ok = true then (if 0 ≤ p.x ∧ p.x ≤ wd - 1 ∧ 0 ≤ p.y ∧ p.y ≤ hi - 1 then (if 0 ≤ findFrom p.x p.y l 0 then (0, 0, [], 4) else (if l.length = 200 then (0, 0, [], 3) else (wd, hi, l ++ [p], 0))) else (0, 0, [], 2)) else (0, 0, [], 1)
theorem four_inj {a b c d : Int} {l r : List Pc} {e f : Int} (h : (a, b, l, c) = (d, e, r, f)) : a = d ∧ b = e ∧ l = r ∧ c = f := by
  injection h with h1 h; injection h with h2 h; injection h with h3 h4; exact ⟨h1, h2, h3, h4⟩
theorem putQ_ok {R : Bool} {wd hi : Int} {l : List Pc} {p : Pc} {Wr Hr : Int} {lr : List Pc} {C : Int} (h8 : All8 l) (hp : p.in8) (h : putQ R wd hi l p = (Wr, Hr, lr, C)) (hl : R = true → l.length ≤ 200) : All8 lr ∧ lr.length ≤ 1048576 := by
  have hnil : All8 ([] : List Pc) ∧ ([] : List Pc).length ≤ 1048576 := ⟨fun p h => absurd h (by simp), by simp⟩
  unfold putQ at h
  split at h
  · rename_i hR
    split at h
    · split at h
      · obtain ⟨_, _, rfl, _⟩ := four_inj h; exact hnil
      · split at h
        · obtain ⟨_, _, rfl, _⟩ := four_inj h; exact hnil
        · obtain ⟨_, _, rfl, _⟩ := four_inj h
          have := hl hR.1
          refine ⟨fun q hq => ?_, by simp; omega⟩
          rcases List.mem_append.1 hq with hq | hq
          · exact h8 q hq
          · rw [List.mem_singleton.1 hq]; exact hp
    · obtain ⟨_, _, rfl, _⟩ := four_inj h; exact hnil
  · obtain ⟨_, _, rfl, _⟩ := four_inj h; exact hnil
/-- a board and a code: the board's slice is a new one -/
def BoardPost (W : Int) (H : Int) (l : List Pc) (C : Int) (w : World) (e : Ending) (w' : World) : Prop :=
  ∃ v, e = .returned (.tuple #[.agg #[.int .i8 W, .int .i8 H, v], .int .i64 C]) ∧ SlW w.heap.size w'.heap.size w' l v ∧ Below w.heap.size w w'
theorem owns_below {w w' : World} {base n size : Nat} {e : TypeId} {v : Value} {xs : List Value} (h : w.ownsRow base e size v n xs) (hb : Below w.heap.size w w') : w'.ownsRow base e size v n xs := by
  refine ⟨h.1, ?_⟩
  rcases h.2 with h2 | ⟨g, cap, cur, h1, h2, h3, r⟩
  · exact .inl h2
  · exact .inr ⟨g, cap, cur, h1, h2, (hb.block g (Array.getElem?_eq_some_iff.1 h3).1).trans h3, r⟩
theorem owns_block {w : World} {base n size : Nat} {e : TypeId} {a : Option Addr} {c : Nat} {xs : List Value} (h : w.ownsRow base e size (.slice a n c) n xs) : ∀ k, (Value.slice a n c).ownBlock = some k → base ≤ k ∧ k < w.heap.size := h.lt
theorem flatL_one_end (l : List Pc) (p : Pc) : flatL (l ++ [p]) = flatL l ++ p.cells := by rw [flatL_append]; simp [flatL]
theorem owns_set_far {w : World} {base n size : Nat} {e t : TypeId} {v : Value} {xs : List Value} {B : Nat} {cs : Array Value} {fr : Nat × Nat} (h : w.ownsRow base e size v n xs) (hB : w.heap[B]? = some (.cells cs t fr)) (ht : t ≠ e) (j : Nat) (u : Value) : (w.setCell ⟨B, j, none⟩ u).ownsRow base e size v n xs := by
  refine ⟨h.1, ?_⟩
  rcases h.2 with h2 | ⟨g, cap, cur, h1, h2, h3, r⟩
  · exact .inl h2
  · refine .inr ⟨g, cap, cur, h1, h2, ?_, r⟩
    rw [Below.heap_setCell _ _ _ _ (by intro e1; rw [e1] at h3; rw [h3] at hB; injection hB with hB; injection hB with _ e2 _; exact ht e2.symm)]; exact h3
theorem pc_one (p : Pc) : ∀ u ∈ p.cells, u.oneCell' = true := by
  intro u hu
  simp only [Pc.cells, List.mem_cons, List.not_mem_nil, or_false] at hu
  rcases hu with rfl | rfl | rfl | rfl | rfl <;> rfl
theorem put_bytes {n : Nat} (h : n ≤ 1048576) : (n + 1) * 5 ≤ 140737488355328 := by omega
theorem put_len {n : Nat} (h : n ≤ 1048576) : n + 1 ≤ maxLen := by unfold maxLen; omega

end Go.Proofs.YthngnbaoaeomeaaDoor

namespace Go.Proofs.YthngnbaoaeomeaaDoor
open Go.ChangeShapes Go.WideShapes Go.ChangeAt Go.RowKit
end Go.Proofs.YthngnbaoaeomeaaDoor