/- The laws' own marking of boards, and what is told of slices that a call hands back. -/
import Derived.Test.YthancdlkkfegnaaVb
import Derived.Test.YthancdlkkfegnaaArgB
namespace Go.Proofs.Ythancdlkkfegnaa
open Go.ChangeShapes Go.WideShapes Go.ChangeAt Go.RowKit
set_option linter.unusedVariables false

/-- as it was, but for the blocks from lo up to hi -/
structure KeptOut (lo hi : Nat) (w w' : World) : Prop where
  os : w'.os = w.os
  tape : w'.tape = w.tape
  output : w'.output = w.output
  size : w.heap.size ≤ w'.heap.size
  block : ∀ k, k < w.heap.size → (k < lo ∨ hi ≤ k) → w'.heap[k]? = w.heap[k]?
theorem KeptOut.of_below {lo hi : Nat} {w w' : World} (h : Below w.heap.size w w') : KeptOut lo hi w w' := ⟨h.os, h.tape, h.output, h.size, fun k hk _ => h.block k hk⟩
theorem KeptOut.trans {lo hi : Nat} {a b c : World} (h : KeptOut lo hi a b) (g : KeptOut lo hi b c) : KeptOut lo hi a c :=
  ⟨g.os.trans h.os, g.tape.trans h.tape, g.output.trans h.output, Nat.le_trans h.size g.size, fun k hk ho => (g.block k (Nat.lt_of_lt_of_le hk h.size) ho).trans (h.block k hk ho)⟩
theorem KeptOut.set {lo hi : Nat} {a b : World} (h : KeptOut lo hi a b) (p : Addr) (h1 : lo ≤ p.block) (h2 : p.block < hi) (v : Value) : KeptOut lo hi a (b.setCell p v) :=
  ⟨h.os, h.tape, h.output, by simpa [World.setCell] using h.size, fun k hk ho => (Below.heap_setCell _ _ _ _ (by omega)).trans (h.block k hk ho)⟩
theorem KeptOut.drew {lo hi : Nat} {a b : World} (h : KeptOut lo hi a b) : KeptOut lo hi a b.drew := ⟨h.os, h.tape, h.output, h.size, h.block⟩
theorem KeptOut.drewN {lo hi : Nat} {a b : World} (h : KeptOut lo hi a b) (n : Nat) : KeptOut lo hi a (b.drewN n) := ⟨h.os, h.tape, h.output, h.size, h.block⟩
theorem kOut {a b c : World} {lo hi : Nat} (h : Below a.heap.size a b) (g : KeptOut lo hi b c) (hl : a.heap.size ≤ lo) : Below a.heap.size a c :=
  ⟨g.os.trans h.os, g.tape.trans h.tape, g.output.trans h.output, Nat.le_trans h.size g.size, fun k hk => (g.block k (Nat.lt_of_lt_of_le hk h.size) (Or.inl (by omega))).trans (h.block k hk)⟩
theorem KeptOut.cell {lo hi : Nat} {w w' : World} (h : KeptOut lo hi w w') {b o : Nat} (hb : b < w.heap.size) (ho : b < lo ∨ hi ≤ b) : w'.cell? ⟨b, o, none⟩ = w.cell? ⟨b, o, none⟩ := World.cell?_of_block (w := w) (h.block b hb ho)
theorem KeptOut.frozen {lo hi : Nat} {w w' : World} (h : KeptOut lo hi w w') {b o : Nat} (hb : b < w.heap.size) (ho : b < lo ∨ hi ≤ b) : w'.frozen? ⟨b, o, none⟩ = w.frozen? ⟨b, o, none⟩ := World.frozen?_of_block (w := w) (h.block b hb ho)
theorem PcsAt.out {lo hi : Nat} {w w' : World} {b o : Nat} {l : List Pc} (h : PcsAt w b o l) (g : KeptOut lo hi w w') (hb : b < w.heap.size) (ho : b < lo ∨ hi ≤ b) : PcsAt w' b o l := by
  intro i hi'
  obtain ⟨h0, h1, h2, h3, h4⟩ := h i hi'
  exact ⟨(g.cell hb ho).trans h0, (g.cell hb ho).trans h1, (g.cell hb ho).trans h2, (g.cell hb ho).trans h3, (g.cell hb ho).trans h4⟩
theorem BdAt.out {lo hi : Nat} {w w' : World} {b o : Nat} {wd hg : Int} {v : Value} (h : BdAt w b o wd hg v) (g : KeptOut lo hi w w') (ho : b < lo ∨ hi ≤ b) : BdAt w' b o wd hg v :=
  ⟨(g.cell h.lt ho).trans h.1, (g.cell h.lt ho).trans h.2.1, (g.cell h.lt ho).trans h.2.2⟩

/-- a slice of pieces whose block, if it has any, is one from lo up to hi, and not frozen -/
inductive SlW (lo hi : Nat) (w : World) (l : List Pc) : Value → Prop where
  | empty (a : Option Addr) (cap : Nat) (h : l = []) : SlW lo hi w l (.slice a 0 cap)
  | mk (b o cap : Nat) (hc : PcsAt w b o l) (h1 : lo ≤ b) (h2 : b < hi) (hb : b < w.heap.size) (hf : ∀ j, w.frozen? ⟨b, j, none⟩ = false) (hl : l.length ≤ cap) : SlW lo hi w l (.slice (some ⟨b, o, none⟩) l.length cap)
theorem SlW.sl {lo hi : Nat} {w : World} {l : List Pc} {v : Value} (h : SlW lo hi w l v) : Sl w l v := by
  cases h with
  | empty a cap h => exact .empty a cap h
  | mk b o cap hc _ _ hb _ hl => exact .mk b o cap hc hb hl
theorem SlW.below {lo hi : Nat} {w w' : World} {l : List Pc} {v : Value} (h : SlW lo hi w l v) (g : Below w.heap.size w w') : SlW lo hi w' l v := by
  cases h with
  | empty a cap h => exact .empty a cap h
  | mk b o cap hc h1 h2 hb hf hl => exact .mk b o cap (hc.below g hb) h1 h2 (Nat.lt_of_lt_of_le hb g.size) (fun j => (g.frozen (p := ⟨b, j, none⟩) hb).trans (hf j)) hl
theorem SlW.out {lo hi lo2 hi2 : Nat} {w w' : World} {l : List Pc} {v : Value} (h : SlW lo hi w l v) (g : KeptOut lo2 hi2 w w') (ho : hi ≤ lo2 ∨ hi2 ≤ lo) : SlW lo hi w' l v := by
  cases h with
  | empty a cap h => exact .empty a cap h
  | mk b o cap hc h1 h2 hb hf hl => exact .mk b o cap (hc.out g hb (by omega)) h1 h2 (Nat.lt_of_lt_of_le hb g.size) (fun j => (g.frozen hb (by omega)).trans (hf j)) hl
theorem SlW.mono {lo hi lo2 hi2 : Nat} {w : World} {l : List Pc} {v : Value} (h : SlW lo hi w l v) (h1 : lo2 ≤ lo) (h2 : hi ≤ hi2) : SlW lo2 hi2 w l v := by
  cases h with
  | empty a cap h => exact .empty a cap h
  | mk b o cap hc h1 h2 hb hf hl => exact .mk b o cap hc (by omega) (by omega) hb hf hl
theorem Sl.out {lo hi : Nat} {w w' : World} {l : List Pc} {v : Value} {n : Nat} (h : Sl w l v) (g : KeptOut lo hi w w') (hl : w.heap.size ≤ lo) : Sl w' l v := by
  cases h with
  | empty a cap h => exact .empty a cap h
  | mk b o cap hc hb h => exact .mk b o cap (hc.out g hb (by omega)) (Nat.lt_of_lt_of_le hb g.size) h

/-! ### slices that a call has made by append -/
def flatL (l : List Pc) : List Value := l.flatMap Pc.cells
theorem flatL_length (l : List Pc) : (flatL l).length = l.length * 5 := by
  induction l with
  | nil => rfl
  | cons p l ih => simp only [flatL, List.flatMap_cons, List.length_append, List.length_cons] at *; rw [ih]; simp only [Pc.cells, List.length_cons, List.length_nil]; omega
theorem flatL_append (l r : List Pc) : flatL (l ++ r) = flatL l ++ flatL r := by simp [flatL]
theorem flatL_one (l : List Pc) : ∀ u ∈ flatL l, u.oneCell' = true := by
  intro u hu
  obtain ⟨p, _, hp⟩ := List.mem_flatMap.1 hu
  simp only [Pc.cells, List.mem_cons, List.not_mem_nil, or_false] at hp
  rcases hp with rfl | rfl | rfl | rfl | rfl <;> rfl
theorem flatL_get : ∀ (l : List Pc) (i j : Nat) (h : i < l.length), j < 5 → (flatL l)[i * 5 + j]? = l[i].cells[j]?
  | p :: l, 0, j, _, hj => by
    rw [show flatL (p :: l) = p.cells ++ flatL l from List.flatMap_cons, List.getElem?_append_left (by simp [Pc.cells]; omega)]; simp
  | p :: l, i + 1, j, h, hj => by
    rw [show flatL (p :: l) = p.cells ++ flatL l from List.flatMap_cons, List.getElem?_append_right (by simp [Pc.cells]; omega)]
    have := flatL_get l i j (by simpa using h) hj
    simp only [List.getElem_cons_succ]
    rw [← this]
    congr 1
    simp [Pc.cells]; omega
  | [], _, _, h, _ => by simp at h
/-- the cells of a slice that is read, as they stand in memory -/
theorem PcsAt.news {w : World} {b o : Nat} {l : List Pc} (h : PcsAt w b o l) : ∀ j u, (flatL l)[j]? = some u → w.cell? ((⟨b, o, none⟩ : Addr).add j) = some u := by
  intro j u hu
  rw [add_none]
  have hj : j < (flatL l).length := by
    cases hlt : decide (j < (flatL l).length) with
    | true => simpa using hlt
    | false => rw [List.getElem?_eq_none (by simpa using hlt)] at hu; cases hu
  rw [flatL_length] at hj
  have hi : j / 5 < l.length := by omega
  have hm : j % 5 < 5 := by omega
  have e : j / 5 * 5 + j % 5 = j := by omega
  have hg := flatL_get l (j / 5) (j % 5) hi hm
  rw [e, hu] at hg
  obtain ⟨h0, h1, h2, h3, h4⟩ := h (j / 5) hi
  have h5 : j % 5 = 0 ∨ j % 5 = 1 ∨ j % 5 = 2 ∨ j % 5 = 3 ∨ j % 5 = 4 := by omega
  rw [show o + j = o + j / 5 * 5 + j % 5 by omega]
  rcases h5 with q | q | q | q | q <;> rw [q] at hg ⊢ <;> simp only [Pc.cells, List.getElem?_cons_zero, List.getElem?_cons_succ, Option.some.injEq] at hg <;> subst hg
  · exact h0
  · exact h1
  · exact h2
  · exact h3
  · exact h4
theorem SlW.of_owns {w : World} {base : Nat} {e : TypeId} {v : Value} {n : Nat} {l : List Pc} (h : w.ownsRow base e 5 v n (flatL l)) : SlW base w.heap.size w l v := by
  obtain ⟨hl, h | ⟨g, cap, cur, rfl, hb, hg, hn, hm, hs, ht⟩⟩ := h
  · obtain ⟨rfl, rfl⟩ := h
    rw [flatL_length] at hl
    exact .empty none 0 (List.length_eq_zero_iff.1 (by omega))
  · rw [flatL_length] at hl
    obtain rfl : n = l.length := by omega
    have hlt : g < w.heap.size := (Array.getElem?_eq_some_iff.1 hg).1
    have hcell : ∀ j, j < l.length * 5 → w.cell? ⟨g, j, none⟩ = (flatL l)[j]? := by
      intro j hj
      rw [← ht, List.getElem?_take_of_lt hj]
      have hjs : j < cur.toList.length := by rw [Array.length_toList, hs]; exact Nat.lt_of_lt_of_le hj (Nat.mul_le_mul_right 5 hn)
      rw [List.getElem?_eq_getElem hjs]
      exact (cell_of_row w g j cur e _ hg).trans (by simp)
    refine .mk g 0 cap (fun i hi => ?_) hb hlt hlt (fun j => frozen_of_row w _ j _ _ hg) hn
    have hc : ∀ j, j < 5 → w.cell? ⟨g, 0 + i * 5 + j, none⟩ = l[i].cells[j]? := fun j hj => by rw [Nat.zero_add, hcell _ (by omega), flatL_get l i j hi hj]
    exact ⟨hc 0 (by omega), hc 1 (by omega), hc 2 (by omega), hc 3 (by omega), hc 4 (by omega)⟩

/-- a row of n pieces from the o-th cell on, whose first k are those of 'l' -/
def FilledO (w : World) (B o n : Nat) (l : List Pc) (k : Nat) : Prop :=
  B < w.heap.size ∧ (∀ i (h : i < l.length), i < k → PcAt w B (o + i * 5) l[i]) ∧ (∀ j, j < n * 5 → ∃ v, w.cell? ⟨B, o + j, none⟩ = some v) ∧ (∀ j, w.frozen? ⟨B, j, none⟩ = false)
theorem FilledO.start {w : World} {B o : Nat} {l0 l : List Pc} (h : PcsAt w B o l0) (hb : B < w.heap.size) (hf : ∀ j, w.frozen? ⟨B, j, none⟩ = false) : FilledO w B o l0.length l 0 := by
  refine ⟨hb, fun i _ hi => absurd hi (by omega), fun j hj => ?_, hf⟩
  obtain ⟨h0, h1, h2, h3, h4⟩ := h (j / 5) (by omega)
  have : j % 5 = 0 ∨ j % 5 = 1 ∨ j % 5 = 2 ∨ j % 5 = 3 ∨ j % 5 = 4 := by omega
  have hj5 : j = j / 5 * 5 + j % 5 := by omega
  rcases this with e | e | e | e | e <;> rw [e] at hj5 <;> rw [hj5]
  · exact ⟨_, h0⟩
  · exact ⟨_, by rw [← Nat.add_assoc]; exact h1⟩
  · exact ⟨_, by rw [← Nat.add_assoc]; exact h2⟩
  · exact ⟨_, by rw [← Nat.add_assoc]; exact h3⟩
  · exact ⟨_, by rw [← Nat.add_assoc]; exact h4⟩
theorem FilledO.store {w : World} {B o n k : Nat} {l : List Pc} {p : Pc} (h : FilledO w B o n l k) (hk : k < l.length) (hp : l[k] = p) (hkn : k < n) : FilledO (World.set5 w B (o + k * 5) p) B o n l (k + 1) := by
  obtain ⟨h1, h2, h3, h4⟩ := h
  refine ⟨by simpa [World.set5, World.size_setCell] using h1, fun i hi hik => ?_, fun j hj => ?_, fun j => ?_⟩
  · by_cases e : i = k
    · subst e
      rw [hp]
      exact set5_at (fun j hj => by rw [Nat.add_assoc]; exact h3 _ (by omega))
    · obtain ⟨a0, a1, a2, a3, a4⟩ := h2 i hi (by omega)
      exact ⟨by rw [set5_other (by omega)]; exact a0, by rw [set5_other (by omega)]; exact a1, by rw [set5_other (by omega)]; exact a2, by rw [set5_other (by omega)]; exact a3, by rw [set5_other (by omega)]; exact a4⟩
  · obtain ⟨v, hv⟩ := h3 j hj
    unfold World.set5
    obtain ⟨v1, h1⟩ := cell_set (j := o + k * 5) (v := .int .i8 p.x) hv
    obtain ⟨v2, h2⟩ := cell_set (j := o + k * 5 + 1) (v := .int .i8 p.y) h1
    obtain ⟨v3, h3⟩ := cell_set (j := o + k * 5 + 2) (v := .int .i8 p.kind) h2
    obtain ⟨v4, h4⟩ := cell_set (j := o + k * 5 + 3) (v := .int .i8 p.turn) h3
    exact cell_set (j := o + k * 5 + 4) (v := .int .i8 p.delay) h4
  · unfold World.set5
    simp only [World.frozen?_setCell]
    exact h4 j

def markPc (k : Int) : Pc := ⟨IntKind.i8.wrap k, IntKind.i8.wrap (k + 1), IntKind.i8.wrap (k + 1 + 1), IntKind.i8.wrap (k + 1 + 1 + 1), IntKind.i8.wrap (k + 1 + 1 + 1 + 1)⟩
def marks (k : Int) (n : Nat) : List Pc := (List.range n).map fun i : Nat => markPc (k + 5 * (i : Int))
theorem marks_length (k : Int) (n : Nat) : (marks k n).length = n := by simp [marks]
theorem marks_get (k : Int) (n i : Nat) (h : i < (marks k n).length) : (marks k n)[i] = markPc (k + 5 * i) := by simp [marks]

set_option maxRecDepth 100000 in
set_option maxHeartbeats 4000000 in
theorem markPieceS_mk (b o n cap : Nat) (k : Int) (l : List Pc) (w : World) (hn : l.length = n) (hc : PcsAt w b o l) (hb : b < w.heap.size) (hf : ∀ j, w.frozen? ⟨b, j, none⟩ = false) (hcap : n ≤ cap) (hk0 : 0 ≤ k) (hk1 : k ≤ 100000000) (hmax : n ≤ 1048576) :
    Calls Try.prog 81 #[.slice (some ⟨b, o, none⟩) n cap, .int .i64 k] w fun e w' => e = .returned (.int .i64 (k + 5 * n)) ∧ FilledO w' b o n (marks k n) n ∧ KeptOut b (b + 1) w w' := by
  have hst := FilledO.start (l := marks k n) hc hb hf
  rw [hn] at hst
  have Hst := Lib.hid hst
  clear hst hc hf hn
  go_enter Try.func81, Try.ntmps81
  go_wp2
  go_loopw [1, 5, 6] (fun kk i _ wr => ∃ j : Nat, j ≤ n ∧ i = .int .i64 j ∧ kk = .int .i64 (k + 5 * j) ∧ Hid (FilledO wr b o n (marks k n) j) ∧ KeptOut b (b + 1) w wr) (fun _ i _ _ => n - (intOf i).toNat)
  case atStart => exact ⟨0, by omega, rfl, by simp, Hst, KeptOut.of_below (Below.refl _ _)⟩
  case round =>
    obtain ⟨j, hj, rfl, rfl, hf, hkp⟩ := hrel
    by_cases hlt : j < n
    · have hjl : j < (marks k n).length := by rw [marks_length]; exact hlt
      have HF := Lib.hid (hf.out.store hjl (marks_get k n j hjl) hlt)
      have hbw := hf.out.1
      obtain ⟨v0, d0⟩ := hf.out.2.2.1 (j * 5) (by omega)
      obtain ⟨v1, d1⟩ := hf.out.2.2.1 (j * 5 + 1) (by omega)
      obtain ⟨v2, d2⟩ := hf.out.2.2.1 (j * 5 + 2) (by omega)
      obtain ⟨v3, d3⟩ := hf.out.2.2.1 (j * 5 + 3) (by omega)
      obtain ⟨v4, d4⟩ := hf.out.2.2.1 (j * 5 + 4) (by omega)
      rw [← Nat.add_assoc] at d1 d2 d3 d4
      have f0 := hf.out.2.2.2 (o + j * 5)
      have f1 := hf.out.2.2.2 (o + j * 5 + 1)
      have f2 := hf.out.2.2.2 (o + j * 5 + 2)
      have f3 := hf.out.2.2.2 (o + j * 5 + 3)
      have f4 := hf.out.2.2.2 (o + j * 5 + 4)
      clear hf Hst
      go_wp2
      refine wp_loop_rounds 3 ?_
      rw [rounds_succ]
      go_wp2
      rw [rounds_succ]
      go_wp2
      rw [rounds_succ]
      go_wp2
      exact ⟨⟨j + 1, by omega, by go_num, by congr 1; push_cast; omega, HF, KeptOut.set (KeptOut.set (KeptOut.set (KeptOut.set (KeptOut.set hkp ⟨b, o + j * 5, none⟩ (Nat.le_refl _) (Nat.lt_succ_self _) _) ⟨b, o + j * 5 + 1, none⟩ (Nat.le_refl _) (Nat.lt_succ_self _) _) ⟨b, o + j * 5 + 1 + 1, none⟩ (Nat.le_refl _) (Nat.lt_succ_self _) _) ⟨b, o + j * 5 + 1 + 1 + 1, none⟩ (Nat.le_refl _) (Nat.lt_succ_self _) _) ⟨b, o + j * 5 + 1 + 1 + 1 + 1, none⟩ (Nat.le_refl _) (Nat.lt_succ_self _) _⟩, by simp [intOf]; omega⟩
    · obtain rfl : j = n := by omega
      clear Hst
      go_wp2
      go_ret
      exact ⟨rfl, hf.out, hkp⟩
set_option maxHeartbeats 1000000 in
theorem markPieceS_none (a : Option Addr) (cap : Nat) (k : Int) (w : World) (hk0 : 0 ≤ k) (hk1 : k ≤ 100000000) :
    Calls Try.prog 81 #[.slice a 0 cap, .int .i64 k] w fun e w' => e = .returned (.int .i64 k) ∧ Below w.heap.size w w' := by
  go_enter Try.func81, Try.ntmps81
  go_wp2
  refine wp_loop_rounds 1 ?_
  rw [rounds_succ]
  go_wp2
  go_ret
  exact ⟨rfl, Below.refl _ _⟩
theorem KeptOut.widen {lo hi lo2 hi2 : Nat} {w w' : World} (h : KeptOut lo hi w w') (h1 : lo2 ≤ lo) (h2 : hi ≤ hi2) : KeptOut lo2 hi2 w w' := ⟨h.os, h.tape, h.output, h.size, fun k hk ho => h.block k hk (by omega)⟩
theorem markPieceS_any (lo hi : Nat) (v : Value) (l : List Pc) (k : Int) (w : World) (h : SlW lo hi w l v) (hk0 : 0 ≤ k) (hk1 : k ≤ 100000000) (hmax : l.length ≤ 1048576) :
    Calls Try.prog 81 #[v, .int .i64 k] w fun e w' => e = .returned (.int .i64 (k + 5 * l.length)) ∧ SlW lo hi w' (marks k l.length) v ∧ KeptOut lo hi w w' := by
  cases h with
  | empty a cap h =>
    subst h
    exact (markPieceS_none a cap k w hk0 hk1).mono fun e w' ⟨h1, h2⟩ => ⟨by rw [h1]; simp, .empty a cap (by simp [marks]), KeptOut.of_below h2⟩
  | mk b o cap hc h1 h2 hb hf hl =>
    refine (markPieceS_mk b o _ cap k l w rfl hc hb hf hl hk0 hk1 hmax).mono fun e w' ⟨e1, hF, hK⟩ => ⟨e1, ?_, hK.widen h1 (by omega)⟩
    obtain ⟨f1, f2, f3, f4⟩ := hF
    have := SlW.mk (lo := lo) (hi := hi) (w := w') (l := marks k l.length) b o cap (fun i hi => f2 i hi (by rw [marks_length] at hi; exact hi)) h1 h2 f1 f4 (by rw [marks_length]; exact hl)
    rwa [marks_length] at this
set_option maxRecDepth 100000 in
set_option maxHeartbeats 4000000 in
theorem heldPieceS_mk (b o n cap : Nat) (k : Int) (w : World) (hc : PcsAt w b o (marks k n)) (hb : b < w.heap.size) (hcap : n ≤ cap) (hk0 : 0 ≤ k) (hk1 : k ≤ 100000000) (hmax : n ≤ 1048576) :
    Calls Try.prog 82 #[.slice (some ⟨b, o, none⟩) n cap, .int .i64 k] w fun e w' => e = .returned (.int .i64 (k + 5 * n)) ∧ Below w.heap.size w w' := by
  go_enter Try.func82, Try.ntmps82
  go_wp2
  go_loopw [1, 5, 6] (fun kk i _ wr => ∃ j : Nat, j ≤ n ∧ i = .int .i64 j ∧ kk = .int .i64 (k + 5 * j) ∧ Below w.heap.size w wr) (fun _ i _ _ => n - (intOf i).toNat)
  case atStart => exact ⟨0, by omega, rfl, by simp, Below.refl _ _⟩
  case round =>
    obtain ⟨j, hj, rfl, rfl, hbr⟩ := hrel
    by_cases hlt : j < n
    · have hjl : j < (marks k n).length := by rw [marks_length]; exact hlt
      have hpa := (hc.below hbr hb) j hjl
      rw [marks_get k n j hjl] at hpa
      obtain ⟨d0, d1, d2, d3, d4⟩ := hpa
      simp only [markPc] at d0 d1 d2 d3 d4
      clear hc
      go_wp2
      refine wp_loop_rounds 3 ?_
      rw [rounds_succ]
      go_wp2
      rw [rounds_succ]
      go_wp2
      rw [rounds_succ]
      go_wp2
      exact ⟨⟨j + 1, by omega, by go_num, by congr 1; push_cast; omega, hbr⟩, by simp [intOf]; omega⟩
    · obtain rfl : j = n := by omega
      clear hc
      go_wp2
      go_ret
      exact ⟨rfl, hbr⟩
set_option maxHeartbeats 1000000 in
theorem heldPieceS_none (a : Option Addr) (cap : Nat) (k : Int) (w : World) (hk0 : 0 ≤ k) (hk1 : k ≤ 100000000) :
    Calls Try.prog 82 #[.slice a 0 cap, .int .i64 k] w fun e w' => e = .returned (.int .i64 k) ∧ Below w.heap.size w w' := by
  go_enter Try.func82, Try.ntmps82
  go_wp2
  refine wp_loop_rounds 1 ?_
  rw [rounds_succ]
  go_wp2
  go_ret
  exact ⟨rfl, Below.refl _ _⟩
theorem heldPieceS_any (lo hi n : Nat) (v : Value) (k : Int) (w : World) (h : SlW lo hi w (marks k n) v) (hk0 : 0 ≤ k) (hk1 : k ≤ 100000000) (hmax : n ≤ 1048576) :
    Calls Try.prog 82 #[v, .int .i64 k] w fun e w' => e = .returned (.int .i64 (k + 5 * n)) ∧ Below w.heap.size w w' := by
  generalize hm : marks k n = l at h
  have hl : l.length = n := by rw [← hm, marks_length]
  cases h with
  | empty a cap h =>
    subst h
    obtain rfl : n = 0 := by simpa using hl.symm
    exact (heldPieceS_none a cap k w hk0 hk1).mono fun e w' ⟨h1, h2⟩ => ⟨by rw [h1]; simp, h2⟩
  | mk b o cap hc h1 h2 hb hf hcap =>
    rw [hl] at hcap ⊢
    exact heldPieceS_mk b o n cap k w (by rw [hm]; exact hc) hb hcap hk0 hk1 hmax
set_option maxHeartbeats 1000000 in
theorem markBoard_any (lo hi : Nat) (wd hg : Int) (v : Value) (l : List Pc) (k : Int) (w : World) (h : SlW lo hi w l v) (hh : hi ≤ w.heap.size) (hk0 : 0 ≤ k) (hk1 : k ≤ 100000000) (hmax : l.length ≤ 1048576) :
    Calls Try.prog 30 #[.agg #[.int .i8 wd, .int .i8 hg, v], .int .i64 k] w fun e w' => e = .returned (.int .i64 (k + 5 * l.length)) ∧ SlW lo hi w' (marks k l.length) v ∧ KeptOut lo hi w w' := by
  have hka : Below w.heap.size w (w.alloc (.cells #[.int .i8 wd, .int .i8 hg, v] 30)) := by repeat (first | with_reducible exact Below.refl _ _ | (with_reducible refine kSet ?_ ?hB _; case hB => (simp; try omega)) | with_reducible refine kAlloc ?_ _ | with_reducible refine Below.drew ?_ | with_reducible refine kDrewN ?_ _ | with_reducible refine kTrans ?_ (by assumption))
  have H := Lib.hid (markPieceS_any lo hi v l k _ (h.below hka) hk0 hk1 hmax)
  have Hk := Lib.hid (KeptOut.of_below (lo := lo) (hi := hi) hka)
  clear h hka
  go_enter Try.func30, Try.ntmps30
  go_wp2_with fail
  refine H.out.mono ?_
  rintro e w1 ⟨rfl, hs, hk⟩
  have HS := Lib.hid hs
  have HK := Lib.hid (Hk.out.trans hk)
  clear hs hk H Hk
  go_wp2
  go_ret
  exact ⟨rfl, HS.out, HK.out⟩
set_option maxHeartbeats 1000000 in
theorem heldBoard_any (lo hi n : Nat) (wd hg : Int) (v : Value) (k : Int) (w : World) (h : SlW lo hi w (marks k n) v) (hk0 : 0 ≤ k) (hk1 : k ≤ 100000000) (hmax : n ≤ 1048576) :
    Calls Try.prog 31 #[.agg #[.int .i8 wd, .int .i8 hg, v], .int .i64 k] w fun e w' => e = .returned (.int .i64 (k + 5 * n)) ∧ Below w.heap.size w w' := by
  have hka : Below w.heap.size w (w.alloc (.cells #[.int .i8 wd, .int .i8 hg, v] 30)) := by repeat (first | with_reducible exact Below.refl _ _ | (with_reducible refine kSet ?_ ?hB _; case hB => (simp; try omega)) | with_reducible refine kAlloc ?_ _ | with_reducible refine Below.drew ?_ | with_reducible refine kDrewN ?_ _ | with_reducible refine kTrans ?_ (by assumption))
  have H := Lib.hid (heldPieceS_any lo hi n v k _ (h.below hka) hk0 hk1 hmax)
  clear h hka
  go_enter Try.func31, Try.ntmps31
  go_wp2_with fail
  refine H.out.mono ?_
  rintro e w1 ⟨rfl, hb⟩
  go_wp2
  go_ret
  exact ⟨rfl, by repeat (first | with_reducible exact Below.refl _ _ | (with_reducible refine kSet ?_ ?hB _; case hB => (simp; try omega)) | with_reducible refine kAlloc ?_ _ | with_reducible refine Below.drew ?_ | with_reducible refine kDrewN ?_ _ | with_reducible refine kTrans ?_ (by assumption))⟩
end Go.Proofs.Ythancdlkkfegnaa
