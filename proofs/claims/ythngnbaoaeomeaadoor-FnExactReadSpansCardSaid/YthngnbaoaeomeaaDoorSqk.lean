/- Slices of the type Span that a call has made: where they lie; the laws' own marking of them; copies. -/
import Derived.Test.YthngnbaoaeomeaaDoorSq
import Derived.Test.YthngnbaoaeomeaaDoorG4
namespace Go.Proofs.YthngnbaoaeomeaaDoor
open Go.ChangeShapes Go.WideShapes Go.ChangeAt Go.RowKit Go.Joins Go.Deep
set_option linter.unusedVariables false

theorem SqsAt.out {lo hi : Nat} {w w' : World} {b o : Nat} {l : List Sq} (h : SqsAt w b o l) (g : KeptOut lo hi w w') (hb : b < w.heap.size) (ho : b < lo ∨ hi ≤ b) : SqsAt w' b o l := by
  intro i hi'
  obtain ⟨h0, h1⟩ := h i hi'
  exact ⟨(g.cell hb ho).trans h0, (g.cell hb ho).trans h1⟩
inductive SlWSq (lo hi : Nat) (w : World) (l : List Sq) : Value → Prop where
  | empty (a : Option Addr) (cap : Nat) (h : l = []) : SlWSq lo hi w l (.slice a 0 cap)
  | mk (b o cap : Nat) (hc : SqsAt w b o l) (h1 : lo ≤ b) (h2 : b < hi) (hb : b < w.heap.size) (hf : ∀ j, w.frozen? ⟨b, j, none⟩ = false) (hl : l.length ≤ cap) : SlWSq lo hi w l (.slice (some ⟨b, o, none⟩) l.length cap)
theorem SlWSq.sl {lo hi : Nat} {w : World} {l : List Sq} {v : Value} (h : SlWSq lo hi w l v) : SlSq w l v := by
  cases h with
  | empty a cap h => exact .empty a cap h
  | mk b o cap hc _ _ hb _ hl => exact .mk b o cap hc hb hl
theorem SlWSq.below {lo hi : Nat} {w w' : World} {l : List Sq} {v : Value} (h : SlWSq lo hi w l v) (g : Below w.heap.size w w') : SlWSq lo hi w' l v := by
  cases h with
  | empty a cap h => exact .empty a cap h
  | mk b o cap hc h1 h2 hb hf hl => exact .mk b o cap (hc.below g hb) h1 h2 (Nat.lt_of_lt_of_le hb g.size) (fun j => (g.frozen (p := ⟨b, j, none⟩) hb).trans (hf j)) hl
theorem SlWSq.out {lo hi lo2 hi2 : Nat} {w w' : World} {l : List Sq} {v : Value} (h : SlWSq lo hi w l v) (g : KeptOut lo2 hi2 w w') (ho : hi ≤ lo2 ∨ hi2 ≤ lo) : SlWSq lo hi w' l v := by
  cases h with
  | empty a cap h => exact .empty a cap h
  | mk b o cap hc h1 h2 hb hf hl => exact .mk b o cap (hc.out g hb (by omega)) h1 h2 (Nat.lt_of_lt_of_le hb g.size) (fun j => (g.frozen hb (by omega)).trans (hf j)) hl
theorem SlWSq.mono {lo hi lo2 hi2 : Nat} {w : World} {l : List Sq} {v : Value} (h : SlWSq lo hi w l v) (h1 : lo2 ≤ lo) (h2 : hi ≤ hi2) : SlWSq lo2 hi2 w l v := by
  cases h with
  | empty a cap h => exact .empty a cap h
  | mk b o cap hc h1 h2 hb hf hl => exact .mk b o cap hc (by omega) (by omega) hb hf hl
theorem SlWSq.form {lo hi : Nat} {w : World} {l : List Sq} {v : Value} (h : SlWSq lo hi w l v) : ∃ a c, v = .slice a l.length c := by
  cases h with
  | empty a cap h => exact ⟨a, cap, by rw [h]; rfl⟩
  | mk b o cap _ _ _ _ _ _ => exact ⟨_, cap, rfl⟩
inductive SlOSq (B : Nat) (w : World) (l : List Sq) : Value → Prop where
  | empty (a : Option Addr) (cap : Nat) (h : l = []) : SlOSq B w l (.slice a 0 cap)
  | mk (b o cap : Nat) (hc : SqsAt w b o l) (hB : b < B) (hb : b < w.heap.size) (hl : l.length ≤ cap) : SlOSq B w l (.slice (some ⟨b, o, none⟩) l.length cap)
theorem SlOSq.sl {B : Nat} {w : World} {l : List Sq} {v : Value} (h : SlOSq B w l v) : SlSq w l v := by
  cases h with
  | empty a cap h => exact .empty a cap h
  | mk b o cap hc _ hb hl => exact .mk b o cap hc hb hl
theorem SlOSq.start {w : World} {l : List Sq} {v : Value} (h : SlSq w l v) : SlOSq w.heap.size w l v := by
  cases h with
  | empty a cap h => exact .empty a cap h
  | mk b o cap hc hb hl => exact .mk b o cap hc hb hb hl
theorem SlOSq.below {B : Nat} {w w' : World} {l : List Sq} {v : Value} (h : SlOSq B w l v) (g : Below w.heap.size w w') : SlOSq B w' l v := by
  cases h with
  | empty a cap h => exact .empty a cap h
  | mk b o cap hc hB hb hl => exact .mk b o cap (hc.below g hb) hB (Nat.lt_of_lt_of_le hb g.size) hl
theorem SlOSq.out {B lo hi : Nat} {w w' : World} {l : List Sq} {v : Value} (h : SlOSq B w l v) (g : KeptOut lo hi w w') (ho : B ≤ lo) : SlOSq B w' l v := by
  cases h with
  | empty a cap h => exact .empty a cap h
  | mk b o cap hc hB hb hl => exact .mk b o cap (hc.out g hb (Or.inl (by omega))) hB (Nat.lt_of_lt_of_le hb g.size) hl

def Sq.cells (p : Sq) : List Value := [.int .i8 p.low, .int .i8 p.high]
def flatSq (l : List Sq) : List Value := l.flatMap Sq.cells
theorem flatSq_length (l : List Sq) : (flatSq l).length = l.length * 2 := by
  induction l with
  | nil => rfl
  | cons p l ih => simp only [flatSq, List.flatMap_cons, List.length_append, List.length_cons] at *; rw [ih]; simp only [Sq.cells, List.length_cons, List.length_nil]; omega
theorem Sq_one (p : Sq) : ∀ u ∈ p.cells, u.oneCell' = true := by
  intro u hu
  simp only [Sq.cells, List.mem_cons, List.not_mem_nil, or_false] at hu
  rcases hu with rfl | rfl <;> rfl
theorem flatSq_one (l : List Sq) : ∀ u ∈ flatSq l, u.oneCell' = true := by
  intro u hu
  obtain ⟨p, _, hp⟩ := List.mem_flatMap.1 hu
  exact Sq_one p u hp
theorem flatSq_end (l : List Sq) (p : Sq) : flatSq (l ++ [p]) = flatSq l ++ p.cells := by simp [flatSq]
theorem flatSq_get : ∀ (l : List Sq) (i j : Nat) (h : i < l.length), j < 2 → (flatSq l)[i * 2 + j]? = l[i].cells[j]?
  | p :: l, 0, j, _, hj => by
    rw [show flatSq (p :: l) = p.cells ++ flatSq l from List.flatMap_cons, List.getElem?_append_left (by simp [Sq.cells]; omega)]; simp
  | p :: l, i + 1, j, h, hj => by
    rw [show flatSq (p :: l) = p.cells ++ flatSq l from List.flatMap_cons, List.getElem?_append_right (by simp [Sq.cells]; omega)]
    have := flatSq_get l i j (by simpa using h) hj
    simp only [List.getElem_cons_succ]
    rw [← this]
    congr 1
    simp [Sq.cells]; omega
  | [], _, _, h, _ => by simp at h
theorem SqsAt.news {w : World} {b o : Nat} {l : List Sq} (h : SqsAt w b o l) : ∀ j u, (flatSq l)[j]? = some u → w.cell? ((⟨b, o, none⟩ : Addr).add j) = some u := by
  intro j u hu
  rw [add_none]
  have hj : j < (flatSq l).length := by
    cases hlt : decide (j < (flatSq l).length) with
    | true => simpa using hlt
    | false => rw [List.getElem?_eq_none (by simpa using hlt)] at hu; cases hu
  rw [flatSq_length] at hj
  have hi : j / 2 < l.length := by omega
  have e : j / 2 * 2 + j % 2 = j := by omega
  have hg := flatSq_get l (j / 2) (j % 2) hi (by omega)
  rw [e, hu] at hg
  obtain ⟨h0, h1⟩ := h (j / 2) hi
  have h5 : j % 2 = 0 ∨ j % 2 = 1 := by omega
  rw [show o + j = o + j / 2 * 2 + j % 2 by omega]
  rcases h5 with q | q <;> rw [q] at hg ⊢ <;> simp only [Sq.cells, List.getElem?_cons_zero, List.getElem?_cons_succ, Option.some.injEq] at hg <;> subst hg
  · exact h0
  · exact h1
theorem SlWSq.of_owns {w : World} {base : Nat} {e : TypeId} {v : Value} {n : Nat} {l : List Sq} (h : w.ownsRow base e 2 v n (flatSq l)) : SlWSq base w.heap.size w l v := by
  obtain ⟨hl, h | ⟨g, cap, cur, rfl, hb, hg, hn, hm, hs, ht⟩⟩ := h
  · obtain ⟨rfl, rfl⟩ := h
    rw [flatSq_length] at hl
    exact .empty none 0 (List.length_eq_zero_iff.1 (by omega))
  · rw [flatSq_length] at hl
    obtain rfl : n = l.length := by omega
    have hlt : g < w.heap.size := (Array.getElem?_eq_some_iff.1 hg).1
    have hcell : ∀ j, j < l.length * 2 → w.cell? ⟨g, j, none⟩ = (flatSq l)[j]? := by
      intro j hj
      rw [← ht, List.getElem?_take_of_lt hj]
      have hjs : j < cur.toList.length := by rw [Array.length_toList, hs]; exact Nat.lt_of_lt_of_le hj (Nat.mul_le_mul_right 2 hn)
      rw [List.getElem?_eq_getElem hjs]
      exact (cell_of_row w g j cur e _ hg).trans (by simp)
    refine .mk g 0 cap (fun i hi => ?_) hb hlt hlt (fun j => frozen_of_row w _ j _ _ hg) hn
    have hc : ∀ j, j < 2 → w.cell? ⟨g, 0 + i * 2 + j, none⟩ = l[i].cells[j]? := fun j hj => by rw [Nat.zero_add, hcell _ (by omega), flatSq_get l i j hi hj]
    exact ⟨hc 0 (by omega), hc 1 (by omega)⟩
def FilledOSq (w : World) (B o n : Nat) (l : List Sq) (k : Nat) : Prop :=
  B < w.heap.size ∧ (∀ i (h : i < l.length), i < k → SqAt w B (o + i * 2) l[i]) ∧ (∀ j, j < n * 2 → ∃ v, w.cell? ⟨B, o + j, none⟩ = some v) ∧ (∀ j, w.frozen? ⟨B, j, none⟩ = false)
theorem FilledOSq.start {w : World} {B o : Nat} {l0 l : List Sq} (h : SqsAt w B o l0) (hb : B < w.heap.size) (hf : ∀ j, w.frozen? ⟨B, j, none⟩ = false) : FilledOSq w B o l0.length l 0 := by
  refine ⟨hb, fun i _ hi => absurd hi (by omega), fun j hj => ?_, hf⟩
  obtain ⟨h0, h1⟩ := h (j / 2) (by omega)
  have : j % 2 = 0 ∨ j % 2 = 1 := by omega
  have hj5 : j = j / 2 * 2 + j % 2 := by omega
  rcases this with e | e <;> rw [e] at hj5 <;> rw [hj5]
  · exact ⟨_, h0⟩
  · exact ⟨_, by rw [← Nat.add_assoc]; exact h1⟩
theorem FilledOSq.store {w : World} {B o n k : Nat} {l : List Sq} {p : Sq} (h : FilledOSq w B o n l k) (hk : k < l.length) (hp : l[k] = p) (hkn : k < n) : FilledOSq (World.setSq w B (o + k * 2) p) B o n l (k + 1) := by
  obtain ⟨h1, h2, h3, h4⟩ := h
  refine ⟨by simpa [World.setSq, World.size_setCell] using h1, fun i hi hik => ?_, fun j hj => ?_, fun j => ?_⟩
  · by_cases e : i = k
    · subst e
      rw [hp]
      exact setSq_at (fun j hj => by rw [Nat.add_assoc]; exact h3 _ (by omega))
    · obtain ⟨a0, a1⟩ := h2 i hi (by omega)
      exact ⟨by rw [setSq_other (by omega)]; exact a0, by rw [setSq_other (by omega)]; exact a1⟩
  · obtain ⟨v, hv⟩ := h3 j hj
    unfold World.setSq
    obtain ⟨v1, g1⟩ := cell_set (j := o + k * 2) (v := .int .i8 p.low) hv
    exact cell_set (j := o + k * 2 + 1) (v := .int .i8 p.high) g1
  · unfold World.setSq
    simp only [World.frozen?_setCell]
    exact h4 j

def markSq (k : Int) : Sq := ⟨IntKind.i8.wrap (k), IntKind.i8.wrap (k + 1)⟩
def marksSq (k : Int) (n : Nat) : List Sq := (List.range n).map fun i : Nat => markSq (k + 2 * (i : Int))
theorem marksSq_length (k : Int) (n : Nat) : (marksSq k n).length = n := by simp [marksSq]
theorem marksSq_get (k : Int) (n i : Nat) (h : i < (marksSq k n).length) : (marksSq k n)[i] = markSq (k + 2 * i) := by simp [marksSq]

set_option maxRecDepth 100000 in
set_option maxHeartbeats 4000000 in
theorem markSpanS_mk (b o n cap : Nat) (k : Int) (l : List Sq) (w : World) (hn : l.length = n) (hc : SqsAt w b o l) (hb : b < w.heap.size) (hf : ∀ j, w.frozen? ⟨b, j, none⟩ = false) (hcap : n ≤ cap) (hk0 : 0 ≤ k) (hk1 : k ≤ 100000000) (hmax : n ≤ 1048576) :
    Calls Tryd.prog 25 #[.slice (some ⟨b, o, none⟩) n cap, .int .i64 k] w fun e w' => e = .returned (.int .i64 (k + 2 * n)) ∧ FilledOSq w' b o n (marksSq k n) n ∧ KeptOut b (b + 1) w w' := by
  have hst := FilledOSq.start (l := marksSq k n) hc hb hf
  rw [hn] at hst
  have Hst := Lib.hid hst
  clear hst hc hf hn
  go_enter Tryd.func25, Tryd.ntmps25
  go_wp2
  go_loopw [1, 5] (fun kk i wr => ∃ j : Nat, j ≤ n ∧ i = .int .i64 j ∧ kk = .int .i64 (k + 2 * j) ∧ Hid (FilledOSq wr b o n (marksSq k n) j) ∧ KeptOut b (b + 1) w wr) (fun _ i _ => n - (intOf i).toNat)
  case atStart => exact ⟨0, by omega, rfl, by simp, Hst, KeptOut.of_below (Below.refl _ _)⟩
  case round =>
    obtain ⟨j, hj, rfl, rfl, hf, hkp⟩ := hrel
    by_cases hlt : j < n
    · have hjl : j < (marksSq k n).length := by rw [marksSq_length]; exact hlt
      have HF := Lib.hid (hf.out.store hjl (marksSq_get k n j hjl) hlt)
      have hbw := hf.out.1
      obtain ⟨v0, d0⟩ := hf.out.2.2.1 (j * 2) (by omega)
      obtain ⟨v1, d1⟩ := hf.out.2.2.1 (j * 2 + 1) (by omega)
      rw [← Nat.add_assoc] at d1
      have f0 := hf.out.2.2.2 (o + j * 2)
      have f1 := hf.out.2.2.2 (o + j * 2 + 1)
      clear hf Hst
      go_wp2
      exact ⟨⟨j + 1, by omega, by go_num, by congr 1; push_cast; omega, HF, KeptOut.set (KeptOut.set (hkp) ⟨b, o + j * 2, none⟩ (Nat.le_refl _) (Nat.lt_succ_self _) _) ⟨b, o + j * 2 + 1, none⟩ (Nat.le_refl _) (Nat.lt_succ_self _) _⟩, by simp [intOf]; omega⟩
    · obtain rfl : j = n := by omega
      clear Hst
      go_wp2
      go_ret
      exact ⟨rfl, hf.out, hkp⟩
set_option maxHeartbeats 1000000 in
theorem markSpanS_none (a : Option Addr) (cap : Nat) (k : Int) (w : World) (hk0 : 0 ≤ k) (hk1 : k ≤ 100000000) :
    Calls Tryd.prog 25 #[.slice a 0 cap, .int .i64 k] w fun e w' => e = .returned (.int .i64 k) ∧ Below w.heap.size w w' := by
  go_enter Tryd.func25, Tryd.ntmps25
  go_wp2
  refine wp_loop_rounds 1 ?_
  rw [rounds_succ]
  go_wp2
  go_ret
  exact ⟨rfl, Below.refl _ _⟩
theorem markSpanS_any (lo hi : Nat) (v : Value) (l : List Sq) (k : Int) (w : World) (h : SlWSq lo hi w l v) (hk0 : 0 ≤ k) (hk1 : k ≤ 100000000) (hmax : l.length ≤ 1048576) :
    Calls Tryd.prog 25 #[v, .int .i64 k] w fun e w' => e = .returned (.int .i64 (k + 2 * l.length)) ∧ SlWSq lo hi w' (marksSq k l.length) v ∧ KeptOut lo hi w w' := by
  cases h with
  | empty a cap h =>
    subst h
    exact (markSpanS_none a cap k w hk0 hk1).mono fun e w' ⟨h1, h2⟩ => ⟨by rw [h1]; simp, .empty a cap (by simp [marksSq]), KeptOut.of_below h2⟩
  | mk b o cap hc h1 h2 hb hf hl =>
    refine (markSpanS_mk b o _ cap k l w rfl hc hb hf hl hk0 hk1 hmax).mono fun e w' ⟨e1, hF, hK⟩ => ⟨e1, ?_, hK.widen h1 (by omega)⟩
    obtain ⟨f1, f2, f3, f4⟩ := hF
    have := SlWSq.mk (lo := lo) (hi := hi) (w := w') (l := marksSq k l.length) b o cap (fun i hi => f2 i hi (by rw [marksSq_length] at hi; exact hi)) h1 h2 f1 f4 (by rw [marksSq_length]; exact hl)
    rwa [marksSq_length] at this
set_option maxRecDepth 100000 in
set_option maxHeartbeats 4000000 in
theorem heldSpanS_mk (b o n cap : Nat) (k : Int) (w : World) (hc : SqsAt w b o (marksSq k n)) (hb : b < w.heap.size) (hcap : n ≤ cap) (hk0 : 0 ≤ k) (hk1 : k ≤ 100000000) (hmax : n ≤ 1048576) :
    Calls Tryd.prog 26 #[.slice (some ⟨b, o, none⟩) n cap, .int .i64 k] w fun e w' => e = .returned (.int .i64 (k + 2 * n)) ∧ Below w.heap.size w w' := by
  go_enter Tryd.func26, Tryd.ntmps26
  go_wp2
  go_loopw [1, 5] (fun kk i wr => ∃ j : Nat, j ≤ n ∧ i = .int .i64 j ∧ kk = .int .i64 (k + 2 * j) ∧ Below w.heap.size w wr) (fun _ i _ => n - (intOf i).toNat)
  case atStart => exact ⟨0, by omega, rfl, by simp, Below.refl _ _⟩
  case round =>
    obtain ⟨j, hj, rfl, rfl, hbr⟩ := hrel
    by_cases hlt : j < n
    · have hjl : j < (marksSq k n).length := by rw [marksSq_length]; exact hlt
      have hpa := (hc.below hbr hb) j hjl
      rw [marksSq_get k n j hjl] at hpa
      obtain ⟨d0, d1⟩ := hpa
      simp only [markSq] at d0 d1
      clear hc
      go_wp2
      exact ⟨⟨j + 1, by omega, by go_num, by congr 1; push_cast; omega, hbr⟩, by simp [intOf]; omega⟩
    · obtain rfl : j = n := by omega
      clear hc
      go_wp2
      go_ret
      exact ⟨rfl, hbr⟩
set_option maxHeartbeats 1000000 in
theorem heldSpanS_none (a : Option Addr) (cap : Nat) (k : Int) (w : World) (hk0 : 0 ≤ k) (hk1 : k ≤ 100000000) :
    Calls Tryd.prog 26 #[.slice a 0 cap, .int .i64 k] w fun e w' => e = .returned (.int .i64 k) ∧ Below w.heap.size w w' := by
  go_enter Tryd.func26, Tryd.ntmps26
  go_wp2
  refine wp_loop_rounds 1 ?_
  rw [rounds_succ]
  go_wp2
  go_ret
  exact ⟨rfl, Below.refl _ _⟩
theorem heldSpanS_any (lo hi n : Nat) (v : Value) (k : Int) (w : World) (h : SlWSq lo hi w (marksSq k n) v) (hk0 : 0 ≤ k) (hk1 : k ≤ 100000000) (hmax : n ≤ 1048576) :
    Calls Tryd.prog 26 #[v, .int .i64 k] w fun e w' => e = .returned (.int .i64 (k + 2 * n)) ∧ Below w.heap.size w w' := by
  generalize hm : marksSq k n = l at h
  have hl : l.length = n := by rw [← hm, marksSq_length]
  cases h with
  | empty a cap h =>
    subst h
    obtain rfl : n = 0 := by simpa using hl.symm
    exact (heldSpanS_none a cap k w hk0 hk1).mono fun e w' ⟨h1, h2⟩ => ⟨by rw [h1]; simp, h2⟩
  | mk b o cap hc h1 h2 hb hf hcap =>
    rw [hl] at hcap ⊢
    exact heldSpanS_mk b o n cap k w (by rw [hm]; exact hc) hb hcap hk0 hk1 hmax
end Go.Proofs.YthngnbaoaeomeaaDoor
