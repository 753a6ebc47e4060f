/- Slices of the type Knock that a call has made: where they lie; the laws' own marking of them; copies. -/
import Derived.Test.YthngnbaoaeomeaaDoorKo
import Derived.Test.YthngnbaoaeomeaaDoorG4
namespace Go.Proofs.YthngnbaoaeomeaaDoor
open Go.ChangeShapes Go.WideShapes Go.ChangeAt Go.RowKit Go.Joins Go.Deep
set_option linter.unusedVariables false

theorem KosAt.out {lo hi : Nat} {w w' : World} {b o : Nat} {l : List Ko} (h : KosAt w b o l) (g : KeptOut lo hi w w') (hb : b < w.heap.size) (ho : b < lo ∨ hi ≤ b) : KosAt w' b o l := by
  intro i hi'
  obtain ⟨h0, h1, h2⟩ := h i hi'
  exact ⟨(g.cell hb ho).trans h0, (g.cell hb ho).trans h1, (g.cell hb ho).trans h2⟩
inductive SlWKo (lo hi : Nat) (w : World) (l : List Ko) : Value → Prop where
  | empty (a : Option Addr) (cap : Nat) (h : l = []) : SlWKo lo hi w l (.slice a 0 cap)
  | mk (b o cap : Nat) (hc : KosAt w b o l) (h1 : lo ≤ b) (h2 : b < hi) (hb : b < w.heap.size) (hf : ∀ j, w.frozen? ⟨b, j, none⟩ = false) (hl : l.length ≤ cap) : SlWKo lo hi w l (.slice (some ⟨b, o, none⟩) l.length cap)
theorem SlWKo.sl {lo hi : Nat} {w : World} {l : List Ko} {v : Value} (h : SlWKo lo hi w l v) : SlKo w l v := by
  cases h with
  | empty a cap h => exact .empty a cap h
  | mk b o cap hc _ _ hb _ hl => exact .mk b o cap hc hb hl
theorem SlWKo.below {lo hi : Nat} {w w' : World} {l : List Ko} {v : Value} (h : SlWKo lo hi w l v) (g : Below w.heap.size w w') : SlWKo lo hi w' l v := by
  cases h with
  | empty a cap h => exact .empty a cap h
  | mk b o cap hc h1 h2 hb hf hl => exact .mk b o cap (hc.below g hb) h1 h2 (Nat.lt_of_lt_of_le hb g.size) (fun j => (g.frozen (p := ⟨b, j, none⟩) hb).trans (hf j)) hl
theorem SlWKo.out {lo hi lo2 hi2 : Nat} {w w' : World} {l : List Ko} {v : Value} (h : SlWKo lo hi w l v) (g : KeptOut lo2 hi2 w w') (ho : hi ≤ lo2 ∨ hi2 ≤ lo) : SlWKo lo hi w' l v := by
  cases h with
  | empty a cap h => exact .empty a cap h
  | mk b o cap hc h1 h2 hb hf hl => exact .mk b o cap (hc.out g hb (by omega)) h1 h2 (Nat.lt_of_lt_of_le hb g.size) (fun j => (g.frozen hb (by omega)).trans (hf j)) hl
theorem SlWKo.mono {lo hi lo2 hi2 : Nat} {w : World} {l : List Ko} {v : Value} (h : SlWKo lo hi w l v) (h1 : lo2 ≤ lo) (h2 : hi ≤ hi2) : SlWKo lo2 hi2 w l v := by
  cases h with
  | empty a cap h => exact .empty a cap h
  | mk b o cap hc h1 h2 hb hf hl => exact .mk b o cap hc (by omega) (by omega) hb hf hl
theorem SlWKo.form {lo hi : Nat} {w : World} {l : List Ko} {v : Value} (h : SlWKo lo hi w l v) : ∃ a c, v = .slice a l.length c := by
  cases h with
  | empty a cap h => exact ⟨a, cap, by rw [h]; rfl⟩
  | mk b o cap _ _ _ _ _ _ => exact ⟨_, cap, rfl⟩
inductive SlOKo (B : Nat) (w : World) (l : List Ko) : Value → Prop where
  | empty (a : Option Addr) (cap : Nat) (h : l = []) : SlOKo B w l (.slice a 0 cap)
  | mk (b o cap : Nat) (hc : KosAt w b o l) (hB : b < B) (hb : b < w.heap.size) (hl : l.length ≤ cap) : SlOKo B w l (.slice (some ⟨b, o, none⟩) l.length cap)
theorem SlOKo.sl {B : Nat} {w : World} {l : List Ko} {v : Value} (h : SlOKo B w l v) : SlKo w l v := by
  cases h with
  | empty a cap h => exact .empty a cap h
  | mk b o cap hc _ hb hl => exact .mk b o cap hc hb hl
theorem SlOKo.start {w : World} {l : List Ko} {v : Value} (h : SlKo w l v) : SlOKo w.heap.size w l v := by
  cases h with
  | empty a cap h => exact .empty a cap h
  | mk b o cap hc hb hl => exact .mk b o cap hc hb hb hl
theorem SlOKo.below {B : Nat} {w w' : World} {l : List Ko} {v : Value} (h : SlOKo B w l v) (g : Below w.heap.size w w') : SlOKo B w' l v := by
  cases h with
  | empty a cap h => exact .empty a cap h
  | mk b o cap hc hB hb hl => exact .mk b o cap (hc.below g hb) hB (Nat.lt_of_lt_of_le hb g.size) hl
theorem SlOKo.out {B lo hi : Nat} {w w' : World} {l : List Ko} {v : Value} (h : SlOKo B w l v) (g : KeptOut lo hi w w') (ho : B ≤ lo) : SlOKo B w' l v := by
  cases h with
  | empty a cap h => exact .empty a cap h
  | mk b o cap hc hB hb hl => exact .mk b o cap (hc.out g hb (Or.inl (by omega))) hB (Nat.lt_of_lt_of_le hb g.size) hl

def Ko.cells (p : Ko) : List Value := [.int .i64 p.after, .int .i64 p.piece, .int .i8 p.side]
def flatKo (l : List Ko) : List Value := l.flatMap Ko.cells
theorem flatKo_length (l : List Ko) : (flatKo l).length = l.length * 3 := by
  induction l with
  | nil => rfl
  | cons p l ih => simp only [flatKo, List.flatMap_cons, List.length_append, List.length_cons] at *; rw [ih]; simp only [Ko.cells, List.length_cons, List.length_nil]; omega
theorem Ko_one (p : Ko) : ∀ u ∈ p.cells, u.oneCell' = true := by
  intro u hu
  simp only [Ko.cells, List.mem_cons, List.not_mem_nil, or_false] at hu
  rcases hu with rfl | rfl | rfl <;> rfl
theorem flatKo_one (l : List Ko) : ∀ u ∈ flatKo l, u.oneCell' = true := by
  intro u hu
  obtain ⟨p, _, hp⟩ := List.mem_flatMap.1 hu
  exact Ko_one p u hp
theorem flatKo_end (l : List Ko) (p : Ko) : flatKo (l ++ [p]) = flatKo l ++ p.cells := by simp [flatKo]
theorem flatKo_get : ∀ (l : List Ko) (i j : Nat) (h : i < l.length), j < 3 → (flatKo l)[i * 3 + j]? = l[i].cells[j]?
  | p :: l, 0, j, _, hj => by
    rw [show flatKo (p :: l) = p.cells ++ flatKo l from List.flatMap_cons, List.getElem?_append_left (by simp [Ko.cells]; omega)]; simp
  | p :: l, i + 1, j, h, hj => by
    rw [show flatKo (p :: l) = p.cells ++ flatKo l from List.flatMap_cons, List.getElem?_append_right (by simp [Ko.cells]; omega)]
    have := flatKo_get l i j (by simpa using h) hj
    simp only [List.getElem_cons_succ]
    rw [← this]
    congr 1
    simp [Ko.cells]; omega
  | [], _, _, h, _ => by simp at h
theorem KosAt.news {w : World} {b o : Nat} {l : List Ko} (h : KosAt w b o l) : ∀ j u, (flatKo l)[j]? = some u → w.cell? ((⟨b, o, none⟩ : Addr).add j) = some u := by
  intro j u hu
  rw [add_none]
  have hj : j < (flatKo l).length := by
    cases hlt : decide (j < (flatKo l).length) with
    | true => simpa using hlt
    | false => rw [List.getElem?_eq_none (by simpa using hlt)] at hu; cases hu
  rw [flatKo_length] at hj
  have hi : j / 3 < l.length := by omega
  have e : j / 3 * 3 + j % 3 = j := by omega
  have hg := flatKo_get l (j / 3) (j % 3) hi (by omega)
  rw [e, hu] at hg
  obtain ⟨h0, h1, h2⟩ := h (j / 3) hi
  have h5 : j % 3 = 0 ∨ j % 3 = 1 ∨ j % 3 = 2 := by omega
  rw [show o + j = o + j / 3 * 3 + j % 3 by omega]
  rcases h5 with q | q | q <;> rw [q] at hg ⊢ <;> simp only [Ko.cells, List.getElem?_cons_zero, List.getElem?_cons_succ, Option.some.injEq] at hg <;> subst hg
  · exact h0
  · exact h1
  · exact h2
theorem SlWKo.of_owns {w : World} {base : Nat} {e : TypeId} {v : Value} {n : Nat} {l : List Ko} (h : w.ownsRow base e 3 v n (flatKo l)) : SlWKo base w.heap.size w l v := by
  obtain ⟨hl, h | ⟨g, cap, cur, rfl, hb, hg, hn, hm, hs, ht⟩⟩ := h
  · obtain ⟨rfl, rfl⟩ := h
    rw [flatKo_length] at hl
    exact .empty none 0 (List.length_eq_zero_iff.1 (by omega))
  · rw [flatKo_length] at hl
    obtain rfl : n = l.length := by omega
    have hlt : g < w.heap.size := (Array.getElem?_eq_some_iff.1 hg).1
    have hcell : ∀ j, j < l.length * 3 → w.cell? ⟨g, j, none⟩ = (flatKo l)[j]? := by
      intro j hj
      rw [← ht, List.getElem?_take_of_lt hj]
      have hjs : j < cur.toList.length := by rw [Array.length_toList, hs]; exact Nat.lt_of_lt_of_le hj (Nat.mul_le_mul_right 3 hn)
      rw [List.getElem?_eq_getElem hjs]
      exact (cell_of_row w g j cur e _ hg).trans (by simp)
    refine .mk g 0 cap (fun i hi => ?_) hb hlt hlt (fun j => frozen_of_row w _ j _ _ hg) hn
    have hc : ∀ j, j < 3 → w.cell? ⟨g, 0 + i * 3 + j, none⟩ = l[i].cells[j]? := fun j hj => by rw [Nat.zero_add, hcell _ (by omega), flatKo_get l i j hi hj]
    exact ⟨hc 0 (by omega), hc 1 (by omega), hc 2 (by omega)⟩
def FilledOKo (w : World) (B o n : Nat) (l : List Ko) (k : Nat) : Prop :=
  B < w.heap.size ∧ (∀ i (h : i < l.length), i < k → KoAt w B (o + i * 3) l[i]) ∧ (∀ j, j < n * 3 → ∃ v, w.cell? ⟨B, o + j, none⟩ = some v) ∧ (∀ j, w.frozen? ⟨B, j, none⟩ = false)
theorem FilledOKo.start {w : World} {B o : Nat} {l0 l : List Ko} (h : KosAt w B o l0) (hb : B < w.heap.size) (hf : ∀ j, w.frozen? ⟨B, j, none⟩ = false) : FilledOKo w B o l0.length l 0 := by
  refine ⟨hb, fun i _ hi => absurd hi (by omega), fun j hj => ?_, hf⟩
  obtain ⟨h0, h1, h2⟩ := h (j / 3) (by omega)
  have : j % 3 = 0 ∨ j % 3 = 1 ∨ j % 3 = 2 := by omega
  have hj5 : j = j / 3 * 3 + j % 3 := by omega
  rcases this with e | e | e <;> rw [e] at hj5 <;> rw [hj5]
  · exact ⟨_, h0⟩
  · exact ⟨_, by rw [← Nat.add_assoc]; exact h1⟩
  · exact ⟨_, by rw [← Nat.add_assoc]; exact h2⟩
theorem FilledOKo.store {w : World} {B o n k : Nat} {l : List Ko} {p : Ko} (h : FilledOKo w B o n l k) (hk : k < l.length) (hp : l[k] = p) (hkn : k < n) : FilledOKo (World.setKo w B (o + k * 3) p) B o n l (k + 1) := by
  obtain ⟨h1, h2, h3, h4⟩ := h
  refine ⟨by simpa [World.setKo, World.size_setCell] using h1, fun i hi hik => ?_, fun j hj => ?_, fun j => ?_⟩
  · by_cases e : i = k
    · subst e
      rw [hp]
      exact setKo_at (fun j hj => by rw [Nat.add_assoc]; exact h3 _ (by omega))
    · obtain ⟨a0, a1, a2⟩ := h2 i hi (by omega)
      exact ⟨by rw [setKo_other (by omega)]; exact a0, by rw [setKo_other (by omega)]; exact a1, by rw [setKo_other (by omega)]; exact a2⟩
  · obtain ⟨v, hv⟩ := h3 j hj
    unfold World.setKo
    obtain ⟨v1, g1⟩ := cell_set (j := o + k * 3) (v := .int .i64 p.after) hv
    obtain ⟨v2, g2⟩ := cell_set (j := o + k * 3 + 1) (v := .int .i64 p.piece) g1
    exact cell_set (j := o + k * 3 + 2) (v := .int .i8 p.side) g2
  · unfold World.setKo
    simp only [World.frozen?_setCell]
    exact h4 j

def markKo (k : Int) : Ko := ⟨k, k + 1, IntKind.i8.wrap (k + 1 + 1)⟩
def marksKo (k : Int) (n : Nat) : List Ko := (List.range n).map fun i : Nat => markKo (k + 3 * (i : Int))
theorem marksKo_length (k : Int) (n : Nat) : (marksKo k n).length = n := by simp [marksKo]
theorem marksKo_get (k : Int) (n i : Nat) (h : i < (marksKo k n).length) : (marksKo k n)[i] = markKo (k + 3 * i) := by simp [marksKo]

set_option maxRecDepth 100000 in
set_option maxHeartbeats 4000000 in
theorem markKnockS_mk (b o n cap : Nat) (k : Int) (l : List Ko) (w : World) (hn : l.length = n) (hc : KosAt w b o l) (hb : b < w.heap.size) (hf : ∀ j, w.frozen? ⟨b, j, none⟩ = false) (hcap : n ≤ cap) (hk0 : 0 ≤ k) (hk1 : k ≤ 100000000) (hmax : n ≤ 1048576) :
    Calls Tryd.prog 20 #[.slice (some ⟨b, o, none⟩) n cap, .int .i64 k] w fun e w' => e = .returned (.int .i64 (k + 3 * n)) ∧ FilledOKo w' b o n (marksKo k n) n ∧ KeptOut b (b + 1) w w' := by
  have hst := FilledOKo.start (l := marksKo k n) hc hb hf
  rw [hn] at hst
  have Hst := Lib.hid hst
  clear hst hc hf hn
  go_enter Tryd.func20, Tryd.ntmps20
  go_wp2
  go_loopw [1, 5] (fun kk i wr => ∃ j : Nat, j ≤ n ∧ i = .int .i64 j ∧ kk = .int .i64 (k + 3 * j) ∧ Hid (FilledOKo wr b o n (marksKo k n) j) ∧ KeptOut b (b + 1) w wr) (fun _ i _ => n - (intOf i).toNat)
  case atStart => exact ⟨0, by omega, rfl, by simp, Hst, KeptOut.of_below (Below.refl _ _)⟩
  case round =>
    obtain ⟨j, hj, rfl, rfl, hf, hkp⟩ := hrel
    by_cases hlt : j < n
    · have hjl : j < (marksKo k n).length := by rw [marksKo_length]; exact hlt
      have HF := Lib.hid (hf.out.store hjl (marksKo_get k n j hjl) hlt)
      have hbw := hf.out.1
      obtain ⟨v0, d0⟩ := hf.out.2.2.1 (j * 3) (by omega)
      obtain ⟨v1, d1⟩ := hf.out.2.2.1 (j * 3 + 1) (by omega)
      obtain ⟨v2, d2⟩ := hf.out.2.2.1 (j * 3 + 2) (by omega)
      rw [← Nat.add_assoc] at d1 d2
      have f0 := hf.out.2.2.2 (o + j * 3)
      have f1 := hf.out.2.2.2 (o + j * 3 + 1)
      have f2 := hf.out.2.2.2 (o + j * 3 + 2)
      clear hf Hst
      go_wp2
      exact ⟨⟨j + 1, by omega, by go_num, by congr 1; push_cast; omega, HF, KeptOut.set (KeptOut.set (KeptOut.set (hkp) ⟨b, o + j * 3, none⟩ (Nat.le_refl _) (Nat.lt_succ_self _) _) ⟨b, o + j * 3 + 1, none⟩ (Nat.le_refl _) (Nat.lt_succ_self _) _) ⟨b, o + j * 3 + 1 + 1, none⟩ (Nat.le_refl _) (Nat.lt_succ_self _) _⟩, by simp [intOf]; omega⟩
    · obtain rfl : j = n := by omega
      clear Hst
      go_wp2
      go_ret
      exact ⟨rfl, hf.out, hkp⟩
set_option maxHeartbeats 1000000 in
theorem markKnockS_none (a : Option Addr) (cap : Nat) (k : Int) (w : World) (hk0 : 0 ≤ k) (hk1 : k ≤ 100000000) :
    Calls Tryd.prog 20 #[.slice a 0 cap, .int .i64 k] w fun e w' => e = .returned (.int .i64 k) ∧ Below w.heap.size w w' := by
  go_enter Tryd.func20, Tryd.ntmps20
  go_wp2
  refine wp_loop_rounds 1 ?_
  rw [rounds_succ]
  go_wp2
  go_ret
  exact ⟨rfl, Below.refl _ _⟩
theorem markKnockS_any (lo hi : Nat) (v : Value) (l : List Ko) (k : Int) (w : World) (h : SlWKo lo hi w l v) (hk0 : 0 ≤ k) (hk1 : k ≤ 100000000) (hmax : l.length ≤ 1048576) :
    Calls Tryd.prog 20 #[v, .int .i64 k] w fun e w' => e = .returned (.int .i64 (k + 3 * l.length)) ∧ SlWKo lo hi w' (marksKo k l.length) v ∧ KeptOut lo hi w w' := by
  cases h with
  | empty a cap h =>
    subst h
    exact (markKnockS_none a cap k w hk0 hk1).mono fun e w' ⟨h1, h2⟩ => ⟨by rw [h1]; simp, .empty a cap (by simp [marksKo]), KeptOut.of_below h2⟩
  | mk b o cap hc h1 h2 hb hf hl =>
    refine (markKnockS_mk b o _ cap k l w rfl hc hb hf hl hk0 hk1 hmax).mono fun e w' ⟨e1, hF, hK⟩ => ⟨e1, ?_, hK.widen h1 (by omega)⟩
    obtain ⟨f1, f2, f3, f4⟩ := hF
    have := SlWKo.mk (lo := lo) (hi := hi) (w := w') (l := marksKo k l.length) b o cap (fun i hi => f2 i hi (by rw [marksKo_length] at hi; exact hi)) h1 h2 f1 f4 (by rw [marksKo_length]; exact hl)
    rwa [marksKo_length] at this
set_option maxRecDepth 100000 in
set_option maxHeartbeats 4000000 in
theorem heldKnockS_mk (b o n cap : Nat) (k : Int) (w : World) (hc : KosAt w b o (marksKo k n)) (hb : b < w.heap.size) (hcap : n ≤ cap) (hk0 : 0 ≤ k) (hk1 : k ≤ 100000000) (hmax : n ≤ 1048576) :
    Calls Tryd.prog 21 #[.slice (some ⟨b, o, none⟩) n cap, .int .i64 k] w fun e w' => e = .returned (.int .i64 (k + 3 * n)) ∧ Below w.heap.size w w' := by
  go_enter Tryd.func21, Tryd.ntmps21
  go_wp2
  go_loopw [1, 5] (fun kk i wr => ∃ j : Nat, j ≤ n ∧ i = .int .i64 j ∧ kk = .int .i64 (k + 3 * j) ∧ Below w.heap.size w wr) (fun _ i _ => n - (intOf i).toNat)
  case atStart => exact ⟨0, by omega, rfl, by simp, Below.refl _ _⟩
  case round =>
    obtain ⟨j, hj, rfl, rfl, hbr⟩ := hrel
    by_cases hlt : j < n
    · have hjl : j < (marksKo k n).length := by rw [marksKo_length]; exact hlt
      have hpa := (hc.below hbr hb) j hjl
      rw [marksKo_get k n j hjl] at hpa
      obtain ⟨d0, d1, d2⟩ := hpa
      simp only [markKo] at d0 d1 d2
      clear hc
      go_wp2
      exact ⟨⟨j + 1, by omega, by go_num, by congr 1; push_cast; omega, hbr⟩, by simp [intOf]; omega⟩
    · obtain rfl : j = n := by omega
      clear hc
      go_wp2
      go_ret
      exact ⟨rfl, hbr⟩
set_option maxHeartbeats 1000000 in
theorem heldKnockS_none (a : Option Addr) (cap : Nat) (k : Int) (w : World) (hk0 : 0 ≤ k) (hk1 : k ≤ 100000000) :
    Calls Tryd.prog 21 #[.slice a 0 cap, .int .i64 k] w fun e w' => e = .returned (.int .i64 k) ∧ Below w.heap.size w w' := by
  go_enter Tryd.func21, Tryd.ntmps21
  go_wp2
  refine wp_loop_rounds 1 ?_
  rw [rounds_succ]
  go_wp2
  go_ret
  exact ⟨rfl, Below.refl _ _⟩
theorem heldKnockS_any (lo hi n : Nat) (v : Value) (k : Int) (w : World) (h : SlWKo lo hi w (marksKo k n) v) (hk0 : 0 ≤ k) (hk1 : k ≤ 100000000) (hmax : n ≤ 1048576) :
    Calls Tryd.prog 21 #[v, .int .i64 k] w fun e w' => e = .returned (.int .i64 (k + 3 * n)) ∧ Below w.heap.size w w' := by
  generalize hm : marksKo k n = l at h
  have hl : l.length = n := by rw [← hm, marksKo_length]
  cases h with
  | empty a cap h =>
    subst h
    obtain rfl : n = 0 := by simpa using hl.symm
    exact (heldKnockS_none a cap k w hk0 hk1).mono fun e w' ⟨h1, h2⟩ => ⟨by rw [h1]; simp, h2⟩
  | mk b o cap hc h1 h2 hb hf hcap =>
    rw [hl] at hcap ⊢
    exact heldKnockS_mk b o n cap k w (by rw [hm]; exact hc) hb hcap hk0 hk1 hmax
end Go.Proofs.YthngnbaoaeomeaaDoor
