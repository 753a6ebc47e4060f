/- Slices of the type Push that a call has made: where they lie; the laws' own marking of them; copies. -/
import Derived.Test.YthancdlkkfegnaaPu
import Derived.Test.YthancdlkkfegnaaPp
namespace Go.Proofs.Ythancdlkkfegnaa
open Go.ChangeShapes Go.WideShapes Go.ChangeAt Go.RowKit Go.Joins Go.Deep
set_option linter.unusedVariables false

theorem PusAt.out {lo hi : Nat} {w w' : World} {b o : Nat} {l : List Pu} (h : PusAt w b o l) (g : KeptOut lo hi w w') (hb : b < w.heap.size) (ho : b < lo ∨ hi ≤ b) : PusAt w' b o l := by
  intro i hi'
  obtain ⟨h0, h1, h2, h3⟩ := h i hi'
  exact ⟨(g.cell hb ho).trans h0, (g.cell hb ho).trans h1, (g.cell hb ho).trans h2, (g.cell hb ho).trans h3⟩
inductive SlWPu (lo hi : Nat) (w : World) (l : List Pu) : Value → Prop where
  | empty (a : Option Addr) (cap : Nat) (h : l = []) : SlWPu lo hi w l (.slice a 0 cap)
  | mk (b o cap : Nat) (hc : PusAt w b o l) (h1 : lo ≤ b) (h2 : b < hi) (hb : b < w.heap.size) (hf : ∀ j, w.frozen? ⟨b, j, none⟩ = false) (hl : l.length ≤ cap) : SlWPu lo hi w l (.slice (some ⟨b, o, none⟩) l.length cap)
theorem SlWPu.sl {lo hi : Nat} {w : World} {l : List Pu} {v : Value} (h : SlWPu lo hi w l v) : SlPu w l v := by
  cases h with
  | empty a cap h => exact .empty a cap h
  | mk b o cap hc _ _ hb _ hl => exact .mk b o cap hc hb hl
theorem SlWPu.below {lo hi : Nat} {w w' : World} {l : List Pu} {v : Value} (h : SlWPu lo hi w l v) (g : Below w.heap.size w w') : SlWPu lo hi w' l v := by
  cases h with
  | empty a cap h => exact .empty a cap h
  | mk b o cap hc h1 h2 hb hf hl => exact .mk b o cap (hc.below g hb) h1 h2 (Nat.lt_of_lt_of_le hb g.size) (fun j => (g.frozen (p := ⟨b, j, none⟩) hb).trans (hf j)) hl
theorem SlWPu.out {lo hi lo2 hi2 : Nat} {w w' : World} {l : List Pu} {v : Value} (h : SlWPu lo hi w l v) (g : KeptOut lo2 hi2 w w') (ho : hi ≤ lo2 ∨ hi2 ≤ lo) : SlWPu lo hi w' l v := by
  cases h with
  | empty a cap h => exact .empty a cap h
  | mk b o cap hc h1 h2 hb hf hl => exact .mk b o cap (hc.out g hb (by omega)) h1 h2 (Nat.lt_of_lt_of_le hb g.size) (fun j => (g.frozen hb (by omega)).trans (hf j)) hl
theorem SlWPu.mono {lo hi lo2 hi2 : Nat} {w : World} {l : List Pu} {v : Value} (h : SlWPu lo hi w l v) (h1 : lo2 ≤ lo) (h2 : hi ≤ hi2) : SlWPu lo2 hi2 w l v := by
  cases h with
  | empty a cap h => exact .empty a cap h
  | mk b o cap hc h1 h2 hb hf hl => exact .mk b o cap hc (by omega) (by omega) hb hf hl
theorem SlWPu.form {lo hi : Nat} {w : World} {l : List Pu} {v : Value} (h : SlWPu lo hi w l v) : ∃ a c, v = .slice a l.length c := by
  cases h with
  | empty a cap h => exact ⟨a, cap, by rw [h]; rfl⟩
  | mk b o cap _ _ _ _ _ _ => exact ⟨_, cap, rfl⟩
inductive SlOPu (B : Nat) (w : World) (l : List Pu) : Value → Prop where
  | empty (a : Option Addr) (cap : Nat) (h : l = []) : SlOPu B w l (.slice a 0 cap)
  | mk (b o cap : Nat) (hc : PusAt w b o l) (hB : b < B) (hb : b < w.heap.size) (hl : l.length ≤ cap) : SlOPu B w l (.slice (some ⟨b, o, none⟩) l.length cap)
theorem SlOPu.sl {B : Nat} {w : World} {l : List Pu} {v : Value} (h : SlOPu B w l v) : SlPu w l v := by
  cases h with
  | empty a cap h => exact .empty a cap h
  | mk b o cap hc _ hb hl => exact .mk b o cap hc hb hl
theorem SlOPu.start {w : World} {l : List Pu} {v : Value} (h : SlPu w l v) : SlOPu w.heap.size w l v := by
  cases h with
  | empty a cap h => exact .empty a cap h
  | mk b o cap hc hb hl => exact .mk b o cap hc hb hb hl
theorem SlOPu.below {B : Nat} {w w' : World} {l : List Pu} {v : Value} (h : SlOPu B w l v) (g : Below w.heap.size w w') : SlOPu B w' l v := by
  cases h with
  | empty a cap h => exact .empty a cap h
  | mk b o cap hc hB hb hl => exact .mk b o cap (hc.below g hb) hB (Nat.lt_of_lt_of_le hb g.size) hl
theorem SlOPu.out {B lo hi : Nat} {w w' : World} {l : List Pu} {v : Value} (h : SlOPu B w l v) (g : KeptOut lo hi w w') (ho : B ≤ lo) : SlOPu B w' l v := by
  cases h with
  | empty a cap h => exact .empty a cap h
  | mk b o cap hc hB hb hl => exact .mk b o cap (hc.out g hb (Or.inl (by omega))) hB (Nat.lt_of_lt_of_le hb g.size) hl

def Pu.cells (p : Pu) : List Value := [.int .i8 p.x, .int .i8 p.y, .int .i8 p.side, .int .i16 p.tick]
def flatPu (l : List Pu) : List Value := l.flatMap Pu.cells
theorem flatPu_length (l : List Pu) : (flatPu l).length = l.length * 4 := by
  induction l with
  | nil => rfl
  | cons p l ih => simp only [flatPu, List.flatMap_cons, List.length_append, List.length_cons] at *; rw [ih]; simp only [Pu.cells, List.length_cons, List.length_nil]; omega
theorem Pu_one (p : Pu) : ∀ u ∈ p.cells, u.oneCell' = true := by
  intro u hu
  simp only [Pu.cells, List.mem_cons, List.not_mem_nil, or_false] at hu
  rcases hu with rfl | rfl | rfl | rfl <;> rfl
theorem flatPu_one (l : List Pu) : ∀ u ∈ flatPu l, u.oneCell' = true := by
  intro u hu
  obtain ⟨p, _, hp⟩ := List.mem_flatMap.1 hu
  exact Pu_one p u hp
theorem flatPu_end (l : List Pu) (p : Pu) : flatPu (l ++ [p]) = flatPu l ++ p.cells := by simp [flatPu]
theorem flatPu_get : ∀ (l : List Pu) (i j : Nat) (h : i < l.length), j < 4 → (flatPu l)[i * 4 + j]? = l[i].cells[j]?
  | p :: l, 0, j, _, hj => by
    rw [show flatPu (p :: l) = p.cells ++ flatPu l from List.flatMap_cons, List.getElem?_append_left (by simp [Pu.cells]; omega)]; simp
  | p :: l, i + 1, j, h, hj => by
    rw [show flatPu (p :: l) = p.cells ++ flatPu l from List.flatMap_cons, List.getElem?_append_right (by simp [Pu.cells]; omega)]
    have := flatPu_get l i j (by simpa using h) hj
    simp only [List.getElem_cons_succ]
    rw [← this]
    congr 1
    simp [Pu.cells]; omega
  | [], _, _, h, _ => by simp at h
theorem PusAt.news {w : World} {b o : Nat} {l : List Pu} (h : PusAt w b o l) : ∀ j u, (flatPu l)[j]? = some u → w.cell? ((⟨b, o, none⟩ : Addr).add j) = some u := by
  intro j u hu
  rw [add_none]
  have hj : j < (flatPu l).length := by
    cases hlt : decide (j < (flatPu l).length) with
    | true => simpa using hlt
    | false => rw [List.getElem?_eq_none (by simpa using hlt)] at hu; cases hu
  rw [flatPu_length] at hj
  have hi : j / 4 < l.length := by omega
  have e : j / 4 * 4 + j % 4 = j := by omega
  have hg := flatPu_get l (j / 4) (j % 4) hi (by omega)
  rw [e, hu] at hg
  obtain ⟨h0, h1, h2, h3⟩ := h (j / 4) hi
  have h5 : j % 4 = 0 ∨ j % 4 = 1 ∨ j % 4 = 2 ∨ j % 4 = 3 := by omega
  rw [show o + j = o + j / 4 * 4 + j % 4 by omega]
  rcases h5 with q | q | q | q <;> rw [q] at hg ⊢ <;> simp only [Pu.cells, List.getElem?_cons_zero, List.getElem?_cons_succ, Option.some.injEq] at hg <;> subst hg
  · exact h0
  · exact h1
  · exact h2
  · exact h3
theorem SlWPu.of_owns {w : World} {base : Nat} {e : TypeId} {v : Value} {n : Nat} {l : List Pu} (h : w.ownsRow base e 4 v n (flatPu l)) : SlWPu base w.heap.size w l v := by
  obtain ⟨hl, h | ⟨g, cap, cur, rfl, hb, hg, hn, hm, hs, ht⟩⟩ := h
  · obtain ⟨rfl, rfl⟩ := h
    rw [flatPu_length] at hl
    exact .empty none 0 (List.length_eq_zero_iff.1 (by omega))
  · rw [flatPu_length] at hl
    obtain rfl : n = l.length := by omega
    have hlt : g < w.heap.size := (Array.getElem?_eq_some_iff.1 hg).1
    have hcell : ∀ j, j < l.length * 4 → w.cell? ⟨g, j, none⟩ = (flatPu l)[j]? := by
      intro j hj
      rw [← ht, List.getElem?_take_of_lt hj]
      have hjs : j < cur.toList.length := by rw [Array.length_toList, hs]; exact Nat.lt_of_lt_of_le hj (Nat.mul_le_mul_right 4 hn)
      rw [List.getElem?_eq_getElem hjs]
      exact (cell_of_row w g j cur e _ hg).trans (by simp)
    refine .mk g 0 cap (fun i hi => ?_) hb hlt hlt (fun j => frozen_of_row w _ j _ _ hg) hn
    have hc : ∀ j, j < 4 → w.cell? ⟨g, 0 + i * 4 + j, none⟩ = l[i].cells[j]? := fun j hj => by rw [Nat.zero_add, hcell _ (by omega), flatPu_get l i j hi hj]
    exact ⟨hc 0 (by omega), hc 1 (by omega), hc 2 (by omega), hc 3 (by omega)⟩
def FilledOPu (w : World) (B o n : Nat) (l : List Pu) (k : Nat) : Prop :=
  B < w.heap.size ∧ (∀ i (h : i < l.length), i < k → PuAt w B (o + i * 4) l[i]) ∧ (∀ j, j < n * 4 → ∃ v, w.cell? ⟨B, o + j, none⟩ = some v) ∧ (∀ j, w.frozen? ⟨B, j, none⟩ = false)
theorem FilledOPu.start {w : World} {B o : Nat} {l0 l : List Pu} (h : PusAt w B o l0) (hb : B < w.heap.size) (hf : ∀ j, w.frozen? ⟨B, j, none⟩ = false) : FilledOPu w B o l0.length l 0 := by
  refine ⟨hb, fun i _ hi => absurd hi (by omega), fun j hj => ?_, hf⟩
  obtain ⟨h0, h1, h2, h3⟩ := h (j / 4) (by omega)
  have : j % 4 = 0 ∨ j % 4 = 1 ∨ j % 4 = 2 ∨ j % 4 = 3 := by omega
  have hj5 : j = j / 4 * 4 + j % 4 := by omega
  rcases this with e | e | e | e <;> rw [e] at hj5 <;> rw [hj5]
  · exact ⟨_, h0⟩
  · exact ⟨_, by rw [← Nat.add_assoc]; exact h1⟩
  · exact ⟨_, by rw [← Nat.add_assoc]; exact h2⟩
  · exact ⟨_, by rw [← Nat.add_assoc]; exact h3⟩
theorem FilledOPu.store {w : World} {B o n k : Nat} {l : List Pu} {p : Pu} (h : FilledOPu w B o n l k) (hk : k < l.length) (hp : l[k] = p) (hkn : k < n) : FilledOPu (World.setPu w B (o + k * 4) p) B o n l (k + 1) := by
  obtain ⟨h1, h2, h3, h4⟩ := h
  refine ⟨by simpa [World.setPu, World.size_setCell] using h1, fun i hi hik => ?_, fun j hj => ?_, fun j => ?_⟩
  · by_cases e : i = k
    · subst e
      rw [hp]
      exact setPu_at (fun j hj => by rw [Nat.add_assoc]; exact h3 _ (by omega))
    · obtain ⟨a0, a1, a2, a3⟩ := h2 i hi (by omega)
      exact ⟨by rw [setPu_other (by omega)]; exact a0, by rw [setPu_other (by omega)]; exact a1, by rw [setPu_other (by omega)]; exact a2, by rw [setPu_other (by omega)]; exact a3⟩
  · obtain ⟨v, hv⟩ := h3 j hj
    unfold World.setPu
    obtain ⟨v1, g1⟩ := cell_set (j := o + k * 4) (v := .int .i8 p.x) hv
    obtain ⟨v2, g2⟩ := cell_set (j := o + k * 4 + 1) (v := .int .i8 p.y) g1
    obtain ⟨v3, g3⟩ := cell_set (j := o + k * 4 + 2) (v := .int .i8 p.side) g2
    exact cell_set (j := o + k * 4 + 3) (v := .int .i16 p.tick) g3
  · unfold World.setPu
    simp only [World.frozen?_setCell]
    exact h4 j

def markPu (k : Int) : Pu := ⟨IntKind.i8.wrap (k), IntKind.i8.wrap (k + 1), IntKind.i8.wrap (k + 1 + 1), IntKind.i16.wrap (k + 1 + 1 + 1)⟩
def marksPu (k : Int) (n : Nat) : List Pu := (List.range n).map fun i : Nat => markPu (k + 4 * (i : Int))
theorem marksPu_length (k : Int) (n : Nat) : (marksPu k n).length = n := by simp [marksPu]
theorem marksPu_get (k : Int) (n i : Nat) (h : i < (marksPu k n).length) : (marksPu k n)[i] = markPu (k + 4 * i) := by simp [marksPu]

set_option maxRecDepth 100000 in
set_option maxHeartbeats 4000000 in
theorem markPushS_mk (b o n cap : Nat) (k : Int) (l : List Pu) (w : World) (hn : l.length = n) (hc : PusAt w b o l) (hb : b < w.heap.size) (hf : ∀ j, w.frozen? ⟨b, j, none⟩ = false) (hcap : n ≤ cap) (hk0 : 0 ≤ k) (hk1 : k ≤ 100000000) (hmax : n ≤ 1048576) :
    Calls Try.prog 63 #[.slice (some ⟨b, o, none⟩) n cap, .int .i64 k] w fun e w' => e = .returned (.int .i64 (k + 4 * n)) ∧ FilledOPu w' b o n (marksPu k n) n ∧ KeptOut b (b + 1) w w' := by
  have hst := FilledOPu.start (l := marksPu k n) hc hb hf
  rw [hn] at hst
  have Hst := Lib.hid hst
  clear hst hc hf hn
  go_enter Try.func63, Try.ntmps63
  go_wp2
  go_loopw [1, 5, 6] (fun kk i _ wr => ∃ j : Nat, j ≤ n ∧ i = .int .i64 j ∧ kk = .int .i64 (k + 4 * j) ∧ Hid (FilledOPu wr b o n (marksPu k n) j) ∧ KeptOut b (b + 1) w wr) (fun _ i _ _ => n - (intOf i).toNat)
  case atStart => exact ⟨0, by omega, rfl, by simp, Hst, KeptOut.of_below (Below.refl _ _)⟩
  case round =>
    obtain ⟨j, hj, rfl, rfl, hf, hkp⟩ := hrel
    by_cases hlt : j < n
    · have hjl : j < (marksPu k n).length := by rw [marksPu_length]; exact hlt
      have HF := Lib.hid (hf.out.store hjl (marksPu_get k n j hjl) hlt)
      have hbw := hf.out.1
      obtain ⟨v0, d0⟩ := hf.out.2.2.1 (j * 4) (by omega)
      obtain ⟨v1, d1⟩ := hf.out.2.2.1 (j * 4 + 1) (by omega)
      obtain ⟨v2, d2⟩ := hf.out.2.2.1 (j * 4 + 2) (by omega)
      obtain ⟨v3, d3⟩ := hf.out.2.2.1 (j * 4 + 3) (by omega)
      rw [← Nat.add_assoc] at d1 d2 d3
      have f0 := hf.out.2.2.2 (o + j * 4)
      have f1 := hf.out.2.2.2 (o + j * 4 + 1)
      have f2 := hf.out.2.2.2 (o + j * 4 + 2)
      have f3 := hf.out.2.2.2 (o + j * 4 + 3)
      clear hf Hst
      go_wp2
      refine wp_loop_rounds 3 ?_
      rw [rounds_succ]
      go_wp2
      rw [rounds_succ]
      go_wp2
      rw [rounds_succ]
      go_wp2
      exact ⟨⟨j + 1, by omega, by go_num, by congr 1; push_cast; omega, HF, KeptOut.set (KeptOut.set (KeptOut.set (KeptOut.set (hkp) ⟨b, o + j * 4, none⟩ (Nat.le_refl _) (Nat.lt_succ_self _) _) ⟨b, o + j * 4 + 1, none⟩ (Nat.le_refl _) (Nat.lt_succ_self _) _) ⟨b, o + j * 4 + 1 + 1, none⟩ (Nat.le_refl _) (Nat.lt_succ_self _) _) ⟨b, o + j * 4 + 1 + 1 + 1, none⟩ (Nat.le_refl _) (Nat.lt_succ_self _) _⟩, by simp [intOf]; omega⟩
    · obtain rfl : j = n := by omega
      clear Hst
      go_wp2
      go_ret
      exact ⟨rfl, hf.out, hkp⟩
set_option maxHeartbeats 1000000 in
theorem markPushS_none (a : Option Addr) (cap : Nat) (k : Int) (w : World) (hk0 : 0 ≤ k) (hk1 : k ≤ 100000000) :
    Calls Try.prog 63 #[.slice a 0 cap, .int .i64 k] w fun e w' => e = .returned (.int .i64 k) ∧ Below w.heap.size w w' := by
  go_enter Try.func63, Try.ntmps63
  go_wp2
  refine wp_loop_rounds 1 ?_
  rw [rounds_succ]
  go_wp2
  go_ret
  exact ⟨rfl, Below.refl _ _⟩
theorem markPushS_any (lo hi : Nat) (v : Value) (l : List Pu) (k : Int) (w : World) (h : SlWPu lo hi w l v) (hk0 : 0 ≤ k) (hk1 : k ≤ 100000000) (hmax : l.length ≤ 1048576) :
    Calls Try.prog 63 #[v, .int .i64 k] w fun e w' => e = .returned (.int .i64 (k + 4 * l.length)) ∧ SlWPu lo hi w' (marksPu k l.length) v ∧ KeptOut lo hi w w' := by
  cases h with
  | empty a cap h =>
    subst h
    exact (markPushS_none a cap k w hk0 hk1).mono fun e w' ⟨h1, h2⟩ => ⟨by rw [h1]; simp, .empty a cap (by simp [marksPu]), KeptOut.of_below h2⟩
  | mk b o cap hc h1 h2 hb hf hl =>
    refine (markPushS_mk b o _ cap k l w rfl hc hb hf hl hk0 hk1 hmax).mono fun e w' ⟨e1, hF, hK⟩ => ⟨e1, ?_, hK.widen h1 (by omega)⟩
    obtain ⟨f1, f2, f3, f4⟩ := hF
    have := SlWPu.mk (lo := lo) (hi := hi) (w := w') (l := marksPu k l.length) b o cap (fun i hi => f2 i hi (by rw [marksPu_length] at hi; exact hi)) h1 h2 f1 f4 (by rw [marksPu_length]; exact hl)
    rwa [marksPu_length] at this
set_option maxRecDepth 100000 in
set_option maxHeartbeats 4000000 in
theorem heldPushS_mk (b o n cap : Nat) (k : Int) (w : World) (hc : PusAt w b o (marksPu k n)) (hb : b < w.heap.size) (hcap : n ≤ cap) (hk0 : 0 ≤ k) (hk1 : k ≤ 100000000) (hmax : n ≤ 1048576) :
    Calls Try.prog 64 #[.slice (some ⟨b, o, none⟩) n cap, .int .i64 k] w fun e w' => e = .returned (.int .i64 (k + 4 * n)) ∧ Below w.heap.size w w' := by
  go_enter Try.func64, Try.ntmps64
  go_wp2
  go_loopw [1, 5, 6] (fun kk i _ wr => ∃ j : Nat, j ≤ n ∧ i = .int .i64 j ∧ kk = .int .i64 (k + 4 * j) ∧ Below w.heap.size w wr) (fun _ i _ _ => n - (intOf i).toNat)
  case atStart => exact ⟨0, by omega, rfl, by simp, Below.refl _ _⟩
  case round =>
    obtain ⟨j, hj, rfl, rfl, hbr⟩ := hrel
    by_cases hlt : j < n
    · have hjl : j < (marksPu k n).length := by rw [marksPu_length]; exact hlt
      have hpa := (hc.below hbr hb) j hjl
      rw [marksPu_get k n j hjl] at hpa
      obtain ⟨d0, d1, d2, d3⟩ := hpa
      simp only [markPu] at d0 d1 d2 d3
      clear hc
      go_wp2
      refine wp_loop_rounds 3 ?_
      rw [rounds_succ]
      go_wp2
      rw [rounds_succ]
      go_wp2
      rw [rounds_succ]
      go_wp2
      exact ⟨⟨j + 1, by omega, by go_num, by congr 1; push_cast; omega, hbr⟩, by simp [intOf]; omega⟩
    · obtain rfl : j = n := by omega
      clear hc
      go_wp2
      go_ret
      exact ⟨rfl, hbr⟩
set_option maxHeartbeats 1000000 in
theorem heldPushS_none (a : Option Addr) (cap : Nat) (k : Int) (w : World) (hk0 : 0 ≤ k) (hk1 : k ≤ 100000000) :
    Calls Try.prog 64 #[.slice a 0 cap, .int .i64 k] w fun e w' => e = .returned (.int .i64 k) ∧ Below w.heap.size w w' := by
  go_enter Try.func64, Try.ntmps64
  go_wp2
  refine wp_loop_rounds 1 ?_
  rw [rounds_succ]
  go_wp2
  go_ret
  exact ⟨rfl, Below.refl _ _⟩
theorem heldPushS_any (lo hi n : Nat) (v : Value) (k : Int) (w : World) (h : SlWPu lo hi w (marksPu k n) v) (hk0 : 0 ≤ k) (hk1 : k ≤ 100000000) (hmax : n ≤ 1048576) :
    Calls Try.prog 64 #[v, .int .i64 k] w fun e w' => e = .returned (.int .i64 (k + 4 * n)) ∧ Below w.heap.size w w' := by
  generalize hm : marksPu k n = l at h
  have hl : l.length = n := by rw [← hm, marksPu_length]
  cases h with
  | empty a cap h =>
    subst h
    obtain rfl : n = 0 := by simpa using hl.symm
    exact (heldPushS_none a cap k w hk0 hk1).mono fun e w' ⟨h1, h2⟩ => ⟨by rw [h1]; simp, h2⟩
  | mk b o cap hc h1 h2 hb hf hcap =>
    rw [hl] at hcap ⊢
    exact heldPushS_mk b o n cap k w (by rw [hm]; exact hc) hb hcap hk0 hk1 hmax
set_option maxRecDepth 100000 in
set_option maxHeartbeats 2000000 in
theorem clonePu_mk (b o n cap : Nat) (l : List Pu) (w : World) (hn : l.length = n) (hp : PusAt w b o l) (hb : b < w.heap.size) (hmax : n ≤ 1048576) :
    Calls Try.prog 103 #[.slice (some ⟨b, o, none⟩) n cap] w fun e w' => ∃ v', e = .returned v' ∧ w'.ownsRow w.heap.size 133 4 v' n (flatPu l) ∧ Below w.heap.size w w' := by
  obtain ⟨i0, hi, hz0, hz1, hz2⟩ := info_parts info_Pu
  have q28 : ∀ (w : World) (a : Option Addr) (n c n' c' : Nat), (binOp .eql 78 (.slice a n c) (.slice none n' c')).run Try.prog w = .ok (.bool a.isNone) w := fun w a n c n' c' => Lib.run_eql_slice_nil w _ _ a n c n' c' Try.underlying78
  have Hi := Lib.hid hi
  have Hz0 := Lib.hid hz0
  have Hz1 := Lib.hid hz1
  have Hz2 := Lib.hid hz2
  have hl : (flatPu l).length = n * 4 := by rw [flatPu_length, hn]
  have Hl := Lib.hid hl
  have HP := Lib.hid (fun w2 (h2 : Below w.heap.size w w2) => (hp.below h2 hb).news)
  clear hi hz0 hz1 hz2 hp hn hl
  go_enter Try.func103, Try.ntmps103
  go_wp2_with (at_builtin; refine wpList_append_own _ rfl _ _ 78 rfl w.heap.size 133 i0 _ 4 6 Try.underlying78 Hi.out Hz0.out Hz1.out Hz2.out rfl (by decide) _ 0 [] rfl (World.ownsRow_made w #[] 0 (Nat.le_refl _) (Nat.zero_le _) (by simp)) ⟨b, o, none⟩ n cap (flatPu l) rfl Hl.out ?qc2 (flatPu_one l) ?qc4 ?qc5 ?qc6 ?_)
  case qc2 => exact HP.out _ (by repeat (first | with_reducible exact Below.refl _ _ | (with_reducible refine kSet ?_ ?hB _; case hB => (simp; try omega)) | with_reducible refine kAlloc ?_ _ | with_reducible refine Below.drew ?_ | with_reducible refine kDrewN ?_ _ | with_reducible refine kTrans ?_ (by assumption)))
  case qc4 => unfold maxLen; omega
  case qc5 => omega
  case qc6 => simp
  intro v' w1 hown hgr hnil
  have hown2 := Lib.hid (show w1.ownsRow w.heap.size 133 4 v' n (flatPu l) by simpa using hown)
  have hB : Below w.heap.size w w1 := grown_below (v := .slice (some ⟨w.heap.size, 0, none⟩) 0 0) (kAlloc (Below.refl _ _) _) hgr (by intro k hk; simp [Value.ownBlock] at hk; omega)
  clear hown hgr hnil
  go_wp2
  go_ret
  exact ⟨v', rfl, hown2.out, hB⟩
end Go.Proofs.Ythancdlkkfegnaa
