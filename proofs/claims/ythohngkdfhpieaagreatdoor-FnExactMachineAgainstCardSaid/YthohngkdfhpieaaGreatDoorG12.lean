/- Several texts in one: Us, Mt, Mu. -/
import Derived.Test.YthohngkdfhpieaaGreatDoorG4
import Derived.Test.YthohngkdfhpieaaGreatDoorRo
/- Slices of whole numbers: cells, slices in a window of blocks; the laws' own equality, marking, copies. -/
namespace Go.Proofs.YthohngkdfhpieaaGreatDoor
open Go.ChangeShapes Go.WideShapes Go.ChangeAt Go.RowKit Go.Joins Go.Deep
set_option linter.unusedVariables false

def UssAt (w : World) (b o : Nat) (l : List Int) : Prop := ∀ i (h : i < l.length), w.cell? ⟨b, o + i, none⟩ = some (.int .u64 l[i])
def UssWf (l : List Int) : Prop := ∀ p ∈ l, (Lit.int .u64 p).wf = true
theorem UssAt.below {W w' : World} {b o : Nat} {l : List Int} (h : UssAt W b o l) (hb : Below W.heap.size W w') (hl : b < W.heap.size) : UssAt w' b o l :=
  fun i hi => (hb.cell (p := ⟨b, o + i, none⟩) hl).trans (h i hi)
inductive SlUs (w : World) (l : List Int) : Value → Prop where
  | empty (a : Option Addr) (cap : Nat) (h : l = []) : SlUs w l (.slice a 0 cap)
  | mk (b o cap : Nat) (hc : UssAt w b o l) (hb : b < w.heap.size) (hl : l.length ≤ cap) : SlUs w l (.slice (some ⟨b, o, none⟩) l.length cap)
theorem SlUs.below {w w' : World} {l : List Int} {s : Value} (h : SlUs w l s) (hb : Below w.heap.size w w') : SlUs w' l s := by
  cases h with
  | empty a cap h => exact .empty a cap h
  | mk b o cap hc hbl hl => exact .mk b o cap (hc.below hb hbl) (Nat.lt_of_lt_of_le hbl hb.size) hl
theorem UssAt.out {lo hi : Nat} {w w' : World} {b o : Nat} {l : List Int} (h : UssAt w b o l) (g : KeptOut lo hi w w') (hb : b < w.heap.size) (ho : b < lo ∨ hi ≤ b) : UssAt w' b o l :=
  fun i hi' => (g.cell hb ho).trans (h i hi')
inductive SlWUs (lo hi : Nat) (w : World) (l : List Int) : Value → Prop where
  | empty (a : Option Addr) (cap : Nat) (h : l = []) : SlWUs lo hi w l (.slice a 0 cap)
  | mk (b o cap : Nat) (hc : UssAt w b o l) (h1 : lo ≤ b) (h2 : b < hi) (hb : b < w.heap.size) (hf : ∀ j, w.frozen? ⟨b, j, none⟩ = false) (hl : l.length ≤ cap) : SlWUs lo hi w l (.slice (some ⟨b, o, none⟩) l.length cap)
theorem SlWUs.sl {lo hi : Nat} {w : World} {l : List Int} {v : Value} (h : SlWUs lo hi w l v) : SlUs w l v := by
  cases h with
  | empty a cap h => exact .empty a cap h
  | mk b o cap hc _ _ hb _ hl => exact .mk b o cap hc hb hl
theorem SlWUs.below {lo hi : Nat} {w w' : World} {l : List Int} {v : Value} (h : SlWUs lo hi w l v) (g : Below w.heap.size w w') : SlWUs lo hi w' l v := by
  cases h with
  | empty a cap h => exact .empty a cap h
  | mk b o cap hc h1 h2 hb hf hl => exact .mk b o cap (hc.below g hb) h1 h2 (Nat.lt_of_lt_of_le hb g.size) (fun j => (g.frozen (p := ⟨b, j, none⟩) hb).trans (hf j)) hl
theorem SlWUs.out {lo hi lo2 hi2 : Nat} {w w' : World} {l : List Int} {v : Value} (h : SlWUs lo hi w l v) (g : KeptOut lo2 hi2 w w') (ho : hi ≤ lo2 ∨ hi2 ≤ lo) : SlWUs lo hi w' l v := by
  cases h with
  | empty a cap h => exact .empty a cap h
  | mk b o cap hc h1 h2 hb hf hl => exact .mk b o cap (hc.out g hb (by omega)) h1 h2 (Nat.lt_of_lt_of_le hb g.size) (fun j => (g.frozen hb (by omega)).trans (hf j)) hl
theorem SlWUs.mono {lo hi lo2 hi2 : Nat} {w : World} {l : List Int} {v : Value} (h : SlWUs lo hi w l v) (h1 : lo2 ≤ lo) (h2 : hi ≤ hi2) : SlWUs lo2 hi2 w l v := by
  cases h with
  | empty a cap h => exact .empty a cap h
  | mk b o cap hc h1 h2 hb hf hl => exact .mk b o cap hc (by omega) (by omega) hb hf hl
theorem SlWUs.form {lo hi : Nat} {w : World} {l : List Int} {v : Value} (h : SlWUs lo hi w l v) : ∃ a c, v = .slice a l.length c := by
  cases h with
  | empty a cap h => exact ⟨a, cap, by rw [h]; rfl⟩
  | mk b o cap _ _ _ _ _ _ => exact ⟨_, cap, rfl⟩
inductive SlOUs (B : Nat) (w : World) (l : List Int) : Value → Prop where
  | empty (a : Option Addr) (cap : Nat) (h : l = []) : SlOUs B w l (.slice a 0 cap)
  | mk (b o cap : Nat) (hc : UssAt w b o l) (hB : b < B) (hb : b < w.heap.size) (hl : l.length ≤ cap) : SlOUs B w l (.slice (some ⟨b, o, none⟩) l.length cap)
theorem SlOUs.sl {B : Nat} {w : World} {l : List Int} {v : Value} (h : SlOUs B w l v) : SlUs w l v := by
  cases h with
  | empty a cap h => exact .empty a cap h
  | mk b o cap hc _ hb hl => exact .mk b o cap hc hb hl
theorem SlOUs.start {w : World} {l : List Int} {v : Value} (h : SlUs w l v) : SlOUs w.heap.size w l v := by
  cases h with
  | empty a cap h => exact .empty a cap h
  | mk b o cap hc hb hl => exact .mk b o cap hc hb hb hl
theorem SlOUs.below {B : Nat} {w w' : World} {l : List Int} {v : Value} (h : SlOUs B w l v) (g : Below w.heap.size w w') : SlOUs B w' l v := by
  cases h with
  | empty a cap h => exact .empty a cap h
  | mk b o cap hc hB hb hl => exact .mk b o cap (hc.below g hb) hB (Nat.lt_of_lt_of_le hb g.size) hl
theorem SlOUs.out {B lo hi : Nat} {w w' : World} {l : List Int} {v : Value} (h : SlOUs B w l v) (g : KeptOut lo hi w w') (ho : B ≤ lo) : SlOUs B w' l v := by
  cases h with
  | empty a cap h => exact .empty a cap h
  | mk b o cap hc hB hb hl => exact .mk b o cap (hc.out g hb (Or.inl (by omega))) hB (Nat.lt_of_lt_of_le hb g.size) hl

def flatUs (l : List Int) : List Value := l.map fun x => .int .u64 x
theorem flatUs_length (l : List Int) : (flatUs l).length = l.length := by simp [flatUs]
theorem flatUs_one (l : List Int) : ∀ u ∈ flatUs l, u.oneCell' = true := by
  intro u hu
  obtain ⟨p, _, rfl⟩ := List.mem_map.1 hu
  rfl
theorem flatUs_end (l : List Int) (p : Int) : flatUs (l ++ [p]) = flatUs l ++ [.int .u64 p] := by simp [flatUs]
theorem SlWUs.of_owns {w : World} {base : Nat} {e : TypeId} {v : Value} {n : Nat} {l : List Int} (h : w.ownsRow base e 1 v n (flatUs l)) : SlWUs base w.heap.size w l v := by
  obtain ⟨hl, h | ⟨g, cap, cur, rfl, hb, hg, hn, hm, hs, ht⟩⟩ := h
  · obtain ⟨rfl, rfl⟩ := h
    rw [flatUs_length] at hl
    exact .empty none 0 (List.length_eq_zero_iff.1 (by omega))
  · rw [flatUs_length] at hl
    obtain rfl : n = l.length := by omega
    have hlt : g < w.heap.size := (Array.getElem?_eq_some_iff.1 hg).1
    refine .mk g 0 cap (fun i hi => ?_) hb hlt hlt (fun j => frozen_of_row w _ j _ _ hg) hn
    have hjs : i < cur.toList.length := by rw [Array.length_toList, hs]; omega
    have h2 : w.cell? ⟨g, i, none⟩ = (flatUs l)[i]? := by
      rw [← ht, List.getElem?_take_of_lt (by omega), List.getElem?_eq_getElem hjs]
      exact (cell_of_row w g i cur e _ hg).trans (by simp)
    rw [Nat.zero_add, h2]
    simp [flatUs, List.getElem?_eq_getElem hi]
/-- block B holds n numbers from o on, whose first k are those of 'l' -/
def FilledUs (w : World) (B o n : Nat) (l : List Int) (k : Nat) : Prop :=
  B < w.heap.size ∧ (∀ i (h : i < l.length), i < k → w.cell? ⟨B, o + i, none⟩ = some (.int .u64 l[i])) ∧ (∀ j, j < n → ∃ v, w.cell? ⟨B, o + j, none⟩ = some v) ∧ (∀ j, w.frozen? ⟨B, j, none⟩ = false)
theorem FilledUs.start {w : World} {B o : Nat} {l0 l : List Int} (h : UssAt w B o l0) (hb : B < w.heap.size) (hf : ∀ j, w.frozen? ⟨B, j, none⟩ = false) : FilledUs w B o l0.length l 0 :=
  ⟨hb, fun i _ hi => absurd hi (by omega), fun j hj => ⟨_, h j hj⟩, hf⟩
theorem FilledUs.made {w w' : World} {n B : Nat} {l : List Int} {e : TypeId} {v : Value} {xs : List Value} (h : w.ownsRow B e 1 (.slice (some ⟨B, 0, none⟩) n n) n xs) : FilledUs w B 0 n l 0 := by
  refine ⟨(h.lt B rfl).2, fun i _ hi => absurd hi (by omega), fun j hj => ?_, fun j => h.frozenAt j⟩
  have hl : xs.length = n * 1 := h.1
  exact ⟨xs[j]'(by omega), by rw [Nat.zero_add, h.cellAt j (by omega)]; exact List.getElem?_eq_getElem (by omega)⟩
theorem FilledUs.below {w w' : World} {n B o k : Nat} {l : List Int} (h : FilledUs w B o n l k) (hb : Below w.heap.size w w') : FilledUs w' B o n l k := by
  obtain ⟨h1, h2, h3, h4⟩ := h
  refine ⟨Nat.lt_of_lt_of_le h1 hb.size, fun i hi hk => ?_, fun j hj => ?_, fun j => ?_⟩
  · rw [hb.cell (p := ⟨B, o + i, none⟩) h1]; exact h2 i hi hk
  · rw [hb.cell (p := ⟨B, o + j, none⟩) h1]; exact h3 j hj
  · rw [hb.frozen (p := ⟨B, j, none⟩) h1]; exact h4 j
theorem FilledUs.store {w : World} {B o n k : Nat} {l : List Int} {p : Int} (h : FilledUs w B o n l k) (hk : k < l.length) (hp : l[k] = p) (hkn : k < n) : FilledUs (w.setCell ⟨B, o + k, none⟩ (.int .u64 p)) B o n l (k + 1) := by
  obtain ⟨h1, h2, h3, h4⟩ := h
  have ne : ∀ i : Nat, i ≠ k → (⟨B, o + k, none⟩ : Addr) ≠ ⟨B, o + i, none⟩ := by intro i hi e; injection e with _ h _; omega
  refine ⟨by simpa [World.size_setCell] using h1, fun i hi hik => ?_, fun j hj => ?_, fun j => by rw [World.frozen?_setCell]; exact h4 j⟩
  · by_cases e : i = k
    · subst e
      obtain ⟨v, hv⟩ := h3 i hkn
      rw [hp, World.cell?_setCell_same _ _ _ hv]
    · rw [World.cell?_setCell_other _ _ _ _ (ne i e)]; exact h2 i hi (by omega)
  · by_cases e : j = k
    · subst e
      obtain ⟨v, hv⟩ := h3 j hj
      exact ⟨_, World.cell?_setCell_same _ _ _ hv⟩
    · rw [World.cell?_setCell_other _ _ _ _ (ne j e)]; exact h3 j hj
def marksUs (k : Int) (n : Nat) : List Int := (List.range n).map fun i : Nat => k + (i : Int)
theorem marksUs_length (k : Int) (n : Nat) : (marksUs k n).length = n := by simp [marksUs]
theorem marksUs_get (k : Int) (n i : Nat) (h : i < (marksUs k n).length) : (marksUs k n)[i] = k + (i : Int) := by simp [marksUs]
end Go.Proofs.YthohngkdfhpieaaGreatDoor

/- Tables of a machine. -/
namespace Go.Proofs.YthohngkdfhpieaaGreatDoor
open Go.ChangeShapes Go.WideShapes Go.ChangeAt Go.RowKit Go.Shelf Go.Joins Go.Deep
set_option linter.unusedVariables false
set_option linter.unusedSimpArgs false

theorem and01 (y : Int) : Go.bits .and .i64 y 1 = 0 ∨ Go.bits .and .i64 y 1 = 1 := by
  have h : (BitVec.ofInt 64 y &&& BitVec.ofInt 64 1).toNat ≤ 1 := by
    rw [BitVec.toNat_and]
    exact Nat.and_le_right
  have h2 : (BitVec.ofInt 64 y &&& BitVec.ofInt 64 1).toNat = 0 ∨ (BitVec.ofInt 64 y &&& BitVec.ofInt 64 1).toNat = 1 := by omega
  show IntKind.i64.wrap ((BitVec.ofInt 64 y &&& BitVec.ofInt 64 1).toNat : Int) = 0 ∨ IntKind.i64.wrap ((BitVec.ofInt 64 y &&& BitVec.ofInt 64 1).toNat : Int) = 1
  rcases h2 with h2 | h2 <;> rw [h2] <;> decide
theorem or_zero {t : Int} (h : (Lit.int .u64 t).wf = true) : Go.bits .or .u64 t 0 = t := by
  have h2 : 0 ≤ t ∧ t ≤ 18446744073709551615 := by
    simpa [Lit.wf, IntKind.min, IntKind.max, IntKind.bits, IntKind.signed] using h
  show IntKind.u64.wrap ((BitVec.ofInt 64 t ||| BitVec.ofInt 64 0).toNat : Int) = t
  have h3 : BitVec.ofInt 64 t ||| BitVec.ofInt 64 0 = BitVec.ofInt 64 t := by
    have : BitVec.ofInt 64 0 = 0#64 := by decide
    rw [this]; simp
  rw [h3, BitVec.toNat_ofInt]
  have h4 : ((t % ((2 ^ 64 : Nat) : Int)).toNat : Int) = t := by omega
  rw [h4]
  exact IntWalk.u64_in _ (by omega)
theorem or_small : ∀ (a : Fin 256) (j : Fin 8), 0 ≤ Go.bits .or .i64 (a.val : Int) (2 ^ j.val) ∧ Go.bits .or .i64 (a.val : Int) (2 ^ j.val) < 256 := by decide +kernel
theorem outsB_small : ∀ (l : List Int) (j : Nat) (a : Int), 0 ≤ a ∧ a < 256 → j + l.length ≤ 8 → 0 ≤ outsB l j a ∧ outsB l j a < 256
  | [], _, _, h, _ => h
  | x :: l, j, a, h, hl => by
    simp only [List.length_cons] at hl
    unfold outsB
    split
    · exact outsB_small l (j + 1) a h (by omega)
    · refine outsB_small l (j + 1) _ ?_ (by omega)
      have h1 := or_small ⟨a.toNat, by omega⟩ ⟨j, by omega⟩
      have h2 : ((a.toNat : Nat) : Int) = a := by omega
      simp only [h2] at h1
      exact h1
theorem ansL_small {l : List Pc} {c : List Cl} {F : Nat → List Fl} {k : Nat} (h : c.length ≤ 8) (j : Nat) (hj : j < (ansL l c F k).length) : 0 ≤ (ansL l c F k)[j] ∧ (ansL l c F k)[j] < 256 := by
  rw [ansL_get]
  exact outsB_small _ 0 0 (by omega) (by rw [ticksL_length]; omega)
/-- the bit that a row adds to the table i -/
def oneU (x : Int) (i j : Nat) : Int := IntKind.u64.wrap (IntKind.u64.wrap (Go.bits .and .i64 (x / 2 ^ i) 1) * 2 ^ j)
/-- the table i after j rows -/
def tabU (A : List Int) (i : Nat) : Nat → Int
  | 0 => 0
  | j + 1 => Go.bits .or .u64 (tabU A i j) (oneU (A.getD j 0) i j)
theorem tabU_wf (A : List Int) (i : Nat) : ∀ j, (Lit.int .u64 (tabU A i j)).wf = true
  | 0 => by show (Lit.int .u64 0).wf = true; decide
  | j + 1 => by unfold tabU; exact wf_bits _ _ _ _
theorem tabU_any {A : List Int} {i j : Nat} {x : Int} (hj : j < A.length) (hx : A[j] = x) : tabU A i (j + 1) = Go.bits .or .u64 (tabU A i j) (oneU x i j) := by
  rw [tabU, List.getD_eq_getElem?_getD, List.getElem?_eq_getElem hj, hx]; rfl
theorem tabU_yes {A : List Int} {i j : Nat} {x : Int} (hj : j < A.length) (hx : A[j] = x) (hb : bitB x i = true) : tabU A i (j + 1) = Go.bits .or .u64 (tabU A i j) (IntKind.u64.wrap (2 ^ j)) := by
  rw [tabU_any hj hx]
  have h1 : Go.bits .and .i64 (x / 2 ^ i) 1 = 1 := by simpa [bitB] using hb
  have h2 : IntKind.u64.wrap 1 = 1 := by decide
  rw [oneU, h1, h2, Int.one_mul]
theorem tabU_no {A : List Int} {i j : Nat} {x : Int} (hj : j < A.length) (hx : A[j] = x) (hb : bitB x i = false) : tabU A i (j + 1) = tabU A i j := by
  rw [tabU_any hj hx]
  have h1 : Go.bits .and .i64 (x / 2 ^ i) 1 = 0 := by
    rcases and01 (x / 2 ^ i) with h | h
    · exact h
    · simp [bitB, h] at hb
  have h2 : IntKind.u64.wrap 0 = 0 := by decide
  rw [oneU, h1, h2, Int.zero_mul, h2, or_zero (tabU_wf A i j)]
def tabsM (A : List Int) (r N : Nat) : List Int := (List.range r).map fun i => tabU A i N
theorem tabsM_length (A : List Int) (r N : Nat) : (tabsM A r N).length = r := by simp [tabsM]
theorem tabsM_get (A : List Int) (r N i : Nat) (h : i < (tabsM A r N).length) : (tabsM A r N)[i] = tabU A i N := by simp [tabsM]
theorem tabsM_wf (A : List Int) (r N : Nat) : UssWf (tabsM A r N) := by
  intro x hx
  obtain ⟨i, _, rfl⟩ := List.mem_map.1 hx
  exact tabU_wf A i N
structure URow (w : World) (g n : Nat) (U : Nat → Int) : Prop where
  lt : g < w.heap.size
  at_ : ∀ k, k < n → w.cell? ⟨g, k, none⟩ = some (.int .u64 (U k))
  fz : ∀ j, w.frozen? ⟨g, j, none⟩ = false
theorem URow.below {w w' : World} {g n : Nat} {F : Nat → Int} (h : URow w g n F) (b : Below w.heap.size w w') : URow w' g n F :=
  ⟨Nat.lt_of_lt_of_le h.lt b.size, fun k hk => (b.cell (p := ⟨g, k, none⟩) h.lt).trans (h.at_ k hk), fun j => (b.frozen (p := ⟨g, j, none⟩) h.lt).trans (h.fz j)⟩
theorem URow.congr {w : World} {g n : Nat} {F G : Nat → Int} (h : URow w g n F) (e : ∀ k, k < n → F k = G k) : URow w g n G :=
  ⟨h.lt, fun k hk => by rw [← e k hk]; exact h.at_ k hk, h.fz⟩
theorem URow.put {w : World} {g n k : Nat} {F G : Nat → Int} {x : Int} (h : URow w g n F) (hk : k < n) (hx : G k = x) (e : ∀ i, i < n → i ≠ k → F i = G i) : URow (w.setCell ⟨g, k, none⟩ (.int .u64 x)) g n G := by
  refine ⟨by simpa [World.setCell] using h.lt, fun i hi => ?_, fun i => by rw [World.frozen?_setCell]; exact h.fz i⟩
  by_cases ei : i = k
  · subst ei
    rw [hx]
    exact World.cell?_setCell_same _ _ _ (h.at_ i hi)
  · rw [World.cell?_setCell_other _ _ _ _ (by intro x; injection x with _ x2 _; exact ei x2.symm), h.at_ i hi, e i hi ei]
theorem URow.drew {w : World} {g n : Nat} {F : Nat → Int} (h : URow w g n F) : URow w.drew g n F := ⟨h.lt, h.at_, h.fz⟩
theorem InsAt.far {w : World} {b o : Nat} {l : List Int} {p : Addr} {v : Value} (h : InsAt w b o l) (hp : p.block ≠ b) : InsAt (w.setCell p v) b o l :=
  fun i hi => (World.cell?_of_block (w := w) (Below.heap_setCell _ _ _ _ (Ne.symm hp))).trans (h i hi)
theorem InsAt.drew {w : World} {b o : Nat} {l : List Int} (h : InsAt w b o l) : InsAt w.drew b o l := h
theorem urow_made {w : World} {n B : Nat} {e : TypeId} (h : w.ownsRow B e 1 (.slice (some ⟨B, 0, none⟩) n n) n (madeCells #[Value.int .u64 0] n).toList) : URow w B n (fun _ => 0) := by
  refine ⟨(h.lt B rfl).2, fun j hj => ?_, fun j => h.frozenAt j⟩
  have h2 := h.cellAt j (by omega)
  rw [toList_madeCells_one] at h2
  rw [h2]
  simp [hj]
theorem urow_slw {w : World} {lo g r N : Nat} {A : List Int} (h : URow w g r (fun i => tabU A i N)) (h1 : lo ≤ g) : SlWUs lo w.heap.size w (tabsM A r N) (.slice (some ⟨g, 0, none⟩) r r) := by
  have h2 := SlWUs.mk (lo := lo) (hi := w.heap.size) (w := w) (l := tabsM A r N) g 0 r (fun i hi => by rw [tabsM_get, Nat.zero_add]; exact h.at_ i (by rw [tabsM_length] at hi; exact hi)) h1 h.lt h.lt h.fz (by rw [tabsM_length]; exact Nat.le_refl _)
  rwa [tabsM_length] at h2
theorem slWIn_some {lo hi : Nat} {w : World} {T : List Int} {va : Option Addr} {vc N : Nat} (h : SlWIn lo hi w T (.slice va N vc)) (h0 : 0 < T.length) : ∃ g o, va = some ⟨g, o, none⟩ ∧ InsAt w g o T ∧ g < w.heap.size ∧ T.length ≤ vc ∧ N = T.length ∧ lo ≤ g := by
  generalize hv : Value.slice va N vc = v at h
  cases h with
  | empty _ _ h => rw [h] at h0; simp at h0
  | mk g o c h1 h2 h3 h4 h5 h6 => cases hv; exact ⟨_, _, rfl, h1, h4, h6, rfl, h2⟩
theorem info_u64m : (Tryz.prog.info? 164).map (fun i => (i.zero, i.size, i.bytes)) = some (some (.int .u64 0), 1, 8) := by kernel_rfl
set_option maxRecDepth 100000 in
set_option maxHeartbeats 16000000 in
theorem mtables_any (B b k q m n r : Nat) (wd hi : Int) (l : List Pc) (p : List Po) (c : List Cl) (w : World) (hd : DvAt w B b k q l p c) (hm : l.length = m) (hn1 : p.length = n) (hr0 : c.length = r) (h6 : n ≤ 6) (hr8 : r ≤ 8) (F : Nat → List Fl) (hF : AnsAt wd hi l p c n F) (N : Nat) (hN : 2 ^ n = N) :
    Calls Tryz.prog 52 #[.agg #[.int .i8 wd, .int .i8 hi, .map (some B), .int .i8 wd, .int .i8 hi, .slice (some ⟨b, 0, none⟩) m m, .slice (some ⟨k, 0, none⟩) n n, .slice (some ⟨q, 0, none⟩) r r]] w fun e w' => ∃ v, e = .returned v ∧ SlWUs w.heap.size w'.heap.size w' (tabsM (ansL l c F N) r N) v ∧ Below w.heap.size w w' := by
  obtain ⟨i0, hi0, hz0, hzz1, hzz2⟩ := info_parts info_u64m
  have Hi := Lib.hid hi0
  have Hz0 := Lib.hid hz0
  have Hz1 := Lib.hid hzz1
  have Hz2 := Lib.hid hzz2
  obtain ⟨hN64, hN1, hpn⟩ := pow_N h6 hN
  have HA2 := Lib.hid (ansL_length l c F N)
  have HSM := Lib.hid (fun j (hj : j < (ansL l c F N).length) => ansL_small (l := l) (F := F) (by rw [hr0]; exact hr8) j hj)
  obtain ⟨A, hA⟩ : ∃ A, ansL l c F N = A := ⟨_, rfl⟩
  have HAE := Lib.hid hA
  rw [hA] at HA2 HSM ⊢
  clear hA
  obtain ⟨W, hW⟩ : ∃ W, w.alloc (.cells #[.int .i8 wd, .int .i8 hi, .map (some B), .int .i8 wd, .int .i8 hi, .slice (some ⟨b, 0, none⟩) m m, .slice (some ⟨k, 0, none⟩) n n, .slice (some ⟨q, 0, none⟩) r r] 89) = W := ⟨_, rfl⟩
  have kW : Below w.heap.size w W := by rw [← hW]; exact kAlloc (Below.refl _ _) _
  have hszW : W.heap.size = w.heap.size + 1 := by rw [← hW]; simp
  have bD : W.heap[w.heap.size]? = some (.cells #[.int .i8 wd, .int .i8 hi, .map (some B), .int .i8 wd, .int .i8 hi, .slice (some ⟨b, 0, none⟩) m m, .slice (some ⟨k, 0, none⟩) n n, .slice (some ⟨q, 0, none⟩) r r] 89 (0, 0)) := by rw [← hW]; exact heap_alloc_new _ _
  have HD := Lib.hid (fun W2 (h2 : Below w.heap.size w W2) => hd.below h2)
  have HFF := Lib.hid hF
  have Hn := Lib.hid hn1
  have Hm := Lib.hid hm
  have Hr := Lib.hid hr0
  have HNN := Lib.hid hN
  have HW := Lib.hid hW
  have BD := Lib.hid (fun W2 (h2 : Below W.heap.size W W2) => blk_below bD h2)
  have c0 : W.cell? ⟨w.heap.size, 0, none⟩ = some (.int .i8 wd) := cell_of_row _ _ 0 _ _ _ (bD)
  have c1 : W.cell? ⟨w.heap.size, 1, none⟩ = some (.int .i8 hi) := cell_of_row _ _ 1 _ _ _ (bD)
  have c2 : W.cell? ⟨w.heap.size, 2, none⟩ = some (.map (some B)) := cell_of_row _ _ 2 _ _ _ (bD)
  have c3 : W.cell? ⟨w.heap.size, 3, none⟩ = some (.int .i8 wd) := cell_of_row _ _ 3 _ _ _ (bD)
  have c4 : W.cell? ⟨w.heap.size, 4, none⟩ = some (.int .i8 hi) := cell_of_row _ _ 4 _ _ _ (bD)
  have c5 : W.cell? ⟨w.heap.size, 5, none⟩ = some (.slice (some ⟨b, 0, none⟩) m m) := cell_of_row _ _ 5 _ _ _ (bD)
  have c6 : W.cell? ⟨w.heap.size, 6, none⟩ = some (.slice (some ⟨k, 0, none⟩) n n) := cell_of_row _ _ 6 _ _ _ (bD)
  have c7 : W.cell? ⟨w.heap.size, 7, none⟩ = some (.slice (some ⟨q, 0, none⟩) r r) := cell_of_row _ _ 7 _ _ _ (bD)
  clear hW bD hd hi0 hz0 hzz1 hzz2 hF hn1 hm hr0 hN hpn
  go_enter Tryz.func52, Tryz.ntmps52
  go_upto_region 1 with fail
  try rw [HW.out]
  go_wp2_with (refine wpList_make_full _ rfl _ _ 105 rfl W.heap.size 164 i0 _ 1 Tryz.underlying105 Hi.out Hz0.out Hz1.out _ _ _ _ r rfl rfl rfl rfl ?c1 ?c2 ?c3 ?_)
  case c1 => rw [Hz2.out]; omega
  case c2 => unfold maxLen; omega
  case c3 => exact Nat.le_refl _
  intro w2 hown hgr
  have HU0 := Lib.hid (urow_made hown)
  have hB2 : Below W.heap.size W w2 := (Below.refl _ _).grown hgr (Nat.le_refl _) (by intro k hk; cases hk)
  have bD2 := BD.out w2 hB2
  have T2 := kTrans kW hB2
  have HANS := Lib.hid (by have h := answers_any B b k q m n r wd hi l p c w2 (HD.out _ T2) Hm.out Hn.out Hr.out h6 hr8 F HFF.out N HNN.out; rw [HAE.out] at h; exact h)
  clear c0 c1 c2 c3 c4 c5 c6 c7 hown hgr HW BD
  have c0 : w2.cell? ⟨w.heap.size, 0, none⟩ = some (.int .i8 wd) := cell_of_row _ _ 0 _ _ _ (bD2)
  have c1 : w2.cell? ⟨w.heap.size, 1, none⟩ = some (.int .i8 hi) := cell_of_row _ _ 1 _ _ _ (bD2)
  have c2 : w2.cell? ⟨w.heap.size, 2, none⟩ = some (.map (some B)) := cell_of_row _ _ 2 _ _ _ (bD2)
  have c3 : w2.cell? ⟨w.heap.size, 3, none⟩ = some (.int .i8 wd) := cell_of_row _ _ 3 _ _ _ (bD2)
  have c4 : w2.cell? ⟨w.heap.size, 4, none⟩ = some (.int .i8 hi) := cell_of_row _ _ 4 _ _ _ (bD2)
  have c5 : w2.cell? ⟨w.heap.size, 5, none⟩ = some (.slice (some ⟨b, 0, none⟩) m m) := cell_of_row _ _ 5 _ _ _ (bD2)
  have c6 : w2.cell? ⟨w.heap.size, 6, none⟩ = some (.slice (some ⟨k, 0, none⟩) n n) := cell_of_row _ _ 6 _ _ _ (bD2)
  have c7 : w2.cell? ⟨w.heap.size, 7, none⟩ = some (.slice (some ⟨q, 0, none⟩) r r) := cell_of_row _ _ 7 _ _ _ (bD2)
  clear bD2
  go_wp2_with fail
  refine HANS.out.mono ?_
  rintro e w3 ⟨v, rfl, hown, hb3⟩
  obtain ⟨va, vc, rfl⟩ := owns_slice hown
  have hs := SlWIn.of_owns hown
  obtain ⟨g, o, rfl, hI, hgl, hcl, -, hlo⟩ := slWIn_some hs (by rw [HA2.out]; omega)
  rw [HA2.out] at hcl
  have hg1 := HU0.out.lt
  have HU : Hid (URow w3 (w.heap.size + 1) r (fun s => tabU A s 0)) := Lib.hid ((HU0.out.below hb3).congr fun s hs => rfl)
  have HI := Lib.hid hI
  have KW := Lib.hid (kTrans T2 hb3)
  clear c0 c1 c2 c3 c4 c5 c6 c7 HANS hs hI hown hb3 HU0 hB2 T2 HD HFF HAE
  go_wp2
  go_loopw [4, 5, 6, 15] (fun _ _ _ z wr => ∃ j : Nat, j ≤ N ∧ z = .int .i64 j ∧ Hid (URow wr (w.heap.size + 1) r (fun s => tabU A s j)) ∧ Hid (InsAt wr g o A) ∧ Hid (Below w.heap.size w wr)) (fun _ _ _ z _ => N - (intOf z).toNat)
  case atStart => exact ⟨0, by omega, rfl, HU, HI, KW⟩
  case round =>
    clear HU HI KW
    obtain ⟨j, hj, rfl, hU, hI, hT⟩ := hrel
    have hju : IntKind.u64.wrap (j : Int) = j := IntWalk.u64_in _ (by omega)
    by_cases hlt : j < N
    · have hjA : j < A.length := by rw [HA2.out]; exact hlt
      obtain ⟨x, hx⟩ : ∃ x, A[j] = x := ⟨_, rfl⟩
      have HX := Lib.hid hx
      have hxr := HSM.out j hjA
      rw [hx] at hxr
      have HSm := Lib.hid hxr
      have cx := hI.out j hjA
      rw [hx] at cx
      clear hx hxr
      have HU2 : Hid (URow wr (w.heap.size + 1) r (fun s => if s < 0 then tabU A s (j + 1) else tabU A s j)) := Lib.hid (hU.out.congr fun s hs => by simp)
      clear hU
      go_wp2
      go_loopw [6, 22] (fun _ z wr => ∃ i : Nat, i ≤ r ∧ z = .int .i64 i ∧ Hid (URow wr (w.heap.size + 1) r (fun s => if s < i then tabU A s (j + 1) else tabU A s j)) ∧ Hid (InsAt wr g o A) ∧ Hid (Below w.heap.size w wr)) (fun _ z _ => r - (intOf z).toNat)
      case atStart => exact ⟨0, by omega, rfl, HU2, hI, hT⟩
      case round =>
        clear HU2 hI hT cx
        obtain ⟨i, hi, rfl, hU, hI, hT⟩ := hrel
        have hiu : IntKind.u64.wrap (i : Int) = i := IntWalk.u64_in _ (by omega)
        by_cases hil : i < r
        · have cx := hI.out j hjA
          rw [HX.out] at cx
          have ct := hU.out.at_ i hil
          rw [if_neg (Nat.lt_irrefl i)] at ct
          have fz := hU.out.fz i
          have gl := hU.out.lt
          have HO := Lib.hid (hasOne_any x i wr HSm.out.1 (by have := HSm.out.2; omega) (by omega))
          cases hb : bitB x i with
          | false =>
            rw [hb] at HO
            have HU3 : Hid (URow wr (w.heap.size + 1) r (fun s => if s < i + 1 then tabU A s (j + 1) else tabU A s j)) := Lib.hid (hU.out.congr fun s hs => by
              by_cases h : s < i
              · rw [if_pos h, if_pos (by omega)]
              · by_cases h2 : s = i
                · subst h2; rw [if_neg h, if_pos (by omega), tabU_no hjA HX.out hb]
                · rw [if_neg h, if_neg (by omega)])
            clear hU ct hb
            go_wp2_with fail
            refine HO.out.mono ?_
            rintro e w' ⟨rfl, rfl⟩
            go_wp2
            exact ⟨⟨i + 1, by omega, by go_num, HU3, hI, hT⟩, by simp [intOf]; omega⟩
          | true =>
            rw [hb] at HO
            have HV := Lib.hid (tabU_yes hjA HX.out hb)
            clear hb
            go_wp2_with fail
            refine HO.out.mono ?_
            rintro e w' ⟨rfl, rfl⟩
            obtain ⟨t, ht⟩ : ∃ t, tabU A i j = t := ⟨_, rfl⟩
            rw [ht] at ct HV
            have HPUT := Lib.hid (hU.out.put (x := Go.bits .or .u64 t (IntKind.u64.wrap (2 ^ j))) (G := fun s => if s < i + 1 then tabU A s (j + 1) else tabU A s j) hil (by rw [if_pos (Nat.lt_succ_self i)]; exact HV.out) (fun s hs he => by
              by_cases h : s < i
              · rw [if_pos h, if_pos (by omega)]
              · rw [if_neg h, if_neg (by omega)]))
            have HI2 := Lib.hid (hI.out.far (p := ⟨(w.heap.size + 1), i, none⟩) (v := .int .u64 (Go.bits .or .u64 t (IntKind.u64.wrap (2 ^ j)))) (show (w.heap.size + 1) ≠ g by omega))
            have HT2 := Lib.hid (kSet hT.out (p := ⟨(w.heap.size + 1), i, none⟩) (show w.heap.size ≤ (w.heap.size + 1) by omega) (.int .u64 (Go.bits .or .u64 t (IntKind.u64.wrap (2 ^ j)))))
            clear hU hI hT HV ht
            go_wp2
            go_still_tail 8, (by kernel_rfl)
            change wpList _ _ _ _ _ wr.drew
            go_wp2
            exact ⟨⟨i + 1, by omega, by go_num, Lib.hid HPUT.out.drew, Lib.hid HI2.out.drew, Lib.hid (Below.drew HT2.out)⟩, by simp [intOf]; omega⟩
        · obtain rfl : i = r := by omega
          have HU3 : Hid (URow wr (w.heap.size + 1) i (fun s => tabU A s (j + 1))) := Lib.hid (hU.out.congr fun s hs => by rw [if_pos hs])
          clear hU
          go_wp2
          exact ⟨⟨j + 1, by omega, by go_num, HU3, hI, hT⟩, by simp [intOf]; omega⟩
    · obtain rfl : j = N := by omega
      have HS := Lib.hid (urow_slw (lo := w.heap.size) hU.out (by omega))
      clear hU
      go_wp2
      go_ret
      exact ⟨_, rfl, HS.out, hT.out⟩
set_option maxRecDepth 100000 in
set_option maxHeartbeats 16000000 in
theorem l03Tables_any (bb b k q m n r : Nat) (wd hi : Int) (l : List Pc) (p : List Po) (c : List Cl) (w : World) (hmc : McAt w bb wd hi (.slice (some ⟨b, 0, none⟩) m m) (.slice (some ⟨k, 0, none⟩) n n) (.slice (some ⟨q, 0, none⟩) r r)) (hp : PcsAt w b 0 l) (hg : PosAt w k 0 p) (hj : ClsAt w q 0 c) (zb : b < w.heap.size) (zk : k < w.heap.size) (zq : q < w.heap.size)
    (hm : l.length = m) (hn1 : p.length = n) (hr0 : c.length = r) (h6 : n ≤ 6) (hr8 : r ≤ 8) (F : Nat → List Fl) (hF : AnsAt wd hi l p c n F) (N : Nat) (hN : 2 ^ n = N) :
    Calls Tryz.prog 50 #[.pointer (some ⟨bb, 0, none⟩)] w fun e w' => ∃ v, e = .returned v ∧ SlWUs w.heap.size w'.heap.size w' (tabsM (ansL l c F N) r N) v ∧ Below w.heap.size w w' := by
  obtain ⟨i0, hi0, hz0, hzz1, hzz2⟩ := info_parts info_u64m
  have Hi := Lib.hid hi0
  have Hz0 := Lib.hid hz0
  have Hz1 := Lib.hid hzz1
  have Hz2 := Lib.hid hzz2
  obtain ⟨hN64, hN1, hpn⟩ := pow_N h6 hN
  have lD := hmc.lt
  have HM0 := Lib.hid (fun W2 (h2 : Below w.heap.size w W2) => hmc.below h2 lD)
  have HA2 := Lib.hid (ansL_length l c F N)
  have HSM := Lib.hid (fun j (hj : j < (ansL l c F N).length) => ansL_small (l := l) (F := F) (by rw [hr0]; exact hr8) j hj)
  obtain ⟨A, hA⟩ : ∃ A, ansL l c F N = A := ⟨_, rfl⟩
  have HANS := Lib.hid (by have h := l03All_any bb b k q m n r wd hi l p c w hmc hp hg hj zb zk zq hm hn1 hr0 h6 hr8 F hF N hN; rw [hA] at h; exact h)
  rw [hA] at HA2 HSM ⊢
  clear hA
  have Hr := Lib.hid hr0
  clear hmc hp hg hj hi0 hz0 hzz1 hzz2 hF hn1 hm hr0 hN hpn
  go_enter Tryz.func50, Tryz.ntmps50
  go_wp2_with fail
  refine HANS.out.mono ?_
  rintro e w2 ⟨v, rfl, hown, -, hb3⟩
  obtain ⟨va, vc, rfl⟩ := owns_slice hown
  have hs := SlWIn.of_owns hown
  obtain ⟨g, o, rfl, hI, hgl, hcl, -, hlo⟩ := slWIn_some hs (by rw [HA2.out]; omega)
  rw [HA2.out] at hcl
  obtain ⟨x0, x1, x2, x3, x4⟩ := HM0.out w2 hb3
  have hs2 := hb3.size
  clear HANS hs hown
  go_wp2_with (refine wpList_make_full _ rfl _ _ 105 rfl w2.heap.size 164 i0 _ 1 Tryz.underlying105 Hi.out Hz0.out Hz1.out _ _ _ _ r rfl rfl rfl rfl ?c1 ?c2 ?c3 ?_)
  case c1 => rw [Hz2.out]; omega
  case c2 => unfold maxLen; omega
  case c3 => exact Nat.le_refl _
  intro w3 hown hgr
  have HU0 := Lib.hid (urow_made hown)
  have hB3 : Below w2.heap.size w2 w3 := (Below.refl _ _).grown hgr (Nat.le_refl _) (by intro k hk; cases hk)
  have HU : Hid (URow w3 w2.heap.size r (fun s => tabU A s 0)) := Lib.hid (HU0.out.congr fun s hs => rfl)
  have HI : Hid (InsAt w3 g o A) := Lib.hid (hI.below hB3 hgl)
  have KW := Lib.hid (kTrans hb3 hB3)
  clear x0 x1 x2 x3 x4 hI hown hb3 hB3 hgr HU0 HM0
  go_wp2
  go_loopw [5, 6] (fun z _ wr => ∃ j : Nat, j ≤ N ∧ z = .int .i64 j ∧ Hid (URow wr w2.heap.size r (fun s => tabU A s j)) ∧ Hid (InsAt wr g o A) ∧ Hid (Below w.heap.size w wr)) (fun z _ _ => N - (intOf z).toNat)
  case atStart => exact ⟨0, by omega, rfl, HU, HI, KW⟩
  case round =>
    clear HU HI KW
    obtain ⟨j, hj, rfl, hU, hI, hT⟩ := hrel
    have hju : IntKind.u64.wrap (j : Int) = j := IntWalk.u64_in _ (by omega)
    by_cases hlt : j < N
    · have hjA : j < A.length := by rw [HA2.out]; exact hlt
      obtain ⟨x, hx⟩ : ∃ x, A[j] = x := ⟨_, rfl⟩
      have HX := Lib.hid hx
      have hxr := HSM.out j hjA
      rw [hx] at hxr
      have HSm := Lib.hid hxr
      have cx := hI.out j hjA
      rw [hx] at cx
      clear hx hxr
      have HU2 : Hid (URow wr w2.heap.size r (fun s => if s < 0 then tabU A s (j + 1) else tabU A s j)) := Lib.hid (hU.out.congr fun s hs => by simp)
      clear hU
      go_wp2
      go_loopw [6] (fun z wr => ∃ i : Nat, i ≤ r ∧ z = .int .i64 i ∧ Hid (URow wr w2.heap.size r (fun s => if s < i then tabU A s (j + 1) else tabU A s j)) ∧ Hid (InsAt wr g o A) ∧ Hid (Below w.heap.size w wr)) (fun z _ => r - (intOf z).toNat)
      case atStart => exact ⟨0, by omega, rfl, HU2, hI, hT⟩
      case round =>
        clear HU2 hI hT cx
        obtain ⟨i, hi, rfl, hU, hI, hT⟩ := hrel
        have hiu : IntKind.u64.wrap (i : Int) = i := IntWalk.u64_in _ (by omega)
        by_cases hil : i < r
        · have cx := hI.out j hjA
          rw [HX.out] at cx
          have ct := hU.out.at_ i hil
          rw [if_neg (Nat.lt_irrefl i)] at ct
          have fz := hU.out.fz i
          have gl := hU.out.lt
          have HV := Lib.hid (tabU_any (i := i) hjA HX.out)
          obtain ⟨t, ht⟩ : ∃ t, tabU A i j = t := ⟨_, rfl⟩
          rw [ht] at ct HV
          have HPUT := Lib.hid (hU.out.put (x := Go.bits .or .u64 t (oneU x i j)) (G := fun s => if s < i + 1 then tabU A s (j + 1) else tabU A s j) hil (by rw [if_pos (Nat.lt_succ_self i)]; exact HV.out) (fun s hs he => by
            by_cases h : s < i
            · rw [if_pos h, if_pos (by omega)]
            · rw [if_neg h, if_neg (by omega)]))
          have HI2 := Lib.hid (hI.out.far (p := ⟨w2.heap.size, i, none⟩) (v := .int .u64 (Go.bits .or .u64 t (oneU x i j))) (show w2.heap.size ≠ g by omega))
          have HT2 := Lib.hid (kSet hT.out (p := ⟨w2.heap.size, i, none⟩) (show w.heap.size ≤ w2.heap.size by omega) (.int .u64 (Go.bits .or .u64 t (oneU x i j))))
          clear hU hI hT HV ht
          go_wp2
          go_still_tail 18, (by kernel_rfl)
          change wpList _ _ _ _ _ wr.drew
          go_wp2
          exact ⟨⟨i + 1, by omega, by go_num, Lib.hid HPUT.out.drew, Lib.hid HI2.out.drew, Lib.hid (Below.drew HT2.out)⟩, by simp [intOf]; omega⟩
        · obtain rfl : i = r := by omega
          have HU3 : Hid (URow wr w2.heap.size i (fun s => tabU A s (j + 1))) := Lib.hid (hU.out.congr fun s hs => by rw [if_pos hs])
          clear hU
          go_wp2
          exact ⟨⟨j + 1, by omega, by go_num, HU3, hI, hT⟩, by simp [intOf]; omega⟩
    · obtain rfl : j = N := by omega
      have HS := Lib.hid (urow_slw (lo := w.heap.size) hU.out (by omega))
      clear hU
      go_wp2
      go_ret
      exact ⟨_, rfl, HS.out, hT.out⟩
end Go.Proofs.YthohngkdfhpieaaGreatDoor

/- MachineTables: both sides. -/
namespace Go.Proofs.YthohngkdfhpieaaGreatDoor
open Go.ChangeShapes Go.WideShapes Go.ChangeAt Go.RowKit Go.Shelf Go.Joins Go.Deep
set_option linter.unusedVariables false
set_option linter.unusedSimpArgs false

def UsPost (L : List Int) (C : Int) (w : World) (e : Ending) (w' : World) : Prop := ∃ v, e = .returned (.tuple #[v, .int .i64 C]) ∧ SlWUs w.heap.size w'.heap.size w' L v ∧ Below w.heap.size w w'
def mtQ (M : Bool) (L : List Int) : List Int × Int := if M = true then (L, 0) else ([], 1)
theorem pair_li {a c : List Int} {b d : Int} (h : (a, b) = (c, d)) : a = c ∧ b = d := by injection h with h1 h2; exact ⟨h1, h2⟩
theorem mtQ_ok {M : Bool} {A : List Int} {r N : Nat} {L : List Int} {C : Int} (hM : M = true → r ≤ 8) (h : mtQ M (tabsM A r N) = (L, C)) : UssWf L ∧ L.length ≤ 1048576 := by
  cases M with
  | false => simp only [mtQ] at h; cases h; exact ⟨fun x hx => by simp at hx, by simp⟩
  | true =>
    rw [← (pair_li (show (tabsM A r N, (0 : Int)) = (L, C) from h)).1]
    have := hM rfl
    exact ⟨tabsM_wf _ _ _, by rw [tabsM_length]; omega⟩
end Go.Proofs.YthohngkdfhpieaaGreatDoor
