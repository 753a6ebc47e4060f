/- HazardsIn: both sides. -/
import Derived.Test.YthohngkdfhpieaaGreatDoorTd
import Derived.Test.YthohngkdfhpieaaGreatDoorTkN
import Derived.Test.YthohngkdfhpieaaGreatDoorTkB
namespace Go.Proofs.YthohngkdfhpieaaGreatDoor
open Go.ChangeShapes Go.WideShapes Go.ChangeAt Go.RowKit Go.Joins Go.Deep
set_option linter.unusedVariables false
set_option linter.unusedSimpArgs false
theorem nilI_ownsH {w : World} {base : Nat} {e : TypeId} : w.ownsRow base e 1 (.slice none 0 0) 0 (flatIn []) := ⟨by simp [flatIn], .inl ⟨rfl, rfl⟩⟩

/-! ### no input is late, or one is -/
def zeros (n : Nat) : List Int := List.replicate n 0
def onlyAt (n i : Nat) (by_ : Int) : List Int := (List.replicate n 0).set i by_
theorem zeros_length (n : Nat) : (zeros n).length = n := by simp [zeros]
theorem onlyAt_length (n i : Nat) (b : Int) : (onlyAt n i b).length = n := by simp [onlyAt]
theorem zeros_get {n j : Nat} (h : j < (zeros n).length) : (zeros n)[j] = 0 := by simp [zeros]
theorem onlyAt_get {n i j : Nat} {b : Int} (h : j < (onlyAt n i b).length) : (onlyAt n i b)[j] = if i = j then b else 0 := by
  simp only [onlyAt, List.getElem_set]
  split
  · rfl
  · simp
theorem zeros_late (n : Nat) : lateAll (zeros n) = true := by simp [lateAll, zeros]
theorem onlyAt_late {n i : Nat} {b : Int} (hb : 0 ≤ b ∧ b ≤ 100) : lateAll (onlyAt n i b) = true := by
  unfold lateAll
  rw [List.all_eq_true]
  intro x hx
  obtain ⟨j, hj, rfl⟩ := List.mem_iff_getElem.1 hx
  rw [onlyAt_get hj]
  split <;> simp <;> omega
theorem bit_pow : ∀ i, i < 6 → ∀ j, j < 6 → bitB (2 ^ i) j = decide (i = j) := by decide +kernel
theorem pow_wrap {i : Nat} (h : i < 6) : IntKind.i64.wrap (2 ^ i) = 2 ^ i := IntWalk.i64_in _ (by
  have : i = 0 ∨ i = 1 ∨ i = 2 ∨ i = 3 ∨ i = 4 ∨ i = 5 := by omega
  rcases this with rfl | rfl | rfl | rfl | rfl | rfl <;> decide)
theorem pow_i64 {i : Nat} (h : i < 6) : wrap64 (2 ^ i) = 2 ^ i := shl1_lt (by omega)
theorem pow_le {i : Nat} (h : i < 6) : (0 : Int) ≤ 2 ^ i ∧ (2 : Int) ^ i ≤ 64 := by
  have : i = 0 ∨ i = 1 ∨ i = 2 ∨ i = 3 ∨ i = 4 ∨ i = 5 := by omega
  rcases this with rfl | rfl | rfl | rfl | rfl | rfl <;> decide
theorem zeros_made {w : World} {n B : Nat} {e : TypeId} (h : w.ownsRow B e 1 (.slice (some ⟨B, 0, none⟩) n n) n (madeCells #[Value.int .i64 0] n).toList) : InsAt w B 0 (zeros n) ∧ B < w.heap.size ∧ (∀ j, w.frozen? ⟨B, j, none⟩ = false) := by
  refine ⟨fun j hj => ?_, (h.lt B rfl).2, fun j => h.frozenAt j⟩
  rw [zeros_length] at hj
  rw [zeros_get, Nat.zero_add, h.cellAt j (by omega), toList_madeCells_one]
  simp [hj]
theorem InsAt.set0 {w : World} {B i : Nat} {l : List Int} {x : Int} (h : InsAt w B 0 l) (hi : i < l.length) : InsAt (w.setCell ⟨B, i, none⟩ (.int .i64 x)) B 0 (l.set i x) := by
  intro j hj
  rw [List.length_set] at hj
  rw [List.getElem_set]
  have h0 := h j hj
  rw [Nat.zero_add] at h0 ⊢
  by_cases e : i = j
  · subst e
    rw [if_pos rfl, World.cell?_setCell_same _ _ _ h0]
  · rw [if_neg e, World.cell?_setCell_other _ _ _ _ (by intro e2; injection e2 with _ h2 _; exact e h2)]
    exact h0
theorem noneLate_any (j : Nat) (w : World) : Calls Tryz.prog 41 #[.int .i64 j] w fun e w' => e = .returned (.int .i64 0) ∧ w = w' := by
  go_enter Tryz.func41, Tryz.ntmps41
  go_wp2
  go_ret
  exact ⟨rfl, rfl⟩
theorem noneTold {n : Nat} (w : World) : ∀ W, Below w.heap.size w W → ∀ (j : Nat) (hj : j < (zeros n).length), Calls Tryz.prog 41 #[.int .i64 j] W fun e w' => e = .returned (.int .i64 (zeros n)[j]) ∧ W = w' := by
  intro W _ j hj
  rw [zeros_get]
  exact noneLate_any j W
theorem lateBy_any (r b : Int) (w : World) : Calls Tryz.prog 66 #[.int .i64 r, .int .i64 b] w fun e w' => e = .returned (.func (.func 105) #[] #[.pointer (some ⟨w.heap.size, 0, none⟩), .pointer (some ⟨w.heap.size + 1, 0, none⟩)]) ∧
    w' = (w.alloc (.cells #[.int .i64 r] 2)).alloc (.cells #[.int .i64 b] 2) := by
  go_enter Tryz.func66, Tryz.ntmps66
  go_wp2
  go_ret
  exact ⟨rfl, rfl⟩
theorem lateBy1_any (g1 g2 j : Nat) (r b : Int) (w : World) (h1 : w.cell? ⟨g1, 0, none⟩ = some (.int .i64 r)) (h2 : w.cell? ⟨g2, 0, none⟩ = some (.int .i64 b)) (hr : 0 ≤ r ∧ r ≤ 64) (hj : j ≤ 64) :
    Calls Tryz.prog 105 #[.int .i64 j, .pointer (some ⟨g1, 0, none⟩), .pointer (some ⟨g2, 0, none⟩)] w fun e w' => e = .returned (.int .i64 (if bitB r j then b else 0)) ∧ w = w' := by
  have l1 := World.block_lt_of_cell? w _ h1
  have l2 := World.block_lt_of_cell? w _ h2
  have H := Lib.hid (hasOne_any r j w hr.1 (by omega) hj)
  cases hb : bitB r j with
  | true =>
    rw [hb] at H
    go_enter Tryz.func105, Tryz.ntmps105
    go_wp2_with fail
    refine H.out.mono ?_
    rintro e w1 ⟨rfl, rfl⟩
    go_wp2
    go_ret
    exact ⟨rfl, rfl⟩
  | false =>
    rw [hb] at H
    go_enter Tryz.func105, Tryz.ntmps105
    go_wp2_with fail
    refine H.out.mono ?_
    rintro e w1 ⟨rfl, rfl⟩
    go_wp2
    go_ret
    exact ⟨rfl, rfl⟩
theorem byTold {n i g1 g2 : Nat} {b : Int} (w : World) (hi : i < n) (hn : n ≤ 6) (h1 : w.cell? ⟨g1, 0, none⟩ = some (.int .i64 (2 ^ i))) (h2 : w.cell? ⟨g2, 0, none⟩ = some (.int .i64 b)) : ∀ W, Below w.heap.size w W → ∀ (j : Nat) (hj : j < (onlyAt n i b).length), Calls Tryz.prog 105 #[.int .i64 j, .pointer (some ⟨g1, 0, none⟩), .pointer (some ⟨g2, 0, none⟩)] W fun e w' => e = .returned (.int .i64 (onlyAt n i b)[j]) ∧ W = w' := by
  intro W hW j hj
  have l1 := World.block_lt_of_cell? w _ h1
  have l2 := World.block_lt_of_cell? w _ h2
  have hj6 : j < n := by rw [onlyAt_length] at hj; exact hj
  have h := lateBy1_any g1 g2 j (2 ^ i) b W ((hW.cell (p := ⟨g1, 0, none⟩) l1).trans h1) ((hW.cell (p := ⟨g2, 0, none⟩) l2).trans h2) (pow_le (by omega)) (by omega)
  rw [bit_pow i (by omega) j (by omega)] at h
  rw [onlyAt_get hj]
  by_cases e : i = j
  · rw [if_pos e]; rw [if_pos (by simpa using e)] at h; exact h
  · rw [if_neg e]; rw [if_neg (by simpa using e)] at h; exact h
/-- the inputs with which the outputs are others -/
def hazL (O0 : Int) (f : Nat → Int) : Nat → List Int
  | 0 => []
  | k + 1 => hazL O0 f k ++ (if f k = O0 then [] else [(k : Int)])
theorem hazL_len (O0 : Int) (f : Nat → Int) : ∀ k, (hazL O0 f k).length ≤ k
  | 0 => by simp [hazL]
  | k + 1 => by have := hazL_len O0 f k; simp only [hazL, List.length_append]; split <;> simp <;> omega
theorem hazL_wf (O0 : Int) (f : Nat → Int) : ∀ k, k ≤ 100 → InsWf (hazL O0 f k)
  | 0, _ => fun x hx => by simp [hazL] at hx
  | k + 1, h => fun x hx => by
    simp only [hazL, List.mem_append] at hx
    rcases hx with hx | hx
    · exact hazL_wf O0 f k (by omega) x hx
    · split at hx
      · simp at hx
      · rw [List.mem_singleton.1 hx]; exact wf64' (by omega)
/-- what a row does if none is late, and if one is -/
structure HazAt (wd hi row : Int) (l : List Pc) (p : List Po) (c : List Cl) (n : Nat) (by_ : Int) (O0 : Int) (f : Nat → Int) : Prop where
  plain : ∃ lr, RowRun wd hi row l p c (zeros n) lr ∧ outsB (ticksL l lr c) 0 0 = O0
  one : ∀ i, i < n → ∃ lr, RowRun wd hi row l p c (onlyAt n i by_) lr ∧ outsB (ticksL l lr c) 0 0 = f i
def hazOk (n : Nat) (row by_ : Int) : Bool := decide (0 ≤ row ∧ row < 2 ^ n) && decide (0 ≤ by_ ∧ by_ ≤ 100)
theorem haz_pick {M O : Bool} {wd hi row by_ : Int} {l : List Pc} {p : List Po} {c : List Cl} (hM : M = machOk wd hi l p c) (hO : O = hazOk p.length row by_) :
    ∃ (O0 : Int) (f : Nat → Int) (T : List Int), (M = true → O = true → HazAt wd hi row l p c p.length by_ O0 f ∧ hazL O0 f p.length = T) ∧ InsWf T ∧ T.length ≤ 1048576 := by
  by_cases h : M = true ∧ O = true
  · obtain ⟨rfl, rfl⟩ := h
    have ho : (0 ≤ row ∧ row < 2 ^ p.length) ∧ (0 ≤ by_ ∧ by_ ≤ 100) := by have := hO.symm; unfold hazOk at this; simpa using this
    obtain ⟨lr0, h0⟩ := row_exists row hM.symm (zeros_late p.length)
    have hex := fun i => row_exists row hM.symm (onlyAt_late (n := p.length) (i := i) ho.2)
    have h6 := (machOk_parts hM.symm).2.1.2.1
    refine ⟨outsB (ticksL l lr0 c) 0 0, fun i => outsB (ticksL l (Classical.choose (hex i)) c) 0 0, _, fun _ _ => ⟨⟨⟨lr0, h0, rfl⟩, fun i _ => ⟨_, Classical.choose_spec (hex i), rfl⟩⟩, rfl⟩, hazL_wf _ _ _ (by omega), ?_⟩
    have := hazL_len (outsB (ticksL l lr0 c) 0 0) (fun i => outsB (ticksL l (Classical.choose (hex i)) c) 0 0) p.length
    omega
  · exact ⟨0, fun _ => 0, [], fun h1 h2 => absurd ⟨h1, h2⟩ h, fun x hx => by simp at hx, by simp⟩
end Go.Proofs.YthohngkdfhpieaaGreatDoor
