/- The lines of a text with their ends, as strings.Lines hands them on. -/
import Derived.Test.YthngnbaoaeomeaaDoorRd0
import Derived.Lib.IndexLaws
namespace Go.Proofs.YthngnbaoaeomeaaDoor
open Go.ChangeShapes Go.WideShapes Go.ChangeAt Go.RowKit Go.Joins Go.Deep
set_option linter.unusedVariables false
set_option linter.unusedSimpArgs false

def lns : List UInt8 → List (List UInt8)
  | [] => []
  | b :: l => if b = 10 then [10] :: lns l else (b :: (lns l).headD []) :: (lns l).tail
theorem lns_nil : lns [] = [] := rfl
theorem lns_nl (l : List UInt8) : lns (10 :: l) = [10] :: lns l := by rw [lns, if_pos rfl]
theorem lns_ne {b : UInt8} (h : b ≠ 10) (l : List UInt8) : lns (b :: l) = (b :: (lns l).headD []) :: (lns l).tail := by rw [lns, if_neg h]
theorem lns_at : ∀ {x : List UInt8} (t : List UInt8), (10 : UInt8) ∉ x → lns (x ++ 10 :: t) = (x ++ [10]) :: lns t
  | [], t, _ => lns_nl t
  | b :: x, t, h => by
    have hb : b ≠ 10 := fun e => h (by rw [e]; exact List.mem_cons_self ..)
    rw [List.cons_append, lns_ne hb, lns_at t (fun hx => h (List.mem_cons_of_mem _ hx))]
    rfl
theorem lns_end : ∀ {x : List UInt8}, x ≠ [] → (10 : UInt8) ∉ x → lns x = [x]
  | [b], _, h => by
    have hb : b ≠ 10 := fun e => h (by rw [e]; exact List.mem_cons_self ..)
    rw [lns_ne hb]; rfl
  | b :: c :: x, _, h => by
    have hb : b ≠ 10 := fun e => h (by rw [e]; exact List.mem_cons_self ..)
    rw [lns_ne hb, lns_end (x := c :: x) (by simp) (fun hx => h (List.mem_cons_of_mem _ hx))]
    rfl
theorem lns_flat : ∀ {xs : List (List UInt8)}, (∀ x ∈ xs, (10 : UInt8) ∉ x) → lns (xs.flatMap (endC 10)) = xs.map (endC 10)
  | [], _ => rfl
  | x :: xs, h => by
    rw [List.flatMap_cons, List.map_cons]
    have ih := lns_flat (xs := xs) (fun y hy => h y (List.mem_cons_of_mem _ hy))
    have e : endC 10 x ++ xs.flatMap (endC 10) = x ++ 10 :: xs.flatMap (endC 10) := by unfold endC; simp
    rw [e, lns_at _ (h x (List.mem_cons_self ..)), ih]
    rfl
theorem lns_length : ∀ l : List UInt8, (lns l).length ≤ l.length
  | [] => Nat.le_refl _
  | b :: l => by
    have ih := lns_length l
    by_cases h : b = 10
    · subst h; rw [lns_nl]; simp only [List.length_cons]; omega
    · rw [lns_ne h]; simp only [List.length_cons, List.length_tail]; omega
theorem lns_short : ∀ l : List UInt8, ∀ x ∈ lns l, x.length ≤ l.length
  | [], x, hx => by simp [lns] at hx
  | b :: l, x, hx => by
    have ih := lns_short l
    by_cases h : b = 10
    · subst h
      rw [lns_nl] at hx
      rcases List.mem_cons.1 hx with rfl | hx
      · simp
      · have := ih x hx; simp only [List.length_cons]; omega
    · rw [lns_ne h] at hx
      rcases List.mem_cons.1 hx with rfl | hx
      · cases hl : lns l with
        | nil => simp
        | cons y r =>
          have := ih y (by rw [hl]; exact List.mem_cons_self ..)
          simp only [List.headD_cons, List.length_cons]
          omega
      · have := ih x (List.mem_of_mem_tail hx); simp only [List.length_cons]; omega
theorem lns_pos {l : List UInt8} (h : l ≠ []) : lns l ≠ [] := by
  cases l with
  | nil => exact absurd rfl h
  | cons b l =>
    by_cases hb : b = 10
    · subst hb; rw [lns_nl]; simp
    · rw [lns_ne hb]; simp
/-- what stands behind k lines -/
def lnR (l : List UInt8) (k : Nat) (r : List UInt8) : Prop := lns r = (lns l).drop k ∧ r.length ≤ l.length
theorem lnR_zero (l : List UInt8) : lnR l 0 l := ⟨by simp, Nat.le_refl _⟩
theorem lnR_end {l r : List UInt8} {k : Nat} (h : lnR l k r) : r = [] ↔ (lns l).length ≤ k := by
  constructor
  · intro e
    subst e
    have := congrArg List.length h.1
    rw [lns_nil, List.length_drop] at this
    simp at this
    omega
  · intro hk
    by_cases e : r = []
    · exact e
    · exact absurd (by rw [h.1]; exact List.drop_of_length_le hk) (lns_pos e)
theorem lnR_lt {l r : List UInt8} {k : Nat} (h : lnR l k r) (hr : r ≠ []) : k < (lns l).length := by
  by_cases hk : k < (lns l).length
  · exact hk
  · exact absurd ((lnR_end h).2 (by omega)) hr
def lnX (l : List UInt8) (k : Nat) : List UInt8 := (lns l).getD k []
theorem lnX_short (l : List UInt8) (k : Nat) : (lnX l k).length ≤ l.length := by
  unfold lnX
  rw [List.getD_eq_getElem?_getD]
  cases h : (lns l)[k]? with
  | none => simp
  | some x => exact lns_short l x (List.mem_of_getElem? h)
theorem lnR_step {l r x t : List UInt8} {k : Nat} (h : lnR l k r) (hr : r = x ++ 10 :: t) (hx : (10 : UInt8) ∉ x) : lnX l k = x ++ [10] ∧ lnR l (k + 1) t := by
  have e : (lns l).drop k = (x ++ [10]) :: lns t := by rw [← h.1, hr, lns_at _ hx]
  refine ⟨?_, ?_, ?_⟩
  · unfold lnX
    have := congrArg (fun z => z[0]?) e
    simp only [List.getElem?_drop, Nat.add_zero, List.getElem?_cons_zero] at this
    rw [List.getD_eq_getElem?_getD, this]; rfl
  · have := congrArg List.tail e
    rw [List.tail_cons, List.tail_drop] at this
    exact this.symm
  · have h2 := h.2
    rw [hr] at h2
    simp only [List.length_append, List.length_cons] at h2
    omega
theorem lnR_last {l r : List UInt8} {k : Nat} (h : lnR l k r) (hr : r ≠ []) (hx : (10 : UInt8) ∉ r) : lnX l k = r ∧ lnR l (k + 1) [] := by
  have e : (lns l).drop k = [r] := by rw [← h.1, lns_end hr hx]
  refine ⟨?_, ?_, Nat.zero_le _⟩
  · unfold lnX
    have := congrArg (fun z => z[0]?) e
    simp only [List.getElem?_drop, Nat.add_zero, List.getElem?_cons_zero] at this
    rw [List.getD_eq_getElem?_getD, this]; rfl
  · have := congrArg List.tail e
    rw [List.tail_cons, List.tail_drop] at this
    exact this.symm
theorem idx_some {r : List UInt8} {i : Nat} (h : Lib.indexByte r 10 = (i : Int)) : ∃ x t, r = x ++ 10 :: t ∧ (10 : UInt8) ∉ x ∧ x.length = i := by
  obtain ⟨h1, h2⟩ := Lib.indexByte_some h
  have hi : i < r.length := (List.getElem?_eq_some_iff.1 h1).1
  refine ⟨r.take i, r.drop (i + 1), ?_, ?_, by rw [List.length_take]; omega⟩
  · have e : r.drop i = 10 :: r.drop (i + 1) := by
      rw [List.drop_eq_getElem_cons hi, (List.getElem?_eq_some_iff.1 h1).2]
    rw [← e, List.take_append_drop]
  · intro hm
    obtain ⟨j, hj, e⟩ := List.mem_iff_getElem.1 hm
    rw [List.length_take] at hj
    rw [List.getElem_take] at e
    exact h2 j (by omega) (by rw [List.getElem?_eq_getElem (by omega), e])
theorem idx_none {r : List UInt8} (h : Lib.indexByte r 10 = -1) : (10 : UInt8) ∉ r := by
  intro hm
  obtain ⟨j, hj, e⟩ := List.mem_iff_getElem.1 hm
  exact Lib.indexByte_none h j (by rw [List.getElem?_eq_getElem hj, e])
theorem trim_end (x : List UInt8) : Lib.trimSuffix (x ++ [10]) [10] = x := by
  unfold Lib.trimSuffix Lib.hasSuffix
  rw [if_pos (List.isSuffixOf_iff_suffix.2 (List.suffix_append x [10]))]
  simp
theorem trim_short (x : List UInt8) : (Lib.trimSuffix x [10]).length ≤ x.length := by
  unfold Lib.trimSuffix
  split
  · rw [List.length_take]; omega
  · exact Nat.le_refl _
end Go.Proofs.YthngnbaoaeomeaaDoor
