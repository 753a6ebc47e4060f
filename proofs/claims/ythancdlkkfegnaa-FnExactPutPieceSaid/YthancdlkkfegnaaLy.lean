/- The program's layout of a board. -/
import Derived.Test.YthancdlkkfegnaaMp
import Derived.Test.YthancdlkkfegnaaOk
namespace Go.Proofs.Ythancdlkkfegnaa
open Go.ChangeShapes Go.WideShapes Go.ChangeAt Go.RowKit
set_option linter.unusedVariables false

theorem MapAt.below {W w' : World} {B : Nat} {l : List Pc} (h : MapAt W B l) (hb : Below W.heap.size W w') : MapAt w' B l := by
  obtain ⟨es, c, h1, h2⟩ := h
  exact ⟨es, c, (hb.block B (Array.getElem?_eq_some_iff.1 h1).1).trans h1, h2⟩
theorem findFrom_ge (x y : Int) : ∀ (l : List Pc) (j : Int), findFrom x y l j = -1 ∨ j ≤ findFrom x y l j
  | [], _ => .inl rfl
  | p :: l, j => by
    unfold findFrom
    split
    · right; omega
    · rcases findFrom_ge x y l (j + 1) with h | h
      · exact .inl h
      · right; omega

set_option maxHeartbeats 2000000 in
theorem indexAt_any (wd hi x y : Int) (B : Nat) (l : List Pc) (w : World) (h : MapAt w B l) :
    Calls Try.prog 73 #[.agg #[.int .i8 wd, .int .i8 hi, .map (some B)], .agg #[.int .i8 x, .int .i8 y]] w fun e w' => e = .returned (.int .i64 (findFrom x y l 0)) ∧ Below w.heap.size w w' := by
  have hk : Below w.heap.size w ((w.alloc (.cells #[.int .i8 wd, .int .i8 hi, .map (some B)] 94)).alloc (.cells #[.int .i8 x, .int .i8 y] 38)) := by repeat (first | with_reducible exact Below.refl _ _ | (with_reducible refine kSet ?_ ?hB _; case hB => (simp; try omega)) | with_reducible refine kAlloc ?_ _ | with_reducible refine Below.drew ?_ | with_reducible refine kDrewN ?_ _ | with_reducible refine kTrans ?_ (by assumption))
  have hl := run_lookup_cells x y _ B l (h.below hk)
  unfold cellV at hl
  have hf := findFrom_ge x y l 0
  generalize findFrom x y l 0 = f at hl hf
  by_cases h0 : f < 0
  · obtain rfl : f = -1 := by omega
    simp only [show (-1 : Int) < 0 by decide, if_true, show decide ((0 : Int) ≤ -1) = false by decide] at hl
    clear hf h0 h hk
    go_enter Try.func73, Try.ntmps73
    go_wp2
    go_ret
    exact ⟨rfl, by repeat (first | with_reducible exact Below.refl _ _ | (with_reducible refine kSet ?_ ?hB _; case hB => (simp; try omega)) | with_reducible refine kAlloc ?_ _ | with_reducible refine Below.drew ?_ | with_reducible refine kDrewN ?_ _ | with_reducible refine kTrans ?_ (by assumption))⟩
  · have h1 : 0 ≤ f := by omega
    rw [if_neg h0, show decide (0 ≤ f) = true by simpa using h1] at hl
    clear hf h0 h hk
    go_enter Try.func73, Try.ntmps73
    go_wp2
    go_ret
    exact ⟨rfl, by repeat (first | with_reducible exact Below.refl _ _ | (with_reducible refine kSet ?_ ?hB _; case hB => (simp; try omega)) | with_reducible refine kAlloc ?_ _ | with_reducible refine Below.drew ?_ | with_reducible refine kDrewN ?_ _ | with_reducible refine kTrans ?_ (by assumption))⟩
set_option maxHeartbeats 2000000 in
theorem allowed_any (wd hi : Int) (w : World) (b : Bool) (hb : b = decide (1 ≤ wd ∧ wd ≤ 24 ∧ 1 ≤ hi ∧ hi ≤ 24)) :
    Calls Try.prog 105 #[.agg #[.int .i8 wd, .int .i8 hi]] w fun e w' => e = .returned (.bool b) ∧ Below w.heap.size w w' := by
  by_cases h1 : 1 ≤ wd
  · by_cases h2 : wd ≤ 24
    · by_cases h3 : 1 ≤ hi
      · by_cases h4 : hi ≤ 24
        · obtain rfl : b = true := by rw [hb]; simp; omega
          clear hb
          go_enter Try.func105, Try.ntmps105
          go_wp2
          go_ret
          exact ⟨rfl, by repeat (first | with_reducible exact Below.refl _ _ | (with_reducible refine kSet ?_ ?hB _; case hB => (simp; try omega)) | with_reducible refine kAlloc ?_ _ | with_reducible refine Below.drew ?_ | with_reducible refine kDrewN ?_ _ | with_reducible refine kTrans ?_ (by assumption))⟩
        · obtain rfl : b = false := by rw [hb]; simp; omega
          have h4' : decide (hi ≤ 24) = false := by simp; omega
          clear hb h4
          go_enter Try.func105, Try.ntmps105
          go_wp2
          go_ret
          exact ⟨rfl, by repeat (first | with_reducible exact Below.refl _ _ | (with_reducible refine kSet ?_ ?hB _; case hB => (simp; try omega)) | with_reducible refine kAlloc ?_ _ | with_reducible refine Below.drew ?_ | with_reducible refine kDrewN ?_ _ | with_reducible refine kTrans ?_ (by assumption))⟩
      · obtain rfl : b = false := by rw [hb]; simp; omega
        have h3' : decide (1 ≤ hi) = false := by simp; omega
        clear hb h3
        go_enter Try.func105, Try.ntmps105
        go_wp2
        go_ret
        exact ⟨rfl, by repeat (first | with_reducible exact Below.refl _ _ | (with_reducible refine kSet ?_ ?hB _; case hB => (simp; try omega)) | with_reducible refine kAlloc ?_ _ | with_reducible refine Below.drew ?_ | with_reducible refine kDrewN ?_ _ | with_reducible refine kTrans ?_ (by assumption))⟩
    · obtain rfl : b = false := by rw [hb]; simp; omega
      have h2' : decide (wd ≤ 24) = false := by simp; omega
      clear hb h2
      go_enter Try.func105, Try.ntmps105
      go_wp2
      go_ret
      exact ⟨rfl, by repeat (first | with_reducible exact Below.refl _ _ | (with_reducible refine kSet ?_ ?hB _; case hB => (simp; try omega)) | with_reducible refine kAlloc ?_ _ | with_reducible refine Below.drew ?_ | with_reducible refine kDrewN ?_ _ | with_reducible refine kTrans ?_ (by assumption))⟩
  · obtain rfl : b = false := by rw [hb]; simp; omega
    have h1' : decide (1 ≤ wd) = false := by simp; omega
    clear hb h1
    go_enter Try.func105, Try.ntmps105
    go_wp2
    go_ret
    exact ⟨rfl, by repeat (first | with_reducible exact Below.refl _ _ | (with_reducible refine kSet ?_ ?hB _; case hB => (simp; try omega)) | with_reducible refine kAlloc ?_ _ | with_reducible refine Below.drew ?_ | with_reducible refine kDrewN ?_ _ | with_reducible refine kTrans ?_ (by assumption))⟩
end Go.Proofs.Ythancdlkkfegnaa
