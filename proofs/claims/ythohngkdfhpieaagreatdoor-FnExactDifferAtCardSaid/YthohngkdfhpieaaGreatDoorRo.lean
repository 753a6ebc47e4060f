/- RowWith: both sides. -/
import Derived.Test.YthohngkdfhpieaaGreatDoorAn
namespace Go.Proofs.YthohngkdfhpieaaGreatDoor
open Go.ChangeShapes Go.WideShapes Go.ChangeAt Go.RowKit Go.Shelf Go.Joins Go.Deep
set_option linter.unusedVariables false
set_option linter.unusedSimpArgs false

def firstI (x : Int) : List Int → Int → Int
  | [], _ => -1
  | y :: l, j => if x = y then j else firstI x l (j + 1)
theorem firstI_ge (x : Int) : ∀ (l : List Int) (j : Int), firstI x l j = -1 ∨ j ≤ firstI x l j
  | [], _ => .inl rfl
  | y :: l, j => by
    unfold firstI
    split
    · exact .inr (Int.le_refl _)
    · rcases firstI_ge x l (j + 1) with h | h
      · exact .inl h
      · exact .inr (by omega)
theorem wrap_pred {pr : Int} (h : 1 ≤ pr ∧ pr ≤ 256) : wrap64 (pr - 1) = pr - 1 := by unfold wrap64; omega
theorem wrap_two {r : Nat} {pr : Int} (h8 : r ≤ 8) (h : (2 : Int) ^ r = pr) : wrap64 (2 ^ r) = pr := by rw [shl1_lt h8]; exact h
theorem row_range {x pr : Int} : decide (0 ≤ x ∧ x < pr) = decide (0 ≤ x ∧ x ≤ pr - 1) := by rw [Bool.eq_iff_iff]; simp only [decide_eq_true_eq]; omega
def rwQ (M O : Bool) (f : Int) : Int × Int := if M = true then (if O = true then (if f < 0 then (0, 6) else (f, 0)) else (0, 2)) else (0, 1)
theorem pair_RW {a b c d : Int} (h : (a, b) = (c, d)) : a = c ∧ b = d := by injection h with h1 h2; exact ⟨h1, h2⟩
theorem slIn_some {w : World} {T : List Int} {va : Option Addr} {vc N : Nat} (h : SlIn w T (.slice va N vc)) (h0 : 0 < T.length) : ∃ g o, va = some ⟨g, o, none⟩ ∧ InsAt w g o T ∧ g < w.heap.size ∧ T.length ≤ vc ∧ N = T.length := by
  generalize hv : Value.slice va N vc = v at h
  cases h with
  | empty _ _ h => rw [h] at h0; simp at h0
  | mk g o c h1 h2 h3 => cases hv; exact ⟨_, _, rfl, h1, h2, h3, rfl⟩
theorem isBelow_lit (row : Int) (w : World) (c m : Int) (hc : c = 7 ∧ m = 128 ∨ c = 8 ∧ m = 256) (b : Bool) (hb : b = decide (0 ≤ row ∧ row < m)) :
    Calls Tryz.prog 118 #[.int .i64 row, .int .i64 c] w fun e w' => e = .returned (.bool b) ∧ w = w' := by
  by_cases h1 : 0 ≤ row
  · by_cases h2 : row < m
    · obtain rfl : b = true := by rw [hb]; simp [h1, h2]
      clear hb
      rcases hc with ⟨rfl, rfl⟩ | ⟨rfl, rfl⟩ <;> (go_enter Tryz.func118, Tryz.ntmps118; go_wp2; go_ret; exact ⟨rfl, rfl⟩)
    · obtain rfl : b = false := by rw [hb]; simp [h2]
      clear hb
      have h3 : decide (row < m) = false := by simpa using h2
      rcases hc with ⟨rfl, rfl⟩ | ⟨rfl, rfl⟩ <;> (go_enter Tryz.func118, Tryz.ntmps118; go_wp2; go_ret; exact ⟨rfl, rfl⟩)
  · obtain rfl : b = false := by rw [hb]; simp [h1]
    have h1' : decide (0 ≤ row) = false := by simp; omega
    clear hb h1 hc
    go_enter Tryz.func118, Tryz.ntmps118
    go_wp2
    go_ret
    exact ⟨rfl, rfl⟩
theorem isBelow8_any (row : Int) (n : Nat) (w : World) (hn : n ≤ 8) (b : Bool) (hb : b = decide (0 ≤ row ∧ row < 2 ^ n)) :
    Calls Tryz.prog 118 #[.int .i64 row, .int .i64 n] w fun e w' => e = .returned (.bool b) ∧ w = w' := by
  by_cases h6 : n ≤ 6
  · exact isBelowPower_any row n w h6 b hb
  · have hc : n = 7 ∨ n = 8 := by omega
    rcases hc with rfl | rfl
    · exact isBelow_lit row w 7 128 (.inl ⟨rfl, rfl⟩) b hb
    · exact isBelow_lit row w 8 256 (.inr ⟨rfl, rfl⟩) b hb
end Go.Proofs.YthohngkdfhpieaaGreatDoor
