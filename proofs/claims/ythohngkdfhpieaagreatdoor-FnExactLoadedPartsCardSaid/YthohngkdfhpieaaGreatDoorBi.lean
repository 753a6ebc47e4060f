/- Ones in rows: hasOne, isBelowPower, hasRow, isLate; the model's rows. -/
import Derived.Test.YthohngkdfhpieaaGreatDoorDv
namespace Go.Proofs.YthohngkdfhpieaaGreatDoor
open Go.ChangeShapes Go.WideShapes Go.ChangeAt Go.RowKit Go.Joins Go.Deep
set_option linter.unusedVariables false
set_option linter.unusedSimpArgs false

/-- the i-th digit of a row is a 1 -/
def bitB (row : Int) (i : Nat) : Bool := Go.bits .and .i64 (row / 2 ^ i) 1 == 1
theorem isLate_any (n : Int) (w : World) (b : Bool) (hb : b = decide (0 ≤ n ∧ n ≤ 100)) :
    Calls Tryz.prog 64 #[.int .i64 n] w fun e w' => e = .returned (.bool b) ∧ w = w' := by
  by_cases h1 : 0 ≤ n
  · by_cases h2 : n ≤ 100
    · obtain rfl : b = true := by rw [hb]; simp; omega
      clear hb
      go_enter Tryz.func64, Tryz.ntmps64
      go_wp2
      go_ret
      exact ⟨rfl, rfl⟩
    · obtain rfl : b = false := by rw [hb]; simp; omega
      have h2' : decide (n ≤ 100) = false := by simp; omega
      clear hb h2
      go_enter Tryz.func64, Tryz.ntmps64
      go_wp2
      go_ret
      exact ⟨rfl, rfl⟩
  · obtain rfl : b = false := by rw [hb]; simp; omega
    have h1' : decide (0 ≤ n) = false := by simp; omega
    clear hb h1
    go_enter Tryz.func64, Tryz.ntmps64
    go_wp2
    go_ret
    exact ⟨rfl, rfl⟩
theorem hasOne_any (row : Int) (i : Nat) (w : World) (h0 : 0 ≤ row) (hm : row ≤ 9223372036854775807) (hi : i ≤ 64) :
    Calls Tryz.prog 96 #[.int .i64 row, .int .i64 i] w fun e w' => e = .returned (.bool (bitB row i)) ∧ w = w' := by
  have hi0 : (0 : Int) ≤ (i : Int) := by omega
  have hi1 : (i : Int) ≤ 64 := by omega
  have e : (i : Int).toNat = i := by simp
  unfold bitB
  go_enter Tryz.func96, Tryz.ntmps96
  go_wp2
  go_ret
  exact ⟨rfl, rfl⟩
theorem isBelowPower_key (row : Int) (w : World) (c m : Int) (hc : c = 0 ∧ m = 1 ∨ c = 1 ∧ m = 2 ∨ c = 2 ∧ m = 4 ∨ c = 3 ∧ m = 8 ∨ c = 4 ∧ m = 16 ∨ c = 5 ∧ m = 32 ∨ c = 6 ∧ m = 64) (b : Bool) (hb : b = decide (0 ≤ row ∧ row < m)) :
    Calls Tryz.prog 118 #[.int .i64 row, .int .i64 c] w fun e w' => e = .returned (.bool b) ∧ w = w' := by
  by_cases h1 : 0 ≤ row
  · by_cases h2 : row < m
    · obtain rfl : b = true := by rw [hb]; simp [h1, h2]
      clear hb
      rcases hc with ⟨rfl, rfl⟩ | ⟨rfl, rfl⟩ | ⟨rfl, rfl⟩ | ⟨rfl, rfl⟩ | ⟨rfl, rfl⟩ | ⟨rfl, rfl⟩ | ⟨rfl, rfl⟩ <;> (go_enter Tryz.func118, Tryz.ntmps118; go_wp2; go_ret; exact ⟨rfl, rfl⟩)
    · obtain rfl : b = false := by rw [hb]; simp [h2]
      clear hb
      have h3 : decide (row < m) = false := by simpa using h2
      rcases hc with ⟨rfl, rfl⟩ | ⟨rfl, rfl⟩ | ⟨rfl, rfl⟩ | ⟨rfl, rfl⟩ | ⟨rfl, rfl⟩ | ⟨rfl, rfl⟩ | ⟨rfl, rfl⟩ <;> (go_enter Tryz.func118, Tryz.ntmps118; go_wp2; go_ret; exact ⟨rfl, rfl⟩)
  · obtain rfl : b = false := by rw [hb]; simp [h1]
    have h1' : decide (0 ≤ row) = false := by simp; omega
    clear hb h1 hc
    go_enter Tryz.func118, Tryz.ntmps118
    go_wp2
    go_ret
    exact ⟨rfl, rfl⟩
theorem pow_key {n : Nat} (hn : n ≤ 6) : (n : Int) = 0 ∧ (2 : Int) ^ n = 1 ∨ (n : Int) = 1 ∧ (2 : Int) ^ n = 2 ∨ (n : Int) = 2 ∧ (2 : Int) ^ n = 4 ∨ (n : Int) = 3 ∧ (2 : Int) ^ n = 8 ∨ (n : Int) = 4 ∧ (2 : Int) ^ n = 16 ∨ (n : Int) = 5 ∧ (2 : Int) ^ n = 32 ∨ (n : Int) = 6 ∧ (2 : Int) ^ n = 64 := by
  have hc : n = 0 ∨ n = 1 ∨ n = 2 ∨ n = 3 ∨ n = 4 ∨ n = 5 ∨ n = 6 := by omega
  rcases hc with rfl | rfl | rfl | rfl | rfl | rfl | rfl <;> decide
theorem isBelowPower_any (row : Int) (n : Nat) (w : World) (hn : n ≤ 6) (b : Bool) (hb : b = decide (0 ≤ row ∧ row < 2 ^ n)) :
    Calls Tryz.prog 118 #[.int .i64 row, .int .i64 n] w fun e w' => e = .returned (.bool b) ∧ w = w' :=
  isBelowPower_key row w n (2 ^ n) (pow_key hn) b hb
theorem l04Rows_key (w : World) (c m : Int) (hc : c = 0 ∧ m = 1 ∨ c = 1 ∧ m = 2 ∨ c = 2 ∧ m = 4 ∨ c = 3 ∧ m = 8 ∨ c = 4 ∧ m = 16 ∨ c = 5 ∧ m = 32 ∨ c = 6 ∧ m = 64) :
    Calls Tryz.prog 74 #[.int .i64 c] w fun e w' => e = .returned (.int .i64 m) ∧ w = w' := by
  rcases hc with ⟨rfl, rfl⟩ | ⟨rfl, rfl⟩ | ⟨rfl, rfl⟩ | ⟨rfl, rfl⟩ | ⟨rfl, rfl⟩ | ⟨rfl, rfl⟩ | ⟨rfl, rfl⟩ <;> (go_enter Tryz.func74, Tryz.ntmps74; go_wp2; go_ret; exact ⟨rfl, rfl⟩)
theorem l04Rows_any (n : Nat) (w : World) (hn : n ≤ 6) : Calls Tryz.prog 74 #[.int .i64 n] w fun e w' => e = .returned (.int .i64 (2 ^ n)) ∧ w = w' :=
  l04Rows_key w n (2 ^ n) (pow_key hn)
theorem l03Rows_any (bb n : Nat) (wd hi : Int) (v u : Value) (a1 : Option Addr) (d1 : Nat) (w : World) (hm : McAt w bb wd hi v (.slice a1 n d1) u) (hn : n ≤ 6) :
    Calls Tryz.prog 32 #[.pointer (some ⟨bb, 0, none⟩)] w fun e w' => e = .returned (.int .i64 (2 ^ n)) ∧ w = w' := by
  have H := Lib.hid (l04Rows_any n w hn)
  obtain ⟨x0, x1, x2, x3, x4⟩ := hm
  obtain ⟨m, hm⟩ : ∃ m : Int, m = 2 ^ n := ⟨_, rfl⟩
  rw [← hm] at H ⊢
  clear hm
  go_enter Tryz.func32, Tryz.ntmps32
  go_wp2_with fail
  refine H.out.mono ?_
  rintro e w1 ⟨rfl, rfl⟩
  go_wp2
  go_ret
  exact ⟨rfl, rfl⟩
end Go.Proofs.YthohngkdfhpieaaGreatDoor
