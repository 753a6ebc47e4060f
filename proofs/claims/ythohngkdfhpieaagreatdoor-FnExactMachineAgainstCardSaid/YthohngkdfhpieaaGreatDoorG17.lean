/- Several texts in one: Bi, Ld, Ls, Pl, Pi. -/
import Derived.Test.YthohngkdfhpieaaGreatDoorDv
import Derived.Test.YthohngkdfhpieaaGreatDoorDo
import Derived.Test.YthohngkdfhpieaaGreatDoorIn
import Derived.Test.YthohngkdfhpieaaGreatDoorMs
import Derived.Test.YthohngkdfhpieaaGreatDoorG7
import Derived.Test.YthohngkdfhpieaaGreatDoorG4
import Derived.Deep.RegionHeldLaw
/- Ones in rows: hasOne, isBelowPower, hasRow, isLate; the model's rows. -/
namespace Go.Proofs.YthohngkdfhpieaaGreatDoor
open Go.ChangeShapes Go.WideShapes Go.ChangeAt Go.RowKit Go.Joins Go.Deep
set_option linter.unusedVariables false
set_option linter.unusedSimpArgs false

/-- the i-th digit of a row is a 1 -/
def bitB (row : Int) (i : Nat) : Bool := Go.bits .and .i64 (row / 2 ^ i) 1 == 1
theorem hasOne_any (row : Int) (i : Nat) (w : World) (h0 : 0 ≤ row) (hm : row ≤ 9223372036854775807) (hi : i ≤ 64) :
    Calls Tryz.prog 96 #[.int .i64 row, .int .i64 i] w fun e w' => e = .returned (.bool (bitB row i)) ∧ w = w' := by
  have hi0 : (0 : Int) ≤ (i : Int) := by omega
  have hi1 : (i : Int) ≤ 64 := by omega
  have e : (i : Int).toNat = i := by simp
  unfold bitB
  go_enter Tryz.func96, Tryz.ntmps96
  go_wp2
  go_ret
  exact ⟨rfl, rfl⟩
theorem isBelowPower_key (row : Int) (w : World) (c m : Int) (hc : c = 0 ∧ m = 1 ∨ c = 1 ∧ m = 2 ∨ c = 2 ∧ m = 4 ∨ c = 3 ∧ m = 8 ∨ c = 4 ∧ m = 16 ∨ c = 5 ∧ m = 32 ∨ c = 6 ∧ m = 64) (b : Bool) (hb : b = decide (0 ≤ row ∧ row < m)) :
    Calls Tryz.prog 118 #[.int .i64 row, .int .i64 c] w fun e w' => e = .returned (.bool b) ∧ w = w' := by
  by_cases h1 : 0 ≤ row
  · by_cases h2 : row < m
    · obtain rfl : b = true := by rw [hb]; simp [h1, h2]
      clear hb
      rcases hc with ⟨rfl, rfl⟩ | ⟨rfl, rfl⟩ | ⟨rfl, rfl⟩ | ⟨rfl, rfl⟩ | ⟨rfl, rfl⟩ | ⟨rfl, rfl⟩ | ⟨rfl, rfl⟩ <;> (go_enter Tryz.func118, Tryz.ntmps118; go_wp2; go_ret; exact ⟨rfl, rfl⟩)
    · obtain rfl : b = false := by rw [hb]; simp [h2]
      clear hb
      have h3 : decide (row < m) = false := by simpa using h2
      rcases hc with ⟨rfl, rfl⟩ | ⟨rfl, rfl⟩ | ⟨rfl, rfl⟩ | ⟨rfl, rfl⟩ | ⟨rfl, rfl⟩ | ⟨rfl, rfl⟩ | ⟨rfl, rfl⟩ <;> (go_enter Tryz.func118, Tryz.ntmps118; go_wp2; go_ret; exact ⟨rfl, rfl⟩)
  · obtain rfl : b = false := by rw [hb]; simp [h1]
    have h1' : decide (0 ≤ row) = false := by simp; omega
    clear hb h1 hc
    go_enter Tryz.func118, Tryz.ntmps118
    go_wp2
    go_ret
    exact ⟨rfl, rfl⟩
theorem pow_key {n : Nat} (hn : n ≤ 6) : (n : Int) = 0 ∧ (2 : Int) ^ n = 1 ∨ (n : Int) = 1 ∧ (2 : Int) ^ n = 2 ∨ (n : Int) = 2 ∧ (2 : Int) ^ n = 4 ∨ (n : Int) = 3 ∧ (2 : Int) ^ n = 8 ∨ (n : Int) = 4 ∧ (2 : Int) ^ n = 16 ∨ (n : Int) = 5 ∧ (2 : Int) ^ n = 32 ∨ (n : Int) = 6 ∧ (2 : Int) ^ n = 64 := by
  have hc : n = 0 ∨ n = 1 ∨ n = 2 ∨ n = 3 ∨ n = 4 ∨ n = 5 ∨ n = 6 := by omega
  rcases hc with rfl | rfl | rfl | rfl | rfl | rfl | rfl <;> decide
theorem isBelowPower_any (row : Int) (n : Nat) (w : World) (hn : n ≤ 6) (b : Bool) (hb : b = decide (0 ≤ row ∧ row < 2 ^ n)) :
    Calls Tryz.prog 118 #[.int .i64 row, .int .i64 n] w fun e w' => e = .returned (.bool b) ∧ w = w' :=
  isBelowPower_key row w n (2 ^ n) (pow_key hn) b hb
theorem l04Rows_key (w : World) (c m : Int) (hc : c = 0 ∧ m = 1 ∨ c = 1 ∧ m = 2 ∨ c = 2 ∧ m = 4 ∨ c = 3 ∧ m = 8 ∨ c = 4 ∧ m = 16 ∨ c = 5 ∧ m = 32 ∨ c = 6 ∧ m = 64) :
    Calls Tryz.prog 74 #[.int .i64 c] w fun e w' => e = .returned (.int .i64 m) ∧ w = w' := by
  rcases hc with ⟨rfl, rfl⟩ | ⟨rfl, rfl⟩ | ⟨rfl, rfl⟩ | ⟨rfl, rfl⟩ | ⟨rfl, rfl⟩ | ⟨rfl, rfl⟩ | ⟨rfl, rfl⟩ <;> (go_enter Tryz.func74, Tryz.ntmps74; go_wp2; go_ret; exact ⟨rfl, rfl⟩)
theorem l04Rows_any (n : Nat) (w : World) (hn : n ≤ 6) : Calls Tryz.prog 74 #[.int .i64 n] w fun e w' => e = .returned (.int .i64 (2 ^ n)) ∧ w = w' :=
  l04Rows_key w n (2 ^ n) (pow_key hn)
theorem l03Rows_any (bb n : Nat) (wd hi : Int) (v u : Value) (a1 : Option Addr) (d1 : Nat) (w : World) (hm : McAt w bb wd hi v (.slice a1 n d1) u) (hn : n ≤ 6) :
    Calls Tryz.prog 32 #[.pointer (some ⟨bb, 0, none⟩)] w fun e w' => e = .returned (.int .i64 (2 ^ n)) ∧ w = w' := by
  have H := Lib.hid (l04Rows_any n w hn)
  obtain ⟨x0, x1, x2, x3, x4⟩ := hm
  obtain ⟨m, hm⟩ : ∃ m : Int, m = 2 ^ n := ⟨_, rfl⟩
  rw [← hm] at H ⊢
  clear hm
  go_enter Tryz.func32, Tryz.ntmps32
  go_wp2_with fail
  refine H.out.mono ?_
  rintro e w1 ⟨rfl, rfl⟩
  go_wp2
  go_ret
  exact ⟨rfl, rfl⟩
end Go.Proofs.YthohngkdfhpieaaGreatDoor

/- A device with the inputs' late: lateDevice. -/
namespace Go.Proofs.YthohngkdfhpieaaGreatDoor
open Go.ChangeShapes Go.WideShapes Go.ChangeAt Go.RowKit Go.Joins Go.Deep
set_option linter.unusedVariables false
set_option linter.unusedSimpArgs false

def lateAll (t : List Int) : Bool := t.all fun x => decide (0 ≤ x ∧ x ≤ 100)
set_option maxRecDepth 100000 in
set_option maxHeartbeats 2000000 in
theorem hasRow_any (B : Nat) (wd hi row : Int) (a0 a1 a2 : Option Addr) (n0 n1 n2 d0 d1 d2 : Nat) (w : World) (hn : n1 ≤ 6) (R : Bool) (hR : R = decide (0 ≤ row ∧ row < 2 ^ n1)) :
    Calls Tryz.prog 87 #[.agg #[.int .i8 wd, .int .i8 hi, .map (some B), .int .i8 wd, .int .i8 hi, .slice a0 n0 d0, .slice a1 n1 d1, .slice a2 n2 d2], .int .i64 row] w fun e w' => e = .returned (.bool R) ∧ Below w.heap.size w w' := by
  have H := Lib.hid (fun w => isBelowPower_any row n1 w hn R hR)
  clear hR
  go_enter Tryz.func87, Tryz.ntmps87
  go_wp2_with fail
  refine (H.out _).mono ?_
  rintro e w1 ⟨rfl, rfl⟩
  go_wp2
  go_ret
  exact ⟨rfl, by repeat (first | with_reducible exact Below.refl _ _ | (with_reducible refine kSet ?_ ?hB _; case hB => (simp; try omega)) | with_reducible refine kAlloc ?_ _ | with_reducible refine Below.drew ?_ | with_reducible refine kDrewN ?_ _ | with_reducible refine kTrans ?_ (by assumption))⟩
end Go.Proofs.YthohngkdfhpieaaGreatDoor

/- The model's code of a machine, a row and late. -/
namespace Go.Proofs.YthohngkdfhpieaaGreatDoor
open Go.ChangeShapes Go.WideShapes Go.ChangeAt Go.RowKit Go.Joins Go.Deep
set_option linter.unusedVariables false
set_option linter.unusedSimpArgs false

end Go.Proofs.YthohngkdfhpieaaGreatDoor

/- The pushes of a row: the model. -/
namespace Go.Proofs.YthohngkdfhpieaaGreatDoor
open Go.ChangeShapes Go.WideShapes Go.ChangeAt Go.RowKit Go.Joins Go.Deep
set_option linter.unusedVariables false
set_option linter.unusedSimpArgs false

/-- the pushes of a row, from the i-th input on -/
def pushFrom (row : Int) : List Po → List Int → Nat → List Pu
  | p :: l, x :: t, i => (if bitB row i then [⟨p.x, p.y, p.side, x⟩] else []) ++ pushFrom row l t (i + 1)
  | _, _, _ => []
theorem pushFrom_len (row : Int) : ∀ (l : List Po) (t : List Int) (i : Nat), (pushFrom row l t i).length ≤ l.length
  | [], _, _ => by simp [pushFrom]
  | _ :: _, [], _ => by simp [pushFrom]
  | p :: l, x :: t, i => by
    have := pushFrom_len row l t (i + 1)
    unfold pushFrom
    split <;> simp <;> omega
theorem lateAll_get {t : List Int} (h : lateAll t = true) {i : Nat} (hi : i < t.length) : 0 ≤ t[i] ∧ t[i] ≤ 100 := by
  unfold lateAll at h
  rw [List.all_eq_true] at h
  exact of_decide_eq_true (h _ (List.getElem_mem hi))
theorem info_PuP : (Tryz.prog.info? 140).map (fun i => (i.zero, i.size, i.bytes)) = some (some (.agg #[.int .i8 0, .int .i8 0, .int .i8 0, .int .i16 0]), 4, 6) := by kernel_rfl
end Go.Proofs.YthohngkdfhpieaaGreatDoor

/- The pushes of a row: the program. -/
namespace Go.Proofs.YthohngkdfhpieaaGreatDoor
open Go.ChangeShapes Go.WideShapes Go.ChangeAt Go.RowKit Go.Joins Go.Deep
set_option linter.unusedVariables false
set_option linter.unusedSimpArgs false

theorem nil_ownsP {w : World} {base size : Nat} {e : TypeId} : w.ownsRow base e size (.slice none 0 0) 0 [] := ⟨by simp, .inl ⟨rfl, rfl⟩⟩
end Go.Proofs.YthohngkdfhpieaaGreatDoor
