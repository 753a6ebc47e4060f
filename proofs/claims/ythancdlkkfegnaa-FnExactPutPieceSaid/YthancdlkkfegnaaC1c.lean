/- Contracts of chapter 1's functions: next cells, quarters, turned pieces. -/
import Derived.Test.YthancdlkkfegnaaC1b
namespace Go.Proofs.Ythancdlkkfegnaa
open Go.ChangeShapes Go.WideShapes Go.ChangeAt Go.RowKit
set_option linter.unusedVariables false

theorem ret_int {k : IntKind} {a b : Int} (h : a = b) : Ending.returned (.int k a) = .returned (.int k b) := by rw [h]

def stepX (x s : Int) : Int := if s = 1 then x + 1 else if s = 3 then x - 1 else x
def stepY (y s : Int) : Int := if s = 0 then y - 1 else if s = 2 then y + 1 else y

set_option maxHeartbeats 2000000 in
theorem l01Next_any (x y s : Int) (w : World) (hx : -127 ≤ x ∧ x ≤ 126) (hy : -127 ≤ y ∧ y ≤ 126) (hs : 0 ≤ s ∧ s ≤ 3) :
    Calls Try.prog 107 #[.agg #[.int .i8 x, .int .i8 y], .int .i64 s] w fun e w' => e = .returned (.agg #[.int .i8 (stepX x s), .int .i8 (stepY y s)]) ∧ Below w.heap.size w w' := by
  have h : s = 0 ∨ s = 1 ∨ s = 2 ∨ s = 3 := by omega
  clear hs
  rcases h with rfl | rfl | rfl | rfl
  · go_enter Try.func107, Try.ntmps107
    go_wp2
    exact bodyPost_ret (v := .agg #[.int .i8 x, .int .i8 (y - 1)]) (by simp [results, Try.results107, go_sem]) rfl ⟨rfl, by repeat (first | with_reducible exact Below.refl _ _ | (with_reducible refine kSet ?_ ?hB _; case hB => (simp; try omega)) | with_reducible refine kAlloc ?_ _ | with_reducible refine Below.drew ?_ | with_reducible refine kDrewN ?_ _ | with_reducible refine kTrans ?_ (by assumption))⟩
  · go_enter Try.func107, Try.ntmps107
    go_wp2
    exact bodyPost_ret (v := .agg #[.int .i8 (x + 1), .int .i8 y]) (by simp [results, Try.results107, go_sem]) rfl ⟨rfl, by repeat (first | with_reducible exact Below.refl _ _ | (with_reducible refine kSet ?_ ?hB _; case hB => (simp; try omega)) | with_reducible refine kAlloc ?_ _ | with_reducible refine Below.drew ?_ | with_reducible refine kDrewN ?_ _ | with_reducible refine kTrans ?_ (by assumption))⟩
  · go_enter Try.func107, Try.ntmps107
    go_wp2
    exact bodyPost_ret (v := .agg #[.int .i8 x, .int .i8 (y + 1)]) (by simp [results, Try.results107, go_sem]) rfl ⟨rfl, by repeat (first | with_reducible exact Below.refl _ _ | (with_reducible refine kSet ?_ ?hB _; case hB => (simp; try omega)) | with_reducible refine kAlloc ?_ _ | with_reducible refine Below.drew ?_ | with_reducible refine kDrewN ?_ _ | with_reducible refine kTrans ?_ (by assumption))⟩
  · go_enter Try.func107, Try.ntmps107
    go_wp2
    exact bodyPost_ret (v := .agg #[.int .i8 (x - 1), .int .i8 y]) (by simp [results, Try.results107, go_sem]) rfl ⟨rfl, by repeat (first | with_reducible exact Below.refl _ _ | (with_reducible refine kSet ?_ ?hB _; case hB => (simp; try omega)) | with_reducible refine kAlloc ?_ _ | with_reducible refine Below.drew ?_ | with_reducible refine kDrewN ?_ _ | with_reducible refine kTrans ?_ (by assumption))⟩
set_option maxHeartbeats 2000000 in
theorem step_any (x y s : Int) (w : World) (hx : -127 ≤ x ∧ x ≤ 126) (hy : -127 ≤ y ∧ y ≤ 126) (hs : 0 ≤ s ∧ s ≤ 3) :
    Calls Try.prog 86 #[.int .i8 s, .agg #[.int .i8 x, .int .i8 y]] w fun e w' => e = .returned (.agg #[.int .i8 (stepX x s), .int .i8 (stepY y s)]) ∧ Below w.heap.size w w' := by
  have h : s = 0 ∨ s = 1 ∨ s = 2 ∨ s = 3 := by omega
  clear hs
  rcases h with rfl | rfl | rfl | rfl
  · go_enter Try.func86, Try.ntmps86
    go_wp2
    exact bodyPost_ret (v := .agg #[.int .i8 x, .int .i8 (y - 1)]) (by simp [results, Try.results86, go_sem]) rfl ⟨rfl, by repeat (first | with_reducible exact Below.refl _ _ | (with_reducible refine kSet ?_ ?hB _; case hB => (simp; try omega)) | with_reducible refine kAlloc ?_ _ | with_reducible refine Below.drew ?_ | with_reducible refine kDrewN ?_ _ | with_reducible refine kTrans ?_ (by assumption))⟩
  · go_enter Try.func86, Try.ntmps86
    go_wp2
    exact bodyPost_ret (v := .agg #[.int .i8 (x + 1), .int .i8 y]) (by simp [results, Try.results86, go_sem]) rfl ⟨rfl, by repeat (first | with_reducible exact Below.refl _ _ | (with_reducible refine kSet ?_ ?hB _; case hB => (simp; try omega)) | with_reducible refine kAlloc ?_ _ | with_reducible refine Below.drew ?_ | with_reducible refine kDrewN ?_ _ | with_reducible refine kTrans ?_ (by assumption))⟩
  · go_enter Try.func86, Try.ntmps86
    go_wp2
    exact bodyPost_ret (v := .agg #[.int .i8 x, .int .i8 (y + 1)]) (by simp [results, Try.results86, go_sem]) rfl ⟨rfl, by repeat (first | with_reducible exact Below.refl _ _ | (with_reducible refine kSet ?_ ?hB _; case hB => (simp; try omega)) | with_reducible refine kAlloc ?_ _ | with_reducible refine Below.drew ?_ | with_reducible refine kDrewN ?_ _ | with_reducible refine kTrans ?_ (by assumption))⟩
  · go_enter Try.func86, Try.ntmps86
    go_wp2
    exact bodyPost_ret (v := .agg #[.int .i8 (x - 1), .int .i8 y]) (by simp [results, Try.results86, go_sem]) rfl ⟨rfl, by repeat (first | with_reducible exact Below.refl _ _ | (with_reducible refine kSet ?_ ?hB _; case hB => (simp; try omega)) | with_reducible refine kAlloc ?_ _ | with_reducible refine Below.drew ?_ | with_reducible refine kDrewN ?_ _ | with_reducible refine kTrans ?_ (by assumption))⟩


theorem tmod4 (n : Int) : (n.tmod 4 + 4) % 4 = n % 4 := by
  have := Int.tmod_add_mul_tdiv n 4
  omega
theorem tmod4_lo (n : Int) : -4 < n.tmod 4 := Int.lt_tmod_of_pos n (by decide)
theorem tmod4_hi (n : Int) : n.tmod 4 < 4 := Int.tmod_lt_of_pos n (by decide)

theorem l01Quarters_any (t q : Int) (w : World) (ht : 0 ≤ t ∧ t ≤ 3) (hq : -1000 ≤ q ∧ q ≤ 1000) :
    Calls Try.prog 88 #[.int .i8 t, .int .i64 q] w fun e w' => e = .returned (.int .i8 ((t + q) % 4)) ∧ w = w' := by
  have h1 := tmod4_lo (t + q)
  have h2 := tmod4_hi (t + q)
  by_cases h : 0 ≤ t + q
  · go_enter Try.func88, Try.ntmps88
    go_wp2
    go_ret
    exact ⟨ret_int (by omega), rfl⟩
  · go_enter Try.func88, Try.ntmps88
    go_wp2
    go_ret
    exact ⟨ret_int (by have := tmod4 (t + q); omega), rfl⟩
theorem wrapQuarters_any (q : Int) (w : World) (hq : -1000 ≤ q ∧ q ≤ 1000) :
    Calls Try.prog 90 #[.int .i64 q] w fun e w' => e = .returned (.int .i8 (q % 4)) ∧ w = w' := by
  have h1 := tmod4_lo q
  have h2 := tmod4_hi q
  by_cases h : 0 ≤ q
  · go_enter Try.func90, Try.ntmps90
    go_wp2
    go_ret
    exact ⟨ret_int (by omega), rfl⟩
  · go_enter Try.func90, Try.ntmps90
    go_wp2
    go_ret
    exact ⟨ret_int (by have := tmod4 q; omega), rfl⟩
theorem validQuarters_yes (n : Int) (w : World) (h1 : -100 ≤ n) (h2 : n ≤ 100) :
    Calls Try.prog 89 #[.int .i64 n] w fun e w' => e = .returned (.bool true) ∧ w = w' := by
  go_enter Try.func89, Try.ntmps89
  go_wp2
  go_ret
  exact ⟨rfl, rfl⟩
theorem validQuarters_no (n : Int) (w : World) (h : n < -100 ∨ 100 < n) :
    Calls Try.prog 89 #[.int .i64 n] w fun e w' => e = .returned (.bool false) ∧ w = w' := by
  by_cases h1 : -100 ≤ n
  · have h2 : decide (n ≤ 100) = false := by simp; omega
    clear h
    go_enter Try.func89, Try.ntmps89
    go_wp2
    go_ret
    exact ⟨rfl, rfl⟩
  · have h2 : decide (-100 ≤ n) = false := by simp; omega
    clear h h1
    go_enter Try.func89, Try.ntmps89
    go_wp2
    go_ret
    exact ⟨rfl, rfl⟩

set_option maxHeartbeats 1000000 in
theorem eqPiece_same (p : Pc) (w : World) (hp : p.in8) :
    Calls Try.prog 106 #[.agg #[.int .i8 p.x, .int .i8 p.y, .int .i8 p.kind, .int .i8 p.turn, .int .i8 p.delay], .agg #[.int .i8 p.x, .int .i8 p.y, .int .i8 p.kind, .int .i8 p.turn, .int .i8 p.delay]] w fun e w' => e = .returned (.bool true) ∧ Below w.heap.size w w' := by
  obtain ⟨x, y, kind, turn, delay⟩ := p
  obtain ⟨hx, hy, hk, ht, hd⟩ := hp
  go_enter Try.func106, Try.ntmps106
  go_wp2_with fail
  refine (eqCell_same _ _ _ hx hy).mono ?_
  rintro e w1 ⟨rfl, hb⟩
  obtain ⟨a0, a1, a2, a3, a4⟩ := ((PcAt.box w ⟨x, y, kind, turn, delay⟩ 46).below (w' := (w.alloc (.cells #[.int .i8 x, .int .i8 y, .int .i8 kind, .int .i8 turn, .int .i8 delay] 46)).alloc (.cells #[.int .i8 x, .int .i8 y, .int .i8 kind, .int .i8 turn, .int .i8 delay] 46)) (by repeat (first | with_reducible exact Below.refl _ _ | (with_reducible refine kSet ?_ ?hB _; case hB => (simp; try omega)) | with_reducible refine kAlloc ?_ _ | with_reducible refine Below.drew ?_ | with_reducible refine kDrewN ?_ _ | with_reducible refine kTrans ?_ (by assumption))) (by simp)).below hb (by simp; omega)
  obtain ⟨b0, b1, b2, b3, b4⟩ := (PcAt.box (w.alloc (.cells #[.int .i8 x, .int .i8 y, .int .i8 kind, .int .i8 turn, .int .i8 delay] 46)) ⟨x, y, kind, turn, delay⟩ 46).below hb (by simp)
  simp only [World.size_alloc] at b0 b1 b2 b3 b4
  go_wp2
  go_ret
  exact ⟨rfl, by repeat (first | with_reducible exact Below.refl _ _ | (with_reducible refine kSet ?_ ?hB _; case hB => (simp; try omega)) | with_reducible refine kAlloc ?_ _ | with_reducible refine Below.drew ?_ | with_reducible refine kDrewN ?_ _ | with_reducible refine kTrans ?_ (by assumption))⟩
end Go.Proofs.Ythancdlkkfegnaa
