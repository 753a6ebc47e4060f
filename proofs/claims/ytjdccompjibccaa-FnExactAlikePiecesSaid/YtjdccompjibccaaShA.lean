/- Contracts of what a piece does that is hit: the model's table. -/
import Derived.Test.YtjdccompjibccaaC1d
import Derived.Handy
import Derived.Deep.RegionHeld3
import Derived.Laws.Tables
import Derived.IntWalk
namespace Go.Proofs.Ytjdccompjibccaa
open Go.ChangeShapes Go.WideShapes Go.ChangeAt Go.RowKit
set_option linter.unusedVariables false

theorem kRow {a b : World} {g : Nat} (h : Below a.heap.size a b) (hg : a.heap.size ≤ g) (cs : Array Value) : Below a.heap.size a (b.setRow g cs) :=
  h.trans ⟨rfl, rfl, rfl, by simp, fun k hk => setRow_other _ _ _ _ (by omega)⟩
set_option maxHeartbeats 1000000 in
theorem l01Table_any (w : World) :
    Calls Try.prog 14 #[] w fun r w' => r = .returned (.agg #[.int .i64 (-1), .int .i64 8, .int .i64 (-1), .int .i64 2, .int .i64 (-1), .int .i64 (-1), .int .i64 8, .int .i64 4, .int .i64 12, .int .i64 (-1), .int .i64 9, .int .i64 5, .int .i64 (-1), .int .i64 (-1), .int .i64 (-1), .int .i64 2, .int .i64 0, .int .i64 8, .int .i64 0, .int .i64 2, .int .i64 4, .int .i64 8, .int .i64 1, .int .i64 2]) ∧ Below w.heap.size w w' := by
  go_enter Try.func14, Try.ntmps14
  go_wp2_with (refine wpList_store_row rfl 46 _ _ rfl w.heap.size #[.int .i64 (-1), .int .i64 8, .int .i64 (-1), .int .i64 2, .int .i64 (-1), .int .i64 (-1), .int .i64 8, .int .i64 4, .int .i64 12, .int .i64 (-1), .int .i64 9, .int .i64 5, .int .i64 (-1), .int .i64 (-1), .int .i64 (-1), .int .i64 2, .int .i64 0, .int .i64 8, .int .i64 0, .int .i64 2, .int .i64 4, .int .i64 8, .int .i64 1, .int .i64 2] rfl rfl 46 _ (heap_alloc_new w _) (by kernel_rfl) (by kernel_rfl) (by kernel_rfl) ?_)
  exact bodyPost_ret (v := .agg #[.int .i64 (-1), .int .i64 8, .int .i64 (-1), .int .i64 2, .int .i64 (-1), .int .i64 (-1), .int .i64 8, .int .i64 4, .int .i64 12, .int .i64 (-1), .int .i64 9, .int .i64 5, .int .i64 (-1), .int .i64 (-1), .int .i64 (-1), .int .i64 2, .int .i64 0, .int .i64 8, .int .i64 0, .int .i64 2, .int .i64 4, .int .i64 8, .int .i64 1, .int .i64 2]) (results_cell_row rfl _ _ w.heap.size 46 #[.int .i64 (-1), .int .i64 8, .int .i64 (-1), .int .i64 2, .int .i64 (-1), .int .i64 (-1), .int .i64 8, .int .i64 4, .int .i64 12, .int .i64 (-1), .int .i64 9, .int .i64 5, .int .i64 (-1), .int .i64 (-1), .int .i64 (-1), .int .i64 2, .int .i64 0, .int .i64 8, .int .i64 0, .int .i64 2, .int .i64 4, .int .i64 8, .int .i64 1, .int .i64 2] (0, 0) _ rfl (setRow_heap _ _ _ _ _ _ (heap_alloc_new w _)) Try.underlying46 rfl (by kernel_rfl)) rfl ⟨rfl, kRow (kAlloc (Below.refl _ _) _) (Nat.le_refl _) _⟩

/-- the model's table -/
def tabP (k e : Int) : Int :=
  if k = 0 then (if e = 0 then -1 else if e = 1 then 8 else if e = 2 then -1 else 2)
  else if k = 1 then (if e = 0 then -1 else if e = 1 then -1 else if e = 2 then 8 else 4)
  else if k = 2 then (if e = 0 then 12 else if e = 1 then -1 else if e = 2 then 9 else 5)
  else if k = 3 then (if e = 0 then -1 else if e = 1 then -1 else if e = 2 then -1 else 2)
  else if k = 4 then (if e = 0 then 0 else if e = 1 then 8 else if e = 2 then 0 else 2)
  else (if e = 0 then 4 else if e = 1 then 8 else if e = 2 then 1 else 2)

theorem row_0 (w : World) : (Instr.index 46 (.agg #[.int .i64 (-1), .int .i64 8, .int .i64 (-1), .int .i64 2, .int .i64 (-1), .int .i64 (-1), .int .i64 8, .int .i64 4, .int .i64 12, .int .i64 (-1), .int .i64 9, .int .i64 5, .int .i64 (-1), .int .i64 (-1), .int .i64 (-1), .int .i64 2, .int .i64 0, .int .i64 8, .int .i64 0, .int .i64 2, .int .i64 4, .int .i64 8, .int .i64 1, .int .i64 2]) (.int .i8 0)).run Try.prog w = .ok (.agg #[.int .i64 (-1), .int .i64 8, .int .i64 (-1), .int .i64 2]) w := by kernel_rfl
theorem row_1 (w : World) : (Instr.index 46 (.agg #[.int .i64 (-1), .int .i64 8, .int .i64 (-1), .int .i64 2, .int .i64 (-1), .int .i64 (-1), .int .i64 8, .int .i64 4, .int .i64 12, .int .i64 (-1), .int .i64 9, .int .i64 5, .int .i64 (-1), .int .i64 (-1), .int .i64 (-1), .int .i64 2, .int .i64 0, .int .i64 8, .int .i64 0, .int .i64 2, .int .i64 4, .int .i64 8, .int .i64 1, .int .i64 2]) (.int .i8 1)).run Try.prog w = .ok (.agg #[.int .i64 (-1), .int .i64 (-1), .int .i64 8, .int .i64 4]) w := by kernel_rfl
theorem row_2 (w : World) : (Instr.index 46 (.agg #[.int .i64 (-1), .int .i64 8, .int .i64 (-1), .int .i64 2, .int .i64 (-1), .int .i64 (-1), .int .i64 8, .int .i64 4, .int .i64 12, .int .i64 (-1), .int .i64 9, .int .i64 5, .int .i64 (-1), .int .i64 (-1), .int .i64 (-1), .int .i64 2, .int .i64 0, .int .i64 8, .int .i64 0, .int .i64 2, .int .i64 4, .int .i64 8, .int .i64 1, .int .i64 2]) (.int .i8 2)).run Try.prog w = .ok (.agg #[.int .i64 12, .int .i64 (-1), .int .i64 9, .int .i64 5]) w := by kernel_rfl
theorem row_3 (w : World) : (Instr.index 46 (.agg #[.int .i64 (-1), .int .i64 8, .int .i64 (-1), .int .i64 2, .int .i64 (-1), .int .i64 (-1), .int .i64 8, .int .i64 4, .int .i64 12, .int .i64 (-1), .int .i64 9, .int .i64 5, .int .i64 (-1), .int .i64 (-1), .int .i64 (-1), .int .i64 2, .int .i64 0, .int .i64 8, .int .i64 0, .int .i64 2, .int .i64 4, .int .i64 8, .int .i64 1, .int .i64 2]) (.int .i8 3)).run Try.prog w = .ok (.agg #[.int .i64 (-1), .int .i64 (-1), .int .i64 (-1), .int .i64 2]) w := by kernel_rfl
theorem row_4 (w : World) : (Instr.index 46 (.agg #[.int .i64 (-1), .int .i64 8, .int .i64 (-1), .int .i64 2, .int .i64 (-1), .int .i64 (-1), .int .i64 8, .int .i64 4, .int .i64 12, .int .i64 (-1), .int .i64 9, .int .i64 5, .int .i64 (-1), .int .i64 (-1), .int .i64 (-1), .int .i64 2, .int .i64 0, .int .i64 8, .int .i64 0, .int .i64 2, .int .i64 4, .int .i64 8, .int .i64 1, .int .i64 2]) (.int .i8 4)).run Try.prog w = .ok (.agg #[.int .i64 0, .int .i64 8, .int .i64 0, .int .i64 2]) w := by kernel_rfl
theorem row_5 (w : World) : (Instr.index 46 (.agg #[.int .i64 (-1), .int .i64 8, .int .i64 (-1), .int .i64 2, .int .i64 (-1), .int .i64 (-1), .int .i64 8, .int .i64 4, .int .i64 12, .int .i64 (-1), .int .i64 9, .int .i64 5, .int .i64 (-1), .int .i64 (-1), .int .i64 (-1), .int .i64 2, .int .i64 0, .int .i64 8, .int .i64 0, .int .i64 2, .int .i64 4, .int .i64 8, .int .i64 1, .int .i64 2]) (.int .i8 5)).run Try.prog w = .ok (.agg #[.int .i64 4, .int .i64 8, .int .i64 1, .int .i64 2]) w := by kernel_rfl
theorem row_any (k : Int) (w : World) (hk : 0 ≤ k ∧ k ≤ 5) : (Instr.index 46 (.agg #[.int .i64 (-1), .int .i64 8, .int .i64 (-1), .int .i64 2, .int .i64 (-1), .int .i64 (-1), .int .i64 8, .int .i64 4, .int .i64 12, .int .i64 (-1), .int .i64 9, .int .i64 5, .int .i64 (-1), .int .i64 (-1), .int .i64 (-1), .int .i64 2, .int .i64 0, .int .i64 8, .int .i64 0, .int .i64 2, .int .i64 4, .int .i64 8, .int .i64 1, .int .i64 2]) (.int .i8 k)).run Try.prog w = .ok (.agg #[.int .i64 (tabP k 0), .int .i64 (tabP k 1), .int .i64 (tabP k 2), .int .i64 (tabP k 3)]) w := by
  have h1 : k = 0 ∨ k = 1 ∨ k = 2 ∨ k = 3 ∨ k = 4 ∨ k = 5 := by omega
  clear hk
  rcases h1 with rfl | rfl | rfl | rfl | rfl | rfl
  · exact row_0 w
  · exact row_1 w
  · exact row_2 w
  · exact row_3 w
  · exact row_4 w
  · exact row_5 w
theorem col_0 (a b c d : Value) (w : World) : (Instr.index 45 (.agg #[a, b, c, d]) (.int .i64 0)).run Try.prog w = .ok a w := by kernel_rfl
theorem col_1 (a b c d : Value) (w : World) : (Instr.index 45 (.agg #[a, b, c, d]) (.int .i64 1)).run Try.prog w = .ok b w := by kernel_rfl
theorem col_2 (a b c d : Value) (w : World) : (Instr.index 45 (.agg #[a, b, c, d]) (.int .i64 2)).run Try.prog w = .ok c w := by kernel_rfl
theorem col_3 (a b c d : Value) (w : World) : (Instr.index 45 (.agg #[a, b, c, d]) (.int .i64 3)).run Try.prog w = .ok d w := by kernel_rfl
theorem col_any (k e : Int) (w : World) (he : 0 ≤ e ∧ e ≤ 3) : (Instr.index 45 (.agg #[.int .i64 (tabP k 0), .int .i64 (tabP k 1), .int .i64 (tabP k 2), .int .i64 (tabP k 3)]) (.int .i64 e)).run Try.prog w = .ok (.int .i64 (tabP k e)) w := by
  have h1 : e = 0 ∨ e = 1 ∨ e = 2 ∨ e = 3 := by omega
  clear he
  rcases h1 with rfl | rfl | rfl | rfl
  · exact col_0 _ _ _ _ w
  · exact col_1 _ _ _ _ w
  · exact col_2 _ _ _ _ w
  · exact col_3 _ _ _ _ w
end Go.Proofs.Ytjdccompjibccaa
