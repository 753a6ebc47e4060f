/- Several texts in one: ShA, ShB0, ShB1, ShB2, ShB3. -/
import Derived.Test.YtflkfkbdgekpkaaDoorG5
import Derived.Handy
import Derived.Deep.RegionHeld3
import Derived.Laws.Tables
import Derived.IntWalk
/- Contracts of what a piece does that is hit: the model's table. -/
namespace Go.Proofs.YtflkfkbdgekpkaaDoor
open Go.ChangeShapes Go.WideShapes Go.ChangeAt Go.RowKit
set_option linter.unusedVariables false

theorem kRow {a b : World} {g : Nat} (h : Below a.heap.size a b) (hg : a.heap.size ≤ g) (cs : Array Value) : Below a.heap.size a (b.setRow g cs) :=
  h.trans ⟨rfl, rfl, rfl, by simp, fun k hk => setRow_other _ _ _ _ (by omega)⟩
set_option maxHeartbeats 1000000 in
theorem l01Table_any (w : World) :
    Calls Tryd.prog 62 #[] w fun r w' => r = .returned (.agg #[.int .i64 (-1), .int .i64 8, .int .i64 (-1), .int .i64 2, .int .i64 (-1), .int .i64 (-1), .int .i64 8, .int .i64 4, .int .i64 12, .int .i64 (-1), .int .i64 9, .int .i64 5, .int .i64 (-1), .int .i64 (-1), .int .i64 (-1), .int .i64 2, .int .i64 0, .int .i64 8, .int .i64 0, .int .i64 2, .int .i64 4, .int .i64 8, .int .i64 1, .int .i64 2]) ∧ Below w.heap.size w w' := by
  go_enter Tryd.func62, Tryd.ntmps62
  go_wp2_with (refine wpList_store_row rfl 124 _ _ rfl w.heap.size #[.int .i64 (-1), .int .i64 8, .int .i64 (-1), .int .i64 2, .int .i64 (-1), .int .i64 (-1), .int .i64 8, .int .i64 4, .int .i64 12, .int .i64 (-1), .int .i64 9, .int .i64 5, .int .i64 (-1), .int .i64 (-1), .int .i64 (-1), .int .i64 2, .int .i64 0, .int .i64 8, .int .i64 0, .int .i64 2, .int .i64 4, .int .i64 8, .int .i64 1, .int .i64 2] rfl rfl 124 _ (heap_alloc_new w _) (by kernel_rfl) (by kernel_rfl) (by kernel_rfl) ?_)
  exact bodyPost_ret (v := .agg #[.int .i64 (-1), .int .i64 8, .int .i64 (-1), .int .i64 2, .int .i64 (-1), .int .i64 (-1), .int .i64 8, .int .i64 4, .int .i64 12, .int .i64 (-1), .int .i64 9, .int .i64 5, .int .i64 (-1), .int .i64 (-1), .int .i64 (-1), .int .i64 2, .int .i64 0, .int .i64 8, .int .i64 0, .int .i64 2, .int .i64 4, .int .i64 8, .int .i64 1, .int .i64 2]) (results_cell_row rfl _ _ w.heap.size 124 #[.int .i64 (-1), .int .i64 8, .int .i64 (-1), .int .i64 2, .int .i64 (-1), .int .i64 (-1), .int .i64 8, .int .i64 4, .int .i64 12, .int .i64 (-1), .int .i64 9, .int .i64 5, .int .i64 (-1), .int .i64 (-1), .int .i64 (-1), .int .i64 2, .int .i64 0, .int .i64 8, .int .i64 0, .int .i64 2, .int .i64 4, .int .i64 8, .int .i64 1, .int .i64 2] (0, 0) _ rfl (setRow_heap _ _ _ _ _ _ (heap_alloc_new w _)) Tryd.underlying124 rfl (by kernel_rfl)) rfl ⟨rfl, kRow (kAlloc (Below.refl _ _) _) (Nat.le_refl _) _⟩

/-- the model's table -/
def tabP (k e : Int) : Int :=
  if k = 0 then (if e = 0 then -1 else if e = 1 then 8 else if e = 2 then -1 else 2)
  else if k = 1 then (if e = 0 then -1 else if e = 1 then -1 else if e = 2 then 8 else 4)
  else if k = 2 then (if e = 0 then 12 else if e = 1 then -1 else if e = 2 then 9 else 5)
  else if k = 3 then (if e = 0 then -1 else if e = 1 then -1 else if e = 2 then -1 else 2)
  else if k = 4 then (if e = 0 then 0 else if e = 1 then 8 else if e = 2 then 0 else 2)
  else (if e = 0 then 4 else if e = 1 then 8 else if e = 2 then 1 else 2)

theorem row_0 (w : World) : (Instr.index 124 (.agg #[.int .i64 (-1), .int .i64 8, .int .i64 (-1), .int .i64 2, .int .i64 (-1), .int .i64 (-1), .int .i64 8, .int .i64 4, .int .i64 12, .int .i64 (-1), .int .i64 9, .int .i64 5, .int .i64 (-1), .int .i64 (-1), .int .i64 (-1), .int .i64 2, .int .i64 0, .int .i64 8, .int .i64 0, .int .i64 2, .int .i64 4, .int .i64 8, .int .i64 1, .int .i64 2]) (.int .i8 0)).run Tryd.prog w = .ok (.agg #[.int .i64 (-1), .int .i64 8, .int .i64 (-1), .int .i64 2]) w := by kernel_rfl
theorem row_1 (w : World) : (Instr.index 124 (.agg #[.int .i64 (-1), .int .i64 8, .int .i64 (-1), .int .i64 2, .int .i64 (-1), .int .i64 (-1), .int .i64 8, .int .i64 4, .int .i64 12, .int .i64 (-1), .int .i64 9, .int .i64 5, .int .i64 (-1), .int .i64 (-1), .int .i64 (-1), .int .i64 2, .int .i64 0, .int .i64 8, .int .i64 0, .int .i64 2, .int .i64 4, .int .i64 8, .int .i64 1, .int .i64 2]) (.int .i8 1)).run Tryd.prog w = .ok (.agg #[.int .i64 (-1), .int .i64 (-1), .int .i64 8, .int .i64 4]) w := by kernel_rfl
theorem row_2 (w : World) : (Instr.index 124 (.agg #[.int .i64 (-1), .int .i64 8, .int .i64 (-1), .int .i64 2, .int .i64 (-1), .int .i64 (-1), .int .i64 8, .int .i64 4, .int .i64 12, .int .i64 (-1), .int .i64 9, .int .i64 5, .int .i64 (-1), .int .i64 (-1), .int .i64 (-1), .int .i64 2, .int .i64 0, .int .i64 8, .int .i64 0, .int .i64 2, .int .i64 4, .int .i64 8, .int .i64 1, .int .i64 2]) (.int .i8 2)).run Tryd.prog w = .ok (.agg #[.int .i64 12, .int .i64 (-1), .int .i64 9, .int .i64 5]) w := by kernel_rfl
theorem row_3 (w : World) : (Instr.index 124 (.agg #[.int .i64 (-1), .int .i64 8, .int .i64 (-1), .int .i64 2, .int .i64 (-1), .int .i64 (-1), .int .i64 8, .int .i64 4, .int .i64 12, .int .i64 (-1), .int .i64 9, .int .i64 5, .int .i64 (-1), .int .i64 (-1), .int .i64 (-1), .int .i64 2, .int .i64 0, .int .i64 8, .int .i64 0, .int .i64 2, .int .i64 4, .int .i64 8, .int .i64 1, .int .i64 2]) (.int .i8 3)).run Tryd.prog w = .ok (.agg #[.int .i64 (-1), .int .i64 (-1), .int .i64 (-1), .int .i64 2]) w := by kernel_rfl
theorem row_4 (w : World) : (Instr.index 124 (.agg #[.int .i64 (-1), .int .i64 8, .int .i64 (-1), .int .i64 2, .int .i64 (-1), .int .i64 (-1), .int .i64 8, .int .i64 4, .int .i64 12, .int .i64 (-1), .int .i64 9, .int .i64 5, .int .i64 (-1), .int .i64 (-1), .int .i64 (-1), .int .i64 2, .int .i64 0, .int .i64 8, .int .i64 0, .int .i64 2, .int .i64 4, .int .i64 8, .int .i64 1, .int .i64 2]) (.int .i8 4)).run Tryd.prog w = .ok (.agg #[.int .i64 0, .int .i64 8, .int .i64 0, .int .i64 2]) w := by kernel_rfl
theorem row_5 (w : World) : (Instr.index 124 (.agg #[.int .i64 (-1), .int .i64 8, .int .i64 (-1), .int .i64 2, .int .i64 (-1), .int .i64 (-1), .int .i64 8, .int .i64 4, .int .i64 12, .int .i64 (-1), .int .i64 9, .int .i64 5, .int .i64 (-1), .int .i64 (-1), .int .i64 (-1), .int .i64 2, .int .i64 0, .int .i64 8, .int .i64 0, .int .i64 2, .int .i64 4, .int .i64 8, .int .i64 1, .int .i64 2]) (.int .i8 5)).run Tryd.prog w = .ok (.agg #[.int .i64 4, .int .i64 8, .int .i64 1, .int .i64 2]) w := by kernel_rfl
theorem row_any (k : Int) (w : World) (hk : 0 ≤ k ∧ k ≤ 5) : (Instr.index 124 (.agg #[.int .i64 (-1), .int .i64 8, .int .i64 (-1), .int .i64 2, .int .i64 (-1), .int .i64 (-1), .int .i64 8, .int .i64 4, .int .i64 12, .int .i64 (-1), .int .i64 9, .int .i64 5, .int .i64 (-1), .int .i64 (-1), .int .i64 (-1), .int .i64 2, .int .i64 0, .int .i64 8, .int .i64 0, .int .i64 2, .int .i64 4, .int .i64 8, .int .i64 1, .int .i64 2]) (.int .i8 k)).run Tryd.prog w = .ok (.agg #[.int .i64 (tabP k 0), .int .i64 (tabP k 1), .int .i64 (tabP k 2), .int .i64 (tabP k 3)]) w := by
  have h1 : k = 0 ∨ k = 1 ∨ k = 2 ∨ k = 3 ∨ k = 4 ∨ k = 5 := by omega
  clear hk
  rcases h1 with rfl | rfl | rfl | rfl | rfl | rfl
  · exact row_0 w
  · exact row_1 w
  · exact row_2 w
  · exact row_3 w
  · exact row_4 w
  · exact row_5 w
theorem col_0 (a b c d : Value) (w : World) : (Instr.index 123 (.agg #[a, b, c, d]) (.int .i64 0)).run Tryd.prog w = .ok a w := by kernel_rfl
theorem col_1 (a b c d : Value) (w : World) : (Instr.index 123 (.agg #[a, b, c, d]) (.int .i64 1)).run Tryd.prog w = .ok b w := by kernel_rfl
theorem col_2 (a b c d : Value) (w : World) : (Instr.index 123 (.agg #[a, b, c, d]) (.int .i64 2)).run Tryd.prog w = .ok c w := by kernel_rfl
theorem col_3 (a b c d : Value) (w : World) : (Instr.index 123 (.agg #[a, b, c, d]) (.int .i64 3)).run Tryd.prog w = .ok d w := by kernel_rfl
theorem col_any (k e : Int) (w : World) (he : 0 ≤ e ∧ e ≤ 3) : (Instr.index 123 (.agg #[.int .i64 (tabP k 0), .int .i64 (tabP k 1), .int .i64 (tabP k 2), .int .i64 (tabP k 3)]) (.int .i64 e)).run Tryd.prog w = .ok (.int .i64 (tabP k e)) w := by
  have h1 : e = 0 ∨ e = 1 ∨ e = 2 ∨ e = 3 := by omega
  clear he
  rcases h1 with rfl | rfl | rfl | rfl
  · exact col_0 _ _ _ _ w
  · exact col_1 _ _ _ _ w
  · exact col_2 _ _ _ _ w
  · exact col_3 _ _ _ _ w
end Go.Proofs.YtflkfkbdgekpkaaDoor

/- Contracts of what a piece does that is hit: the model, turned by 0. -/
namespace Go.Proofs.YtflkfkbdgekpkaaDoor
open Go.ChangeShapes Go.WideShapes Go.ChangeAt Go.RowKit
set_option linter.unusedVariables false
set_option maxHeartbeats 4000000 in
theorem sh_m1_0 (b o : Nat) (x y k d s : Int) (w : World) (hk : 0 ≤ k ∧ k ≤ 5) (hs : 0 ≤ s ∧ s ≤ 3) (hc : PcAt w b o ⟨x, y, k, 0, d⟩) (hbl : b < w.heap.size) (hb : tabP k ((s + 4 - 0) % 4) = (-1)) :
    Calls Tryd.prog 34 #[.pointer (some ⟨b, o, none⟩), .int .i64 s] w fun r w' => r = .returned (.int .i64 (-1)) ∧ Below w.heap.size w w' := by
  obtain ⟨c0, c1, c2, c3, c4⟩ := hc
  simp only at c0 c1 c2 c3 c4
  have HB := Lib.hid hb
  have hr : ∀ w2 : World, (Instr.index 124 (.agg #[.int .i64 (-1), .int .i64 8, .int .i64 (-1), .int .i64 2, .int .i64 (-1), .int .i64 (-1), .int .i64 8, .int .i64 4, .int .i64 12, .int .i64 (-1), .int .i64 9, .int .i64 5, .int .i64 (-1), .int .i64 (-1), .int .i64 (-1), .int .i64 2, .int .i64 0, .int .i64 8, .int .i64 0, .int .i64 2, .int .i64 4, .int .i64 8, .int .i64 1, .int .i64 2]) (.int .i8 k)).run Tryd.prog w2 = .ok (.agg #[.int .i64 (tabP k 0), .int .i64 (tabP k 1), .int .i64 (tabP k 2), .int .i64 (tabP k 3)]) w2 := fun w2 => row_any k w2 hk
  have hi : ∀ w2 : World, (Instr.index 123 (.agg #[.int .i64 (tabP k 0), .int .i64 (tabP k 1), .int .i64 (tabP k 2), .int .i64 (tabP k 3)]) (.int .i64 ((s + 4).tmod 4))).run Tryd.prog w2 = .ok (.int .i64 (-1)) w2 := fun w2 => by rw [Int.tmod_eq_emod_of_nonneg (by omega), col_any k _ w2 (by omega)]; rw [show (s + 4) % 4 = (s + 4 - 0) % 4 by omega, hb]
  have e1 : IntKind.i64.wrap (s + 4) = s + 4 := IntWalk.i64_in _ (by omega)
  have e2 : IntKind.i64.wrap (s + 4) = s + 4 := IntWalk.i64_in _ (by omega)
  clear hb
  go_enter Tryd.func34, Tryd.ntmps34
  go_wp2
  go_region_held3 (fun w' => w'.cell? ⟨b, o + 2, none⟩ = some (.int .i8 k)) (go_keep)
    (first | (go_at_call 62; refine (l01Table_any _).mono ?_; rintro e w' ⟨rfl, hb1⟩; have hb2 := (hb1.cell (p := ⟨b, o + 2, none⟩) hbl).trans c2))
  have hb3 : Below w.heap.size w w' := kTrans (Below.drew (Below.refl _ w)) hb1
  clear e1 e2 hi hr hb1
  go_wp2
  go_ret
  exact ⟨rfl, hb3⟩
set_option maxHeartbeats 4000000 in
theorem sh_0_0 (b o : Nat) (x y k d s : Int) (w : World) (hk : 0 ≤ k ∧ k ≤ 5) (hs : 0 ≤ s ∧ s ≤ 3) (hc : PcAt w b o ⟨x, y, k, 0, d⟩) (hbl : b < w.heap.size) (hb : tabP k ((s + 4 - 0) % 4) = 0) :
    Calls Tryd.prog 34 #[.pointer (some ⟨b, o, none⟩), .int .i64 s] w fun r w' => r = .returned (.int .i64 0) ∧ Below w.heap.size w w' := by
  obtain ⟨c0, c1, c2, c3, c4⟩ := hc
  simp only at c0 c1 c2 c3 c4
  have HB := Lib.hid hb
  have hr : ∀ w2 : World, (Instr.index 124 (.agg #[.int .i64 (-1), .int .i64 8, .int .i64 (-1), .int .i64 2, .int .i64 (-1), .int .i64 (-1), .int .i64 8, .int .i64 4, .int .i64 12, .int .i64 (-1), .int .i64 9, .int .i64 5, .int .i64 (-1), .int .i64 (-1), .int .i64 (-1), .int .i64 2, .int .i64 0, .int .i64 8, .int .i64 0, .int .i64 2, .int .i64 4, .int .i64 8, .int .i64 1, .int .i64 2]) (.int .i8 k)).run Tryd.prog w2 = .ok (.agg #[.int .i64 (tabP k 0), .int .i64 (tabP k 1), .int .i64 (tabP k 2), .int .i64 (tabP k 3)]) w2 := fun w2 => row_any k w2 hk
  have hi : ∀ w2 : World, (Instr.index 123 (.agg #[.int .i64 (tabP k 0), .int .i64 (tabP k 1), .int .i64 (tabP k 2), .int .i64 (tabP k 3)]) (.int .i64 ((s + 4).tmod 4))).run Tryd.prog w2 = .ok (.int .i64 0) w2 := fun w2 => by rw [Int.tmod_eq_emod_of_nonneg (by omega), col_any k _ w2 (by omega)]; rw [show (s + 4) % 4 = (s + 4 - 0) % 4 by omega, hb]
  have e1 : IntKind.i64.wrap (s + 4) = s + 4 := IntWalk.i64_in _ (by omega)
  have e2 : IntKind.i64.wrap (s + 4) = s + 4 := IntWalk.i64_in _ (by omega)
  clear hb
  go_enter Tryd.func34, Tryd.ntmps34
  go_wp2
  go_region_held3 (fun w' => w'.cell? ⟨b, o + 2, none⟩ = some (.int .i8 k)) (go_keep)
    (first | (go_at_call 62; refine (l01Table_any _).mono ?_; rintro e w' ⟨rfl, hb1⟩; have hb2 := (hb1.cell (p := ⟨b, o + 2, none⟩) hbl).trans c2))
  have hb3 : Below w.heap.size w w' := kTrans (Below.drew (Below.refl _ w)) hb1
  clear e1 e2 hi hr hb1
  go_wp2
  refine wp_loop_rounds 5 ?_
  rw [rounds_succ]
  go_wp2
  rw [rounds_succ]
  go_wp2
  rw [rounds_succ]
  go_wp2
  rw [rounds_succ]
  go_wp2
  rw [rounds_succ]
  go_wp2
  go_ret
  exact ⟨rfl, hb3⟩
set_option maxHeartbeats 4000000 in
theorem sh_1_0 (b o : Nat) (x y k d s : Int) (w : World) (hk : 0 ≤ k ∧ k ≤ 5) (hs : 0 ≤ s ∧ s ≤ 3) (hc : PcAt w b o ⟨x, y, k, 0, d⟩) (hbl : b < w.heap.size) (hb : tabP k ((s + 4 - 0) % 4) = 1) :
    Calls Tryd.prog 34 #[.pointer (some ⟨b, o, none⟩), .int .i64 s] w fun r w' => r = .returned (.int .i64 1) ∧ Below w.heap.size w w' := by
  obtain ⟨c0, c1, c2, c3, c4⟩ := hc
  simp only at c0 c1 c2 c3 c4
  have HB := Lib.hid hb
  have hr : ∀ w2 : World, (Instr.index 124 (.agg #[.int .i64 (-1), .int .i64 8, .int .i64 (-1), .int .i64 2, .int .i64 (-1), .int .i64 (-1), .int .i64 8, .int .i64 4, .int .i64 12, .int .i64 (-1), .int .i64 9, .int .i64 5, .int .i64 (-1), .int .i64 (-1), .int .i64 (-1), .int .i64 2, .int .i64 0, .int .i64 8, .int .i64 0, .int .i64 2, .int .i64 4, .int .i64 8, .int .i64 1, .int .i64 2]) (.int .i8 k)).run Tryd.prog w2 = .ok (.agg #[.int .i64 (tabP k 0), .int .i64 (tabP k 1), .int .i64 (tabP k 2), .int .i64 (tabP k 3)]) w2 := fun w2 => row_any k w2 hk
  have hi : ∀ w2 : World, (Instr.index 123 (.agg #[.int .i64 (tabP k 0), .int .i64 (tabP k 1), .int .i64 (tabP k 2), .int .i64 (tabP k 3)]) (.int .i64 ((s + 4).tmod 4))).run Tryd.prog w2 = .ok (.int .i64 1) w2 := fun w2 => by rw [Int.tmod_eq_emod_of_nonneg (by omega), col_any k _ w2 (by omega)]; rw [show (s + 4) % 4 = (s + 4 - 0) % 4 by omega, hb]
  have e1 : IntKind.i64.wrap (s + 4) = s + 4 := IntWalk.i64_in _ (by omega)
  have e2 : IntKind.i64.wrap (s + 4) = s + 4 := IntWalk.i64_in _ (by omega)
  clear hb
  go_enter Tryd.func34, Tryd.ntmps34
  go_wp2
  go_region_held3 (fun w' => w'.cell? ⟨b, o + 2, none⟩ = some (.int .i8 k)) (go_keep)
    (first | (go_at_call 62; refine (l01Table_any _).mono ?_; rintro e w' ⟨rfl, hb1⟩; have hb2 := (hb1.cell (p := ⟨b, o + 2, none⟩) hbl).trans c2))
  have hb3 : Below w.heap.size w w' := kTrans (Below.drew (Below.refl _ w)) hb1
  clear e1 e2 hi hr hb1
  go_wp2
  refine wp_loop_rounds 5 ?_
  rw [rounds_succ]
  go_wp2
  rw [rounds_succ]
  go_wp2
  rw [rounds_succ]
  go_wp2
  rw [rounds_succ]
  go_wp2
  rw [rounds_succ]
  go_wp2
  go_ret
  exact ⟨rfl, hb3⟩
set_option maxHeartbeats 4000000 in
theorem sh_2_0 (b o : Nat) (x y k d s : Int) (w : World) (hk : 0 ≤ k ∧ k ≤ 5) (hs : 0 ≤ s ∧ s ≤ 3) (hc : PcAt w b o ⟨x, y, k, 0, d⟩) (hbl : b < w.heap.size) (hb : tabP k ((s + 4 - 0) % 4) = 2) :
    Calls Tryd.prog 34 #[.pointer (some ⟨b, o, none⟩), .int .i64 s] w fun r w' => r = .returned (.int .i64 2) ∧ Below w.heap.size w w' := by
  obtain ⟨c0, c1, c2, c3, c4⟩ := hc
  simp only at c0 c1 c2 c3 c4
  have HB := Lib.hid hb
  have hr : ∀ w2 : World, (Instr.index 124 (.agg #[.int .i64 (-1), .int .i64 8, .int .i64 (-1), .int .i64 2, .int .i64 (-1), .int .i64 (-1), .int .i64 8, .int .i64 4, .int .i64 12, .int .i64 (-1), .int .i64 9, .int .i64 5, .int .i64 (-1), .int .i64 (-1), .int .i64 (-1), .int .i64 2, .int .i64 0, .int .i64 8, .int .i64 0, .int .i64 2, .int .i64 4, .int .i64 8, .int .i64 1, .int .i64 2]) (.int .i8 k)).run Tryd.prog w2 = .ok (.agg #[.int .i64 (tabP k 0), .int .i64 (tabP k 1), .int .i64 (tabP k 2), .int .i64 (tabP k 3)]) w2 := fun w2 => row_any k w2 hk
  have hi : ∀ w2 : World, (Instr.index 123 (.agg #[.int .i64 (tabP k 0), .int .i64 (tabP k 1), .int .i64 (tabP k 2), .int .i64 (tabP k 3)]) (.int .i64 ((s + 4).tmod 4))).run Tryd.prog w2 = .ok (.int .i64 2) w2 := fun w2 => by rw [Int.tmod_eq_emod_of_nonneg (by omega), col_any k _ w2 (by omega)]; rw [show (s + 4) % 4 = (s + 4 - 0) % 4 by omega, hb]
  have e1 : IntKind.i64.wrap (s + 4) = s + 4 := IntWalk.i64_in _ (by omega)
  have e2 : IntKind.i64.wrap (s + 4) = s + 4 := IntWalk.i64_in _ (by omega)
  clear hb
  go_enter Tryd.func34, Tryd.ntmps34
  go_wp2
  go_region_held3 (fun w' => w'.cell? ⟨b, o + 2, none⟩ = some (.int .i8 k)) (go_keep)
    (first | (go_at_call 62; refine (l01Table_any _).mono ?_; rintro e w' ⟨rfl, hb1⟩; have hb2 := (hb1.cell (p := ⟨b, o + 2, none⟩) hbl).trans c2))
  have hb3 : Below w.heap.size w w' := kTrans (Below.drew (Below.refl _ w)) hb1
  clear e1 e2 hi hr hb1
  go_wp2
  refine wp_loop_rounds 5 ?_
  rw [rounds_succ]
  go_wp2
  rw [rounds_succ]
  go_wp2
  rw [rounds_succ]
  go_wp2
  rw [rounds_succ]
  go_wp2
  rw [rounds_succ]
  go_wp2
  go_ret
  exact ⟨rfl, hb3⟩
set_option maxHeartbeats 4000000 in
theorem sh_4_0 (b o : Nat) (x y k d s : Int) (w : World) (hk : 0 ≤ k ∧ k ≤ 5) (hs : 0 ≤ s ∧ s ≤ 3) (hc : PcAt w b o ⟨x, y, k, 0, d⟩) (hbl : b < w.heap.size) (hb : tabP k ((s + 4 - 0) % 4) = 4) :
    Calls Tryd.prog 34 #[.pointer (some ⟨b, o, none⟩), .int .i64 s] w fun r w' => r = .returned (.int .i64 4) ∧ Below w.heap.size w w' := by
  obtain ⟨c0, c1, c2, c3, c4⟩ := hc
  simp only at c0 c1 c2 c3 c4
  have HB := Lib.hid hb
  have hr : ∀ w2 : World, (Instr.index 124 (.agg #[.int .i64 (-1), .int .i64 8, .int .i64 (-1), .int .i64 2, .int .i64 (-1), .int .i64 (-1), .int .i64 8, .int .i64 4, .int .i64 12, .int .i64 (-1), .int .i64 9, .int .i64 5, .int .i64 (-1), .int .i64 (-1), .int .i64 (-1), .int .i64 2, .int .i64 0, .int .i64 8, .int .i64 0, .int .i64 2, .int .i64 4, .int .i64 8, .int .i64 1, .int .i64 2]) (.int .i8 k)).run Tryd.prog w2 = .ok (.agg #[.int .i64 (tabP k 0), .int .i64 (tabP k 1), .int .i64 (tabP k 2), .int .i64 (tabP k 3)]) w2 := fun w2 => row_any k w2 hk
  have hi : ∀ w2 : World, (Instr.index 123 (.agg #[.int .i64 (tabP k 0), .int .i64 (tabP k 1), .int .i64 (tabP k 2), .int .i64 (tabP k 3)]) (.int .i64 ((s + 4).tmod 4))).run Tryd.prog w2 = .ok (.int .i64 4) w2 := fun w2 => by rw [Int.tmod_eq_emod_of_nonneg (by omega), col_any k _ w2 (by omega)]; rw [show (s + 4) % 4 = (s + 4 - 0) % 4 by omega, hb]
  have e1 : IntKind.i64.wrap (s + 4) = s + 4 := IntWalk.i64_in _ (by omega)
  have e2 : IntKind.i64.wrap (s + 4) = s + 4 := IntWalk.i64_in _ (by omega)
  clear hb
  go_enter Tryd.func34, Tryd.ntmps34
  go_wp2
  go_region_held3 (fun w' => w'.cell? ⟨b, o + 2, none⟩ = some (.int .i8 k)) (go_keep)
    (first | (go_at_call 62; refine (l01Table_any _).mono ?_; rintro e w' ⟨rfl, hb1⟩; have hb2 := (hb1.cell (p := ⟨b, o + 2, none⟩) hbl).trans c2))
  have hb3 : Below w.heap.size w w' := kTrans (Below.drew (Below.refl _ w)) hb1
  clear e1 e2 hi hr hb1
  go_wp2
  refine wp_loop_rounds 5 ?_
  rw [rounds_succ]
  go_wp2
  rw [rounds_succ]
  go_wp2
  rw [rounds_succ]
  go_wp2
  rw [rounds_succ]
  go_wp2
  rw [rounds_succ]
  go_wp2
  go_ret
  exact ⟨rfl, hb3⟩
set_option maxHeartbeats 4000000 in
theorem sh_5_0 (b o : Nat) (x y k d s : Int) (w : World) (hk : 0 ≤ k ∧ k ≤ 5) (hs : 0 ≤ s ∧ s ≤ 3) (hc : PcAt w b o ⟨x, y, k, 0, d⟩) (hbl : b < w.heap.size) (hb : tabP k ((s + 4 - 0) % 4) = 5) :
    Calls Tryd.prog 34 #[.pointer (some ⟨b, o, none⟩), .int .i64 s] w fun r w' => r = .returned (.int .i64 5) ∧ Below w.heap.size w w' := by
  obtain ⟨c0, c1, c2, c3, c4⟩ := hc
  simp only at c0 c1 c2 c3 c4
  have HB := Lib.hid hb
  have hr : ∀ w2 : World, (Instr.index 124 (.agg #[.int .i64 (-1), .int .i64 8, .int .i64 (-1), .int .i64 2, .int .i64 (-1), .int .i64 (-1), .int .i64 8, .int .i64 4, .int .i64 12, .int .i64 (-1), .int .i64 9, .int .i64 5, .int .i64 (-1), .int .i64 (-1), .int .i64 (-1), .int .i64 2, .int .i64 0, .int .i64 8, .int .i64 0, .int .i64 2, .int .i64 4, .int .i64 8, .int .i64 1, .int .i64 2]) (.int .i8 k)).run Tryd.prog w2 = .ok (.agg #[.int .i64 (tabP k 0), .int .i64 (tabP k 1), .int .i64 (tabP k 2), .int .i64 (tabP k 3)]) w2 := fun w2 => row_any k w2 hk
  have hi : ∀ w2 : World, (Instr.index 123 (.agg #[.int .i64 (tabP k 0), .int .i64 (tabP k 1), .int .i64 (tabP k 2), .int .i64 (tabP k 3)]) (.int .i64 ((s + 4).tmod 4))).run Tryd.prog w2 = .ok (.int .i64 5) w2 := fun w2 => by rw [Int.tmod_eq_emod_of_nonneg (by omega), col_any k _ w2 (by omega)]; rw [show (s + 4) % 4 = (s + 4 - 0) % 4 by omega, hb]
  have e1 : IntKind.i64.wrap (s + 4) = s + 4 := IntWalk.i64_in _ (by omega)
  have e2 : IntKind.i64.wrap (s + 4) = s + 4 := IntWalk.i64_in _ (by omega)
  clear hb
  go_enter Tryd.func34, Tryd.ntmps34
  go_wp2
  go_region_held3 (fun w' => w'.cell? ⟨b, o + 2, none⟩ = some (.int .i8 k)) (go_keep)
    (first | (go_at_call 62; refine (l01Table_any _).mono ?_; rintro e w' ⟨rfl, hb1⟩; have hb2 := (hb1.cell (p := ⟨b, o + 2, none⟩) hbl).trans c2))
  have hb3 : Below w.heap.size w w' := kTrans (Below.drew (Below.refl _ w)) hb1
  clear e1 e2 hi hr hb1
  go_wp2
  refine wp_loop_rounds 5 ?_
  rw [rounds_succ]
  go_wp2
  rw [rounds_succ]
  go_wp2
  rw [rounds_succ]
  go_wp2
  rw [rounds_succ]
  go_wp2
  rw [rounds_succ]
  go_wp2
  go_ret
  exact ⟨rfl, hb3⟩
set_option maxHeartbeats 4000000 in
theorem sh_8_0 (b o : Nat) (x y k d s : Int) (w : World) (hk : 0 ≤ k ∧ k ≤ 5) (hs : 0 ≤ s ∧ s ≤ 3) (hc : PcAt w b o ⟨x, y, k, 0, d⟩) (hbl : b < w.heap.size) (hb : tabP k ((s + 4 - 0) % 4) = 8) :
    Calls Tryd.prog 34 #[.pointer (some ⟨b, o, none⟩), .int .i64 s] w fun r w' => r = .returned (.int .i64 8) ∧ Below w.heap.size w w' := by
  obtain ⟨c0, c1, c2, c3, c4⟩ := hc
  simp only at c0 c1 c2 c3 c4
  have HB := Lib.hid hb
  have hr : ∀ w2 : World, (Instr.index 124 (.agg #[.int .i64 (-1), .int .i64 8, .int .i64 (-1), .int .i64 2, .int .i64 (-1), .int .i64 (-1), .int .i64 8, .int .i64 4, .int .i64 12, .int .i64 (-1), .int .i64 9, .int .i64 5, .int .i64 (-1), .int .i64 (-1), .int .i64 (-1), .int .i64 2, .int .i64 0, .int .i64 8, .int .i64 0, .int .i64 2, .int .i64 4, .int .i64 8, .int .i64 1, .int .i64 2]) (.int .i8 k)).run Tryd.prog w2 = .ok (.agg #[.int .i64 (tabP k 0), .int .i64 (tabP k 1), .int .i64 (tabP k 2), .int .i64 (tabP k 3)]) w2 := fun w2 => row_any k w2 hk
  have hi : ∀ w2 : World, (Instr.index 123 (.agg #[.int .i64 (tabP k 0), .int .i64 (tabP k 1), .int .i64 (tabP k 2), .int .i64 (tabP k 3)]) (.int .i64 ((s + 4).tmod 4))).run Tryd.prog w2 = .ok (.int .i64 8) w2 := fun w2 => by rw [Int.tmod_eq_emod_of_nonneg (by omega), col_any k _ w2 (by omega)]; rw [show (s + 4) % 4 = (s + 4 - 0) % 4 by omega, hb]
  have e1 : IntKind.i64.wrap (s + 4) = s + 4 := IntWalk.i64_in _ (by omega)
  have e2 : IntKind.i64.wrap (s + 4) = s + 4 := IntWalk.i64_in _ (by omega)
  clear hb
  go_enter Tryd.func34, Tryd.ntmps34
  go_wp2
  go_region_held3 (fun w' => w'.cell? ⟨b, o + 2, none⟩ = some (.int .i8 k)) (go_keep)
    (first | (go_at_call 62; refine (l01Table_any _).mono ?_; rintro e w' ⟨rfl, hb1⟩; have hb2 := (hb1.cell (p := ⟨b, o + 2, none⟩) hbl).trans c2))
  have hb3 : Below w.heap.size w w' := kTrans (Below.drew (Below.refl _ w)) hb1
  clear e1 e2 hi hr hb1
  go_wp2
  refine wp_loop_rounds 5 ?_
  rw [rounds_succ]
  go_wp2
  rw [rounds_succ]
  go_wp2
  rw [rounds_succ]
  go_wp2
  rw [rounds_succ]
  go_wp2
  rw [rounds_succ]
  go_wp2
  go_ret
  exact ⟨rfl, hb3⟩
set_option maxHeartbeats 4000000 in
theorem sh_9_0 (b o : Nat) (x y k d s : Int) (w : World) (hk : 0 ≤ k ∧ k ≤ 5) (hs : 0 ≤ s ∧ s ≤ 3) (hc : PcAt w b o ⟨x, y, k, 0, d⟩) (hbl : b < w.heap.size) (hb : tabP k ((s + 4 - 0) % 4) = 9) :
    Calls Tryd.prog 34 #[.pointer (some ⟨b, o, none⟩), .int .i64 s] w fun r w' => r = .returned (.int .i64 9) ∧ Below w.heap.size w w' := by
  obtain ⟨c0, c1, c2, c3, c4⟩ := hc
  simp only at c0 c1 c2 c3 c4
  have HB := Lib.hid hb
  have hr : ∀ w2 : World, (Instr.index 124 (.agg #[.int .i64 (-1), .int .i64 8, .int .i64 (-1), .int .i64 2, .int .i64 (-1), .int .i64 (-1), .int .i64 8, .int .i64 4, .int .i64 12, .int .i64 (-1), .int .i64 9, .int .i64 5, .int .i64 (-1), .int .i64 (-1), .int .i64 (-1), .int .i64 2, .int .i64 0, .int .i64 8, .int .i64 0, .int .i64 2, .int .i64 4, .int .i64 8, .int .i64 1, .int .i64 2]) (.int .i8 k)).run Tryd.prog w2 = .ok (.agg #[.int .i64 (tabP k 0), .int .i64 (tabP k 1), .int .i64 (tabP k 2), .int .i64 (tabP k 3)]) w2 := fun w2 => row_any k w2 hk
  have hi : ∀ w2 : World, (Instr.index 123 (.agg #[.int .i64 (tabP k 0), .int .i64 (tabP k 1), .int .i64 (tabP k 2), .int .i64 (tabP k 3)]) (.int .i64 ((s + 4).tmod 4))).run Tryd.prog w2 = .ok (.int .i64 9) w2 := fun w2 => by rw [Int.tmod_eq_emod_of_nonneg (by omega), col_any k _ w2 (by omega)]; rw [show (s + 4) % 4 = (s + 4 - 0) % 4 by omega, hb]
  have e1 : IntKind.i64.wrap (s + 4) = s + 4 := IntWalk.i64_in _ (by omega)
  have e2 : IntKind.i64.wrap (s + 4) = s + 4 := IntWalk.i64_in _ (by omega)
  clear hb
  go_enter Tryd.func34, Tryd.ntmps34
  go_wp2
  go_region_held3 (fun w' => w'.cell? ⟨b, o + 2, none⟩ = some (.int .i8 k)) (go_keep)
    (first | (go_at_call 62; refine (l01Table_any _).mono ?_; rintro e w' ⟨rfl, hb1⟩; have hb2 := (hb1.cell (p := ⟨b, o + 2, none⟩) hbl).trans c2))
  have hb3 : Below w.heap.size w w' := kTrans (Below.drew (Below.refl _ w)) hb1
  clear e1 e2 hi hr hb1
  go_wp2
  refine wp_loop_rounds 5 ?_
  rw [rounds_succ]
  go_wp2
  rw [rounds_succ]
  go_wp2
  rw [rounds_succ]
  go_wp2
  rw [rounds_succ]
  go_wp2
  rw [rounds_succ]
  go_wp2
  go_ret
  exact ⟨rfl, hb3⟩
set_option maxHeartbeats 4000000 in
theorem sh_12_0 (b o : Nat) (x y k d s : Int) (w : World) (hk : 0 ≤ k ∧ k ≤ 5) (hs : 0 ≤ s ∧ s ≤ 3) (hc : PcAt w b o ⟨x, y, k, 0, d⟩) (hbl : b < w.heap.size) (hb : tabP k ((s + 4 - 0) % 4) = 12) :
    Calls Tryd.prog 34 #[.pointer (some ⟨b, o, none⟩), .int .i64 s] w fun r w' => r = .returned (.int .i64 12) ∧ Below w.heap.size w w' := by
  obtain ⟨c0, c1, c2, c3, c4⟩ := hc
  simp only at c0 c1 c2 c3 c4
  have HB := Lib.hid hb
  have hr : ∀ w2 : World, (Instr.index 124 (.agg #[.int .i64 (-1), .int .i64 8, .int .i64 (-1), .int .i64 2, .int .i64 (-1), .int .i64 (-1), .int .i64 8, .int .i64 4, .int .i64 12, .int .i64 (-1), .int .i64 9, .int .i64 5, .int .i64 (-1), .int .i64 (-1), .int .i64 (-1), .int .i64 2, .int .i64 0, .int .i64 8, .int .i64 0, .int .i64 2, .int .i64 4, .int .i64 8, .int .i64 1, .int .i64 2]) (.int .i8 k)).run Tryd.prog w2 = .ok (.agg #[.int .i64 (tabP k 0), .int .i64 (tabP k 1), .int .i64 (tabP k 2), .int .i64 (tabP k 3)]) w2 := fun w2 => row_any k w2 hk
  have hi : ∀ w2 : World, (Instr.index 123 (.agg #[.int .i64 (tabP k 0), .int .i64 (tabP k 1), .int .i64 (tabP k 2), .int .i64 (tabP k 3)]) (.int .i64 ((s + 4).tmod 4))).run Tryd.prog w2 = .ok (.int .i64 12) w2 := fun w2 => by rw [Int.tmod_eq_emod_of_nonneg (by omega), col_any k _ w2 (by omega)]; rw [show (s + 4) % 4 = (s + 4 - 0) % 4 by omega, hb]
  have e1 : IntKind.i64.wrap (s + 4) = s + 4 := IntWalk.i64_in _ (by omega)
  have e2 : IntKind.i64.wrap (s + 4) = s + 4 := IntWalk.i64_in _ (by omega)
  clear hb
  go_enter Tryd.func34, Tryd.ntmps34
  go_wp2
  go_region_held3 (fun w' => w'.cell? ⟨b, o + 2, none⟩ = some (.int .i8 k)) (go_keep)
    (first | (go_at_call 62; refine (l01Table_any _).mono ?_; rintro e w' ⟨rfl, hb1⟩; have hb2 := (hb1.cell (p := ⟨b, o + 2, none⟩) hbl).trans c2))
  have hb3 : Below w.heap.size w w' := kTrans (Below.drew (Below.refl _ w)) hb1
  clear e1 e2 hi hr hb1
  go_wp2
  refine wp_loop_rounds 5 ?_
  rw [rounds_succ]
  go_wp2
  rw [rounds_succ]
  go_wp2
  rw [rounds_succ]
  go_wp2
  rw [rounds_succ]
  go_wp2
  rw [rounds_succ]
  go_wp2
  go_ret
  exact ⟨rfl, hb3⟩
end Go.Proofs.YtflkfkbdgekpkaaDoor

/- Contracts of what a piece does that is hit: the model, turned by 1. -/
namespace Go.Proofs.YtflkfkbdgekpkaaDoor
open Go.ChangeShapes Go.WideShapes Go.ChangeAt Go.RowKit
set_option linter.unusedVariables false
set_option maxHeartbeats 4000000 in
theorem sh_m1_1 (b o : Nat) (x y k d s : Int) (w : World) (hk : 0 ≤ k ∧ k ≤ 5) (hs : 0 ≤ s ∧ s ≤ 3) (hc : PcAt w b o ⟨x, y, k, 1, d⟩) (hbl : b < w.heap.size) (hb : tabP k ((s + 4 - 1) % 4) = (-1)) :
    Calls Tryd.prog 34 #[.pointer (some ⟨b, o, none⟩), .int .i64 s] w fun r w' => r = .returned (.int .i64 (-1)) ∧ Below w.heap.size w w' := by
  obtain ⟨c0, c1, c2, c3, c4⟩ := hc
  simp only at c0 c1 c2 c3 c4
  have HB := Lib.hid hb
  have hr : ∀ w2 : World, (Instr.index 124 (.agg #[.int .i64 (-1), .int .i64 8, .int .i64 (-1), .int .i64 2, .int .i64 (-1), .int .i64 (-1), .int .i64 8, .int .i64 4, .int .i64 12, .int .i64 (-1), .int .i64 9, .int .i64 5, .int .i64 (-1), .int .i64 (-1), .int .i64 (-1), .int .i64 2, .int .i64 0, .int .i64 8, .int .i64 0, .int .i64 2, .int .i64 4, .int .i64 8, .int .i64 1, .int .i64 2]) (.int .i8 k)).run Tryd.prog w2 = .ok (.agg #[.int .i64 (tabP k 0), .int .i64 (tabP k 1), .int .i64 (tabP k 2), .int .i64 (tabP k 3)]) w2 := fun w2 => row_any k w2 hk
  have hi : ∀ w2 : World, (Instr.index 123 (.agg #[.int .i64 (tabP k 0), .int .i64 (tabP k 1), .int .i64 (tabP k 2), .int .i64 (tabP k 3)]) (.int .i64 ((s + 4 - 1).tmod 4))).run Tryd.prog w2 = .ok (.int .i64 (-1)) w2 := fun w2 => by rw [Int.tmod_eq_emod_of_nonneg (by omega), col_any k _ w2 (by omega)]; rw [show (s + 4 - 1) % 4 = (s + 4 - 1) % 4 by omega, hb]
  have e1 : IntKind.i64.wrap (s + 4) = s + 4 := IntWalk.i64_in _ (by omega)
  have e2 : IntKind.i64.wrap (s + 4 - 1) = s + 4 - 1 := IntWalk.i64_in _ (by omega)
  clear hb
  go_enter Tryd.func34, Tryd.ntmps34
  go_wp2
  go_region_held3 (fun w' => w'.cell? ⟨b, o + 2, none⟩ = some (.int .i8 k)) (go_keep)
    (first | (go_at_call 62; refine (l01Table_any _).mono ?_; rintro e w' ⟨rfl, hb1⟩; have hb2 := (hb1.cell (p := ⟨b, o + 2, none⟩) hbl).trans c2))
  have hb3 : Below w.heap.size w w' := kTrans (Below.drew (Below.refl _ w)) hb1
  clear e1 e2 hi hr hb1
  go_wp2
  go_ret
  exact ⟨rfl, hb3⟩
set_option maxHeartbeats 4000000 in
theorem sh_0_1 (b o : Nat) (x y k d s : Int) (w : World) (hk : 0 ≤ k ∧ k ≤ 5) (hs : 0 ≤ s ∧ s ≤ 3) (hc : PcAt w b o ⟨x, y, k, 1, d⟩) (hbl : b < w.heap.size) (hb : tabP k ((s + 4 - 1) % 4) = 0) :
    Calls Tryd.prog 34 #[.pointer (some ⟨b, o, none⟩), .int .i64 s] w fun r w' => r = .returned (.int .i64 0) ∧ Below w.heap.size w w' := by
  obtain ⟨c0, c1, c2, c3, c4⟩ := hc
  simp only at c0 c1 c2 c3 c4
  have HB := Lib.hid hb
  have hr : ∀ w2 : World, (Instr.index 124 (.agg #[.int .i64 (-1), .int .i64 8, .int .i64 (-1), .int .i64 2, .int .i64 (-1), .int .i64 (-1), .int .i64 8, .int .i64 4, .int .i64 12, .int .i64 (-1), .int .i64 9, .int .i64 5, .int .i64 (-1), .int .i64 (-1), .int .i64 (-1), .int .i64 2, .int .i64 0, .int .i64 8, .int .i64 0, .int .i64 2, .int .i64 4, .int .i64 8, .int .i64 1, .int .i64 2]) (.int .i8 k)).run Tryd.prog w2 = .ok (.agg #[.int .i64 (tabP k 0), .int .i64 (tabP k 1), .int .i64 (tabP k 2), .int .i64 (tabP k 3)]) w2 := fun w2 => row_any k w2 hk
  have hi : ∀ w2 : World, (Instr.index 123 (.agg #[.int .i64 (tabP k 0), .int .i64 (tabP k 1), .int .i64 (tabP k 2), .int .i64 (tabP k 3)]) (.int .i64 ((s + 4 - 1).tmod 4))).run Tryd.prog w2 = .ok (.int .i64 0) w2 := fun w2 => by rw [Int.tmod_eq_emod_of_nonneg (by omega), col_any k _ w2 (by omega)]; rw [show (s + 4 - 1) % 4 = (s + 4 - 1) % 4 by omega, hb]
  have e1 : IntKind.i64.wrap (s + 4) = s + 4 := IntWalk.i64_in _ (by omega)
  have e2 : IntKind.i64.wrap (s + 4 - 1) = s + 4 - 1 := IntWalk.i64_in _ (by omega)
  clear hb
  go_enter Tryd.func34, Tryd.ntmps34
  go_wp2
  go_region_held3 (fun w' => w'.cell? ⟨b, o + 2, none⟩ = some (.int .i8 k)) (go_keep)
    (first | (go_at_call 62; refine (l01Table_any _).mono ?_; rintro e w' ⟨rfl, hb1⟩; have hb2 := (hb1.cell (p := ⟨b, o + 2, none⟩) hbl).trans c2))
  have hb3 : Below w.heap.size w w' := kTrans (Below.drew (Below.refl _ w)) hb1
  clear e1 e2 hi hr hb1
  go_wp2
  refine wp_loop_rounds 5 ?_
  rw [rounds_succ]
  go_wp2
  rw [rounds_succ]
  go_wp2
  rw [rounds_succ]
  go_wp2
  rw [rounds_succ]
  go_wp2
  rw [rounds_succ]
  go_wp2
  go_ret
  exact ⟨rfl, hb3⟩
set_option maxHeartbeats 4000000 in
theorem sh_1_1 (b o : Nat) (x y k d s : Int) (w : World) (hk : 0 ≤ k ∧ k ≤ 5) (hs : 0 ≤ s ∧ s ≤ 3) (hc : PcAt w b o ⟨x, y, k, 1, d⟩) (hbl : b < w.heap.size) (hb : tabP k ((s + 4 - 1) % 4) = 1) :
    Calls Tryd.prog 34 #[.pointer (some ⟨b, o, none⟩), .int .i64 s] w fun r w' => r = .returned (.int .i64 2) ∧ Below w.heap.size w w' := by
  obtain ⟨c0, c1, c2, c3, c4⟩ := hc
  simp only at c0 c1 c2 c3 c4
  have HB := Lib.hid hb
  have hr : ∀ w2 : World, (Instr.index 124 (.agg #[.int .i64 (-1), .int .i64 8, .int .i64 (-1), .int .i64 2, .int .i64 (-1), .int .i64 (-1), .int .i64 8, .int .i64 4, .int .i64 12, .int .i64 (-1), .int .i64 9, .int .i64 5, .int .i64 (-1), .int .i64 (-1), .int .i64 (-1), .int .i64 2, .int .i64 0, .int .i64 8, .int .i64 0, .int .i64 2, .int .i64 4, .int .i64 8, .int .i64 1, .int .i64 2]) (.int .i8 k)).run Tryd.prog w2 = .ok (.agg #[.int .i64 (tabP k 0), .int .i64 (tabP k 1), .int .i64 (tabP k 2), .int .i64 (tabP k 3)]) w2 := fun w2 => row_any k w2 hk
  have hi : ∀ w2 : World, (Instr.index 123 (.agg #[.int .i64 (tabP k 0), .int .i64 (tabP k 1), .int .i64 (tabP k 2), .int .i64 (tabP k 3)]) (.int .i64 ((s + 4 - 1).tmod 4))).run Tryd.prog w2 = .ok (.int .i64 1) w2 := fun w2 => by rw [Int.tmod_eq_emod_of_nonneg (by omega), col_any k _ w2 (by omega)]; rw [show (s + 4 - 1) % 4 = (s + 4 - 1) % 4 by omega, hb]
  have e1 : IntKind.i64.wrap (s + 4) = s + 4 := IntWalk.i64_in _ (by omega)
  have e2 : IntKind.i64.wrap (s + 4 - 1) = s + 4 - 1 := IntWalk.i64_in _ (by omega)
  clear hb
  go_enter Tryd.func34, Tryd.ntmps34
  go_wp2
  go_region_held3 (fun w' => w'.cell? ⟨b, o + 2, none⟩ = some (.int .i8 k)) (go_keep)
    (first | (go_at_call 62; refine (l01Table_any _).mono ?_; rintro e w' ⟨rfl, hb1⟩; have hb2 := (hb1.cell (p := ⟨b, o + 2, none⟩) hbl).trans c2))
  have hb3 : Below w.heap.size w w' := kTrans (Below.drew (Below.refl _ w)) hb1
  clear e1 e2 hi hr hb1
  go_wp2
  refine wp_loop_rounds 5 ?_
  rw [rounds_succ]
  go_wp2
  rw [rounds_succ]
  go_wp2
  rw [rounds_succ]
  go_wp2
  rw [rounds_succ]
  go_wp2
  rw [rounds_succ]
  go_wp2
  go_ret
  exact ⟨rfl, hb3⟩
set_option maxHeartbeats 4000000 in
theorem sh_2_1 (b o : Nat) (x y k d s : Int) (w : World) (hk : 0 ≤ k ∧ k ≤ 5) (hs : 0 ≤ s ∧ s ≤ 3) (hc : PcAt w b o ⟨x, y, k, 1, d⟩) (hbl : b < w.heap.size) (hb : tabP k ((s + 4 - 1) % 4) = 2) :
    Calls Tryd.prog 34 #[.pointer (some ⟨b, o, none⟩), .int .i64 s] w fun r w' => r = .returned (.int .i64 4) ∧ Below w.heap.size w w' := by
  obtain ⟨c0, c1, c2, c3, c4⟩ := hc
  simp only at c0 c1 c2 c3 c4
  have HB := Lib.hid hb
  have hr : ∀ w2 : World, (Instr.index 124 (.agg #[.int .i64 (-1), .int .i64 8, .int .i64 (-1), .int .i64 2, .int .i64 (-1), .int .i64 (-1), .int .i64 8, .int .i64 4, .int .i64 12, .int .i64 (-1), .int .i64 9, .int .i64 5, .int .i64 (-1), .int .i64 (-1), .int .i64 (-1), .int .i64 2, .int .i64 0, .int .i64 8, .int .i64 0, .int .i64 2, .int .i64 4, .int .i64 8, .int .i64 1, .int .i64 2]) (.int .i8 k)).run Tryd.prog w2 = .ok (.agg #[.int .i64 (tabP k 0), .int .i64 (tabP k 1), .int .i64 (tabP k 2), .int .i64 (tabP k 3)]) w2 := fun w2 => row_any k w2 hk
  have hi : ∀ w2 : World, (Instr.index 123 (.agg #[.int .i64 (tabP k 0), .int .i64 (tabP k 1), .int .i64 (tabP k 2), .int .i64 (tabP k 3)]) (.int .i64 ((s + 4 - 1).tmod 4))).run Tryd.prog w2 = .ok (.int .i64 2) w2 := fun w2 => by rw [Int.tmod_eq_emod_of_nonneg (by omega), col_any k _ w2 (by omega)]; rw [show (s + 4 - 1) % 4 = (s + 4 - 1) % 4 by omega, hb]
  have e1 : IntKind.i64.wrap (s + 4) = s + 4 := IntWalk.i64_in _ (by omega)
  have e2 : IntKind.i64.wrap (s + 4 - 1) = s + 4 - 1 := IntWalk.i64_in _ (by omega)
  clear hb
  go_enter Tryd.func34, Tryd.ntmps34
  go_wp2
  go_region_held3 (fun w' => w'.cell? ⟨b, o + 2, none⟩ = some (.int .i8 k)) (go_keep)
    (first | (go_at_call 62; refine (l01Table_any _).mono ?_; rintro e w' ⟨rfl, hb1⟩; have hb2 := (hb1.cell (p := ⟨b, o + 2, none⟩) hbl).trans c2))
  have hb3 : Below w.heap.size w w' := kTrans (Below.drew (Below.refl _ w)) hb1
  clear e1 e2 hi hr hb1
  go_wp2
  refine wp_loop_rounds 5 ?_
  rw [rounds_succ]
  go_wp2
  rw [rounds_succ]
  go_wp2
  rw [rounds_succ]
  go_wp2
  rw [rounds_succ]
  go_wp2
  rw [rounds_succ]
  go_wp2
  go_ret
  exact ⟨rfl, hb3⟩
set_option maxHeartbeats 4000000 in
theorem sh_4_1 (b o : Nat) (x y k d s : Int) (w : World) (hk : 0 ≤ k ∧ k ≤ 5) (hs : 0 ≤ s ∧ s ≤ 3) (hc : PcAt w b o ⟨x, y, k, 1, d⟩) (hbl : b < w.heap.size) (hb : tabP k ((s + 4 - 1) % 4) = 4) :
    Calls Tryd.prog 34 #[.pointer (some ⟨b, o, none⟩), .int .i64 s] w fun r w' => r = .returned (.int .i64 8) ∧ Below w.heap.size w w' := by
  obtain ⟨c0, c1, c2, c3, c4⟩ := hc
  simp only at c0 c1 c2 c3 c4
  have HB := Lib.hid hb
  have hr : ∀ w2 : World, (Instr.index 124 (.agg #[.int .i64 (-1), .int .i64 8, .int .i64 (-1), .int .i64 2, .int .i64 (-1), .int .i64 (-1), .int .i64 8, .int .i64 4, .int .i64 12, .int .i64 (-1), .int .i64 9, .int .i64 5, .int .i64 (-1), .int .i64 (-1), .int .i64 (-1), .int .i64 2, .int .i64 0, .int .i64 8, .int .i64 0, .int .i64 2, .int .i64 4, .int .i64 8, .int .i64 1, .int .i64 2]) (.int .i8 k)).run Tryd.prog w2 = .ok (.agg #[.int .i64 (tabP k 0), .int .i64 (tabP k 1), .int .i64 (tabP k 2), .int .i64 (tabP k 3)]) w2 := fun w2 => row_any k w2 hk
  have hi : ∀ w2 : World, (Instr.index 123 (.agg #[.int .i64 (tabP k 0), .int .i64 (tabP k 1), .int .i64 (tabP k 2), .int .i64 (tabP k 3)]) (.int .i64 ((s + 4 - 1).tmod 4))).run Tryd.prog w2 = .ok (.int .i64 4) w2 := fun w2 => by rw [Int.tmod_eq_emod_of_nonneg (by omega), col_any k _ w2 (by omega)]; rw [show (s + 4 - 1) % 4 = (s + 4 - 1) % 4 by omega, hb]
  have e1 : IntKind.i64.wrap (s + 4) = s + 4 := IntWalk.i64_in _ (by omega)
  have e2 : IntKind.i64.wrap (s + 4 - 1) = s + 4 - 1 := IntWalk.i64_in _ (by omega)
  clear hb
  go_enter Tryd.func34, Tryd.ntmps34
  go_wp2
  go_region_held3 (fun w' => w'.cell? ⟨b, o + 2, none⟩ = some (.int .i8 k)) (go_keep)
    (first | (go_at_call 62; refine (l01Table_any _).mono ?_; rintro e w' ⟨rfl, hb1⟩; have hb2 := (hb1.cell (p := ⟨b, o + 2, none⟩) hbl).trans c2))
  have hb3 : Below w.heap.size w w' := kTrans (Below.drew (Below.refl _ w)) hb1
  clear e1 e2 hi hr hb1
  go_wp2
  refine wp_loop_rounds 5 ?_
  rw [rounds_succ]
  go_wp2
  rw [rounds_succ]
  go_wp2
  rw [rounds_succ]
  go_wp2
  rw [rounds_succ]
  go_wp2
  rw [rounds_succ]
  go_wp2
  go_ret
  exact ⟨rfl, hb3⟩
set_option maxHeartbeats 4000000 in
theorem sh_5_1 (b o : Nat) (x y k d s : Int) (w : World) (hk : 0 ≤ k ∧ k ≤ 5) (hs : 0 ≤ s ∧ s ≤ 3) (hc : PcAt w b o ⟨x, y, k, 1, d⟩) (hbl : b < w.heap.size) (hb : tabP k ((s + 4 - 1) % 4) = 5) :
    Calls Tryd.prog 34 #[.pointer (some ⟨b, o, none⟩), .int .i64 s] w fun r w' => r = .returned (.int .i64 10) ∧ Below w.heap.size w w' := by
  obtain ⟨c0, c1, c2, c3, c4⟩ := hc
  simp only at c0 c1 c2 c3 c4
  have HB := Lib.hid hb
  have hr : ∀ w2 : World, (Instr.index 124 (.agg #[.int .i64 (-1), .int .i64 8, .int .i64 (-1), .int .i64 2, .int .i64 (-1), .int .i64 (-1), .int .i64 8, .int .i64 4, .int .i64 12, .int .i64 (-1), .int .i64 9, .int .i64 5, .int .i64 (-1), .int .i64 (-1), .int .i64 (-1), .int .i64 2, .int .i64 0, .int .i64 8, .int .i64 0, .int .i64 2, .int .i64 4, .int .i64 8, .int .i64 1, .int .i64 2]) (.int .i8 k)).run Tryd.prog w2 = .ok (.agg #[.int .i64 (tabP k 0), .int .i64 (tabP k 1), .int .i64 (tabP k 2), .int .i64 (tabP k 3)]) w2 := fun w2 => row_any k w2 hk
  have hi : ∀ w2 : World, (Instr.index 123 (.agg #[.int .i64 (tabP k 0), .int .i64 (tabP k 1), .int .i64 (tabP k 2), .int .i64 (tabP k 3)]) (.int .i64 ((s + 4 - 1).tmod 4))).run Tryd.prog w2 = .ok (.int .i64 5) w2 := fun w2 => by rw [Int.tmod_eq_emod_of_nonneg (by omega), col_any k _ w2 (by omega)]; rw [show (s + 4 - 1) % 4 = (s + 4 - 1) % 4 by omega, hb]
  have e1 : IntKind.i64.wrap (s + 4) = s + 4 := IntWalk.i64_in _ (by omega)
  have e2 : IntKind.i64.wrap (s + 4 - 1) = s + 4 - 1 := IntWalk.i64_in _ (by omega)
  clear hb
  go_enter Tryd.func34, Tryd.ntmps34
  go_wp2
  go_region_held3 (fun w' => w'.cell? ⟨b, o + 2, none⟩ = some (.int .i8 k)) (go_keep)
    (first | (go_at_call 62; refine (l01Table_any _).mono ?_; rintro e w' ⟨rfl, hb1⟩; have hb2 := (hb1.cell (p := ⟨b, o + 2, none⟩) hbl).trans c2))
  have hb3 : Below w.heap.size w w' := kTrans (Below.drew (Below.refl _ w)) hb1
  clear e1 e2 hi hr hb1
  go_wp2
  refine wp_loop_rounds 5 ?_
  rw [rounds_succ]
  go_wp2
  rw [rounds_succ]
  go_wp2
  rw [rounds_succ]
  go_wp2
  rw [rounds_succ]
  go_wp2
  rw [rounds_succ]
  go_wp2
  go_ret
  exact ⟨rfl, hb3⟩
set_option maxHeartbeats 4000000 in
theorem sh_8_1 (b o : Nat) (x y k d s : Int) (w : World) (hk : 0 ≤ k ∧ k ≤ 5) (hs : 0 ≤ s ∧ s ≤ 3) (hc : PcAt w b o ⟨x, y, k, 1, d⟩) (hbl : b < w.heap.size) (hb : tabP k ((s + 4 - 1) % 4) = 8) :
    Calls Tryd.prog 34 #[.pointer (some ⟨b, o, none⟩), .int .i64 s] w fun r w' => r = .returned (.int .i64 1) ∧ Below w.heap.size w w' := by
  obtain ⟨c0, c1, c2, c3, c4⟩ := hc
  simp only at c0 c1 c2 c3 c4
  have HB := Lib.hid hb
  have hr : ∀ w2 : World, (Instr.index 124 (.agg #[.int .i64 (-1), .int .i64 8, .int .i64 (-1), .int .i64 2, .int .i64 (-1), .int .i64 (-1), .int .i64 8, .int .i64 4, .int .i64 12, .int .i64 (-1), .int .i64 9, .int .i64 5, .int .i64 (-1), .int .i64 (-1), .int .i64 (-1), .int .i64 2, .int .i64 0, .int .i64 8, .int .i64 0, .int .i64 2, .int .i64 4, .int .i64 8, .int .i64 1, .int .i64 2]) (.int .i8 k)).run Tryd.prog w2 = .ok (.agg #[.int .i64 (tabP k 0), .int .i64 (tabP k 1), .int .i64 (tabP k 2), .int .i64 (tabP k 3)]) w2 := fun w2 => row_any k w2 hk
  have hi : ∀ w2 : World, (Instr.index 123 (.agg #[.int .i64 (tabP k 0), .int .i64 (tabP k 1), .int .i64 (tabP k 2), .int .i64 (tabP k 3)]) (.int .i64 ((s + 4 - 1).tmod 4))).run Tryd.prog w2 = .ok (.int .i64 8) w2 := fun w2 => by rw [Int.tmod_eq_emod_of_nonneg (by omega), col_any k _ w2 (by omega)]; rw [show (s + 4 - 1) % 4 = (s + 4 - 1) % 4 by omega, hb]
  have e1 : IntKind.i64.wrap (s + 4) = s + 4 := IntWalk.i64_in _ (by omega)
  have e2 : IntKind.i64.wrap (s + 4 - 1) = s + 4 - 1 := IntWalk.i64_in _ (by omega)
  clear hb
  go_enter Tryd.func34, Tryd.ntmps34
  go_wp2
  go_region_held3 (fun w' => w'.cell? ⟨b, o + 2, none⟩ = some (.int .i8 k)) (go_keep)
    (first | (go_at_call 62; refine (l01Table_any _).mono ?_; rintro e w' ⟨rfl, hb1⟩; have hb2 := (hb1.cell (p := ⟨b, o + 2, none⟩) hbl).trans c2))
  have hb3 : Below w.heap.size w w' := kTrans (Below.drew (Below.refl _ w)) hb1
  clear e1 e2 hi hr hb1
  go_wp2
  refine wp_loop_rounds 5 ?_
  rw [rounds_succ]
  go_wp2
  rw [rounds_succ]
  go_wp2
  rw [rounds_succ]
  go_wp2
  rw [rounds_succ]
  go_wp2
  rw [rounds_succ]
  go_wp2
  go_ret
  exact ⟨rfl, hb3⟩
set_option maxHeartbeats 4000000 in
theorem sh_9_1 (b o : Nat) (x y k d s : Int) (w : World) (hk : 0 ≤ k ∧ k ≤ 5) (hs : 0 ≤ s ∧ s ≤ 3) (hc : PcAt w b o ⟨x, y, k, 1, d⟩) (hbl : b < w.heap.size) (hb : tabP k ((s + 4 - 1) % 4) = 9) :
    Calls Tryd.prog 34 #[.pointer (some ⟨b, o, none⟩), .int .i64 s] w fun r w' => r = .returned (.int .i64 3) ∧ Below w.heap.size w w' := by
  obtain ⟨c0, c1, c2, c3, c4⟩ := hc
  simp only at c0 c1 c2 c3 c4
  have HB := Lib.hid hb
  have hr : ∀ w2 : World, (Instr.index 124 (.agg #[.int .i64 (-1), .int .i64 8, .int .i64 (-1), .int .i64 2, .int .i64 (-1), .int .i64 (-1), .int .i64 8, .int .i64 4, .int .i64 12, .int .i64 (-1), .int .i64 9, .int .i64 5, .int .i64 (-1), .int .i64 (-1), .int .i64 (-1), .int .i64 2, .int .i64 0, .int .i64 8, .int .i64 0, .int .i64 2, .int .i64 4, .int .i64 8, .int .i64 1, .int .i64 2]) (.int .i8 k)).run Tryd.prog w2 = .ok (.agg #[.int .i64 (tabP k 0), .int .i64 (tabP k 1), .int .i64 (tabP k 2), .int .i64 (tabP k 3)]) w2 := fun w2 => row_any k w2 hk
  have hi : ∀ w2 : World, (Instr.index 123 (.agg #[.int .i64 (tabP k 0), .int .i64 (tabP k 1), .int .i64 (tabP k 2), .int .i64 (tabP k 3)]) (.int .i64 ((s + 4 - 1).tmod 4))).run Tryd.prog w2 = .ok (.int .i64 9) w2 := fun w2 => by rw [Int.tmod_eq_emod_of_nonneg (by omega), col_any k _ w2 (by omega)]; rw [show (s + 4 - 1) % 4 = (s + 4 - 1) % 4 by omega, hb]
  have e1 : IntKind.i64.wrap (s + 4) = s + 4 := IntWalk.i64_in _ (by omega)
  have e2 : IntKind.i64.wrap (s + 4 - 1) = s + 4 - 1 := IntWalk.i64_in _ (by omega)
  clear hb
  go_enter Tryd.func34, Tryd.ntmps34
  go_wp2
  go_region_held3 (fun w' => w'.cell? ⟨b, o + 2, none⟩ = some (.int .i8 k)) (go_keep)
    (first | (go_at_call 62; refine (l01Table_any _).mono ?_; rintro e w' ⟨rfl, hb1⟩; have hb2 := (hb1.cell (p := ⟨b, o + 2, none⟩) hbl).trans c2))
  have hb3 : Below w.heap.size w w' := kTrans (Below.drew (Below.refl _ w)) hb1
  clear e1 e2 hi hr hb1
  go_wp2
  refine wp_loop_rounds 5 ?_
  rw [rounds_succ]
  go_wp2
  rw [rounds_succ]
  go_wp2
  rw [rounds_succ]
  go_wp2
  rw [rounds_succ]
  go_wp2
  rw [rounds_succ]
  go_wp2
  go_ret
  exact ⟨rfl, hb3⟩
set_option maxHeartbeats 4000000 in
theorem sh_12_1 (b o : Nat) (x y k d s : Int) (w : World) (hk : 0 ≤ k ∧ k ≤ 5) (hs : 0 ≤ s ∧ s ≤ 3) (hc : PcAt w b o ⟨x, y, k, 1, d⟩) (hbl : b < w.heap.size) (hb : tabP k ((s + 4 - 1) % 4) = 12) :
    Calls Tryd.prog 34 #[.pointer (some ⟨b, o, none⟩), .int .i64 s] w fun r w' => r = .returned (.int .i64 9) ∧ Below w.heap.size w w' := by
  obtain ⟨c0, c1, c2, c3, c4⟩ := hc
  simp only at c0 c1 c2 c3 c4
  have HB := Lib.hid hb
  have hr : ∀ w2 : World, (Instr.index 124 (.agg #[.int .i64 (-1), .int .i64 8, .int .i64 (-1), .int .i64 2, .int .i64 (-1), .int .i64 (-1), .int .i64 8, .int .i64 4, .int .i64 12, .int .i64 (-1), .int .i64 9, .int .i64 5, .int .i64 (-1), .int .i64 (-1), .int .i64 (-1), .int .i64 2, .int .i64 0, .int .i64 8, .int .i64 0, .int .i64 2, .int .i64 4, .int .i64 8, .int .i64 1, .int .i64 2]) (.int .i8 k)).run Tryd.prog w2 = .ok (.agg #[.int .i64 (tabP k 0), .int .i64 (tabP k 1), .int .i64 (tabP k 2), .int .i64 (tabP k 3)]) w2 := fun w2 => row_any k w2 hk
  have hi : ∀ w2 : World, (Instr.index 123 (.agg #[.int .i64 (tabP k 0), .int .i64 (tabP k 1), .int .i64 (tabP k 2), .int .i64 (tabP k 3)]) (.int .i64 ((s + 4 - 1).tmod 4))).run Tryd.prog w2 = .ok (.int .i64 12) w2 := fun w2 => by rw [Int.tmod_eq_emod_of_nonneg (by omega), col_any k _ w2 (by omega)]; rw [show (s + 4 - 1) % 4 = (s + 4 - 1) % 4 by omega, hb]
  have e1 : IntKind.i64.wrap (s + 4) = s + 4 := IntWalk.i64_in _ (by omega)
  have e2 : IntKind.i64.wrap (s + 4 - 1) = s + 4 - 1 := IntWalk.i64_in _ (by omega)
  clear hb
  go_enter Tryd.func34, Tryd.ntmps34
  go_wp2
  go_region_held3 (fun w' => w'.cell? ⟨b, o + 2, none⟩ = some (.int .i8 k)) (go_keep)
    (first | (go_at_call 62; refine (l01Table_any _).mono ?_; rintro e w' ⟨rfl, hb1⟩; have hb2 := (hb1.cell (p := ⟨b, o + 2, none⟩) hbl).trans c2))
  have hb3 : Below w.heap.size w w' := kTrans (Below.drew (Below.refl _ w)) hb1
  clear e1 e2 hi hr hb1
  go_wp2
  refine wp_loop_rounds 5 ?_
  rw [rounds_succ]
  go_wp2
  rw [rounds_succ]
  go_wp2
  rw [rounds_succ]
  go_wp2
  rw [rounds_succ]
  go_wp2
  rw [rounds_succ]
  go_wp2
  go_ret
  exact ⟨rfl, hb3⟩
end Go.Proofs.YtflkfkbdgekpkaaDoor

/- Contracts of what a piece does that is hit: the model, turned by 2. -/
namespace Go.Proofs.YtflkfkbdgekpkaaDoor
open Go.ChangeShapes Go.WideShapes Go.ChangeAt Go.RowKit
set_option linter.unusedVariables false
set_option maxHeartbeats 4000000 in
theorem sh_m1_2 (b o : Nat) (x y k d s : Int) (w : World) (hk : 0 ≤ k ∧ k ≤ 5) (hs : 0 ≤ s ∧ s ≤ 3) (hc : PcAt w b o ⟨x, y, k, 2, d⟩) (hbl : b < w.heap.size) (hb : tabP k ((s + 4 - 2) % 4) = (-1)) :
    Calls Tryd.prog 34 #[.pointer (some ⟨b, o, none⟩), .int .i64 s] w fun r w' => r = .returned (.int .i64 (-1)) ∧ Below w.heap.size w w' := by
  obtain ⟨c0, c1, c2, c3, c4⟩ := hc
  simp only at c0 c1 c2 c3 c4
  have HB := Lib.hid hb
  have hr : ∀ w2 : World, (Instr.index 124 (.agg #[.int .i64 (-1), .int .i64 8, .int .i64 (-1), .int .i64 2, .int .i64 (-1), .int .i64 (-1), .int .i64 8, .int .i64 4, .int .i64 12, .int .i64 (-1), .int .i64 9, .int .i64 5, .int .i64 (-1), .int .i64 (-1), .int .i64 (-1), .int .i64 2, .int .i64 0, .int .i64 8, .int .i64 0, .int .i64 2, .int .i64 4, .int .i64 8, .int .i64 1, .int .i64 2]) (.int .i8 k)).run Tryd.prog w2 = .ok (.agg #[.int .i64 (tabP k 0), .int .i64 (tabP k 1), .int .i64 (tabP k 2), .int .i64 (tabP k 3)]) w2 := fun w2 => row_any k w2 hk
  have hi : ∀ w2 : World, (Instr.index 123 (.agg #[.int .i64 (tabP k 0), .int .i64 (tabP k 1), .int .i64 (tabP k 2), .int .i64 (tabP k 3)]) (.int .i64 ((s + 4 - 2).tmod 4))).run Tryd.prog w2 = .ok (.int .i64 (-1)) w2 := fun w2 => by rw [Int.tmod_eq_emod_of_nonneg (by omega), col_any k _ w2 (by omega)]; rw [show (s + 4 - 2) % 4 = (s + 4 - 2) % 4 by omega, hb]
  have e1 : IntKind.i64.wrap (s + 4) = s + 4 := IntWalk.i64_in _ (by omega)
  have e2 : IntKind.i64.wrap (s + 4 - 2) = s + 4 - 2 := IntWalk.i64_in _ (by omega)
  clear hb
  go_enter Tryd.func34, Tryd.ntmps34
  go_wp2
  go_region_held3 (fun w' => w'.cell? ⟨b, o + 2, none⟩ = some (.int .i8 k)) (go_keep)
    (first | (go_at_call 62; refine (l01Table_any _).mono ?_; rintro e w' ⟨rfl, hb1⟩; have hb2 := (hb1.cell (p := ⟨b, o + 2, none⟩) hbl).trans c2))
  have hb3 : Below w.heap.size w w' := kTrans (Below.drew (Below.refl _ w)) hb1
  clear e1 e2 hi hr hb1
  go_wp2
  go_ret
  exact ⟨rfl, hb3⟩
set_option maxHeartbeats 4000000 in
theorem sh_0_2 (b o : Nat) (x y k d s : Int) (w : World) (hk : 0 ≤ k ∧ k ≤ 5) (hs : 0 ≤ s ∧ s ≤ 3) (hc : PcAt w b o ⟨x, y, k, 2, d⟩) (hbl : b < w.heap.size) (hb : tabP k ((s + 4 - 2) % 4) = 0) :
    Calls Tryd.prog 34 #[.pointer (some ⟨b, o, none⟩), .int .i64 s] w fun r w' => r = .returned (.int .i64 0) ∧ Below w.heap.size w w' := by
  obtain ⟨c0, c1, c2, c3, c4⟩ := hc
  simp only at c0 c1 c2 c3 c4
  have HB := Lib.hid hb
  have hr : ∀ w2 : World, (Instr.index 124 (.agg #[.int .i64 (-1), .int .i64 8, .int .i64 (-1), .int .i64 2, .int .i64 (-1), .int .i64 (-1), .int .i64 8, .int .i64 4, .int .i64 12, .int .i64 (-1), .int .i64 9, .int .i64 5, .int .i64 (-1), .int .i64 (-1), .int .i64 (-1), .int .i64 2, .int .i64 0, .int .i64 8, .int .i64 0, .int .i64 2, .int .i64 4, .int .i64 8, .int .i64 1, .int .i64 2]) (.int .i8 k)).run Tryd.prog w2 = .ok (.agg #[.int .i64 (tabP k 0), .int .i64 (tabP k 1), .int .i64 (tabP k 2), .int .i64 (tabP k 3)]) w2 := fun w2 => row_any k w2 hk
  have hi : ∀ w2 : World, (Instr.index 123 (.agg #[.int .i64 (tabP k 0), .int .i64 (tabP k 1), .int .i64 (tabP k 2), .int .i64 (tabP k 3)]) (.int .i64 ((s + 4 - 2).tmod 4))).run Tryd.prog w2 = .ok (.int .i64 0) w2 := fun w2 => by rw [Int.tmod_eq_emod_of_nonneg (by omega), col_any k _ w2 (by omega)]; rw [show (s + 4 - 2) % 4 = (s + 4 - 2) % 4 by omega, hb]
  have e1 : IntKind.i64.wrap (s + 4) = s + 4 := IntWalk.i64_in _ (by omega)
  have e2 : IntKind.i64.wrap (s + 4 - 2) = s + 4 - 2 := IntWalk.i64_in _ (by omega)
  clear hb
  go_enter Tryd.func34, Tryd.ntmps34
  go_wp2
  go_region_held3 (fun w' => w'.cell? ⟨b, o + 2, none⟩ = some (.int .i8 k)) (go_keep)
    (first | (go_at_call 62; refine (l01Table_any _).mono ?_; rintro e w' ⟨rfl, hb1⟩; have hb2 := (hb1.cell (p := ⟨b, o + 2, none⟩) hbl).trans c2))
  have hb3 : Below w.heap.size w w' := kTrans (Below.drew (Below.refl _ w)) hb1
  clear e1 e2 hi hr hb1
  go_wp2
  refine wp_loop_rounds 5 ?_
  rw [rounds_succ]
  go_wp2
  rw [rounds_succ]
  go_wp2
  rw [rounds_succ]
  go_wp2
  rw [rounds_succ]
  go_wp2
  rw [rounds_succ]
  go_wp2
  go_ret
  exact ⟨rfl, hb3⟩
set_option maxHeartbeats 4000000 in
theorem sh_1_2 (b o : Nat) (x y k d s : Int) (w : World) (hk : 0 ≤ k ∧ k ≤ 5) (hs : 0 ≤ s ∧ s ≤ 3) (hc : PcAt w b o ⟨x, y, k, 2, d⟩) (hbl : b < w.heap.size) (hb : tabP k ((s + 4 - 2) % 4) = 1) :
    Calls Tryd.prog 34 #[.pointer (some ⟨b, o, none⟩), .int .i64 s] w fun r w' => r = .returned (.int .i64 4) ∧ Below w.heap.size w w' := by
  obtain ⟨c0, c1, c2, c3, c4⟩ := hc
  simp only at c0 c1 c2 c3 c4
  have HB := Lib.hid hb
  have hr : ∀ w2 : World, (Instr.index 124 (.agg #[.int .i64 (-1), .int .i64 8, .int .i64 (-1), .int .i64 2, .int .i64 (-1), .int .i64 (-1), .int .i64 8, .int .i64 4, .int .i64 12, .int .i64 (-1), .int .i64 9, .int .i64 5, .int .i64 (-1), .int .i64 (-1), .int .i64 (-1), .int .i64 2, .int .i64 0, .int .i64 8, .int .i64 0, .int .i64 2, .int .i64 4, .int .i64 8, .int .i64 1, .int .i64 2]) (.int .i8 k)).run Tryd.prog w2 = .ok (.agg #[.int .i64 (tabP k 0), .int .i64 (tabP k 1), .int .i64 (tabP k 2), .int .i64 (tabP k 3)]) w2 := fun w2 => row_any k w2 hk
  have hi : ∀ w2 : World, (Instr.index 123 (.agg #[.int .i64 (tabP k 0), .int .i64 (tabP k 1), .int .i64 (tabP k 2), .int .i64 (tabP k 3)]) (.int .i64 ((s + 4 - 2).tmod 4))).run Tryd.prog w2 = .ok (.int .i64 1) w2 := fun w2 => by rw [Int.tmod_eq_emod_of_nonneg (by omega), col_any k _ w2 (by omega)]; rw [show (s + 4 - 2) % 4 = (s + 4 - 2) % 4 by omega, hb]
  have e1 : IntKind.i64.wrap (s + 4) = s + 4 := IntWalk.i64_in _ (by omega)
  have e2 : IntKind.i64.wrap (s + 4 - 2) = s + 4 - 2 := IntWalk.i64_in _ (by omega)
  clear hb
  go_enter Tryd.func34, Tryd.ntmps34
  go_wp2
  go_region_held3 (fun w' => w'.cell? ⟨b, o + 2, none⟩ = some (.int .i8 k)) (go_keep)
    (first | (go_at_call 62; refine (l01Table_any _).mono ?_; rintro e w' ⟨rfl, hb1⟩; have hb2 := (hb1.cell (p := ⟨b, o + 2, none⟩) hbl).trans c2))
  have hb3 : Below w.heap.size w w' := kTrans (Below.drew (Below.refl _ w)) hb1
  clear e1 e2 hi hr hb1
  go_wp2
  refine wp_loop_rounds 5 ?_
  rw [rounds_succ]
  go_wp2
  rw [rounds_succ]
  go_wp2
  rw [rounds_succ]
  go_wp2
  rw [rounds_succ]
  go_wp2
  rw [rounds_succ]
  go_wp2
  go_ret
  exact ⟨rfl, hb3⟩
set_option maxHeartbeats 4000000 in
theorem sh_2_2 (b o : Nat) (x y k d s : Int) (w : World) (hk : 0 ≤ k ∧ k ≤ 5) (hs : 0 ≤ s ∧ s ≤ 3) (hc : PcAt w b o ⟨x, y, k, 2, d⟩) (hbl : b < w.heap.size) (hb : tabP k ((s + 4 - 2) % 4) = 2) :
    Calls Tryd.prog 34 #[.pointer (some ⟨b, o, none⟩), .int .i64 s] w fun r w' => r = .returned (.int .i64 8) ∧ Below w.heap.size w w' := by
  obtain ⟨c0, c1, c2, c3, c4⟩ := hc
  simp only at c0 c1 c2 c3 c4
  have HB := Lib.hid hb
  have hr : ∀ w2 : World, (Instr.index 124 (.agg #[.int .i64 (-1), .int .i64 8, .int .i64 (-1), .int .i64 2, .int .i64 (-1), .int .i64 (-1), .int .i64 8, .int .i64 4, .int .i64 12, .int .i64 (-1), .int .i64 9, .int .i64 5, .int .i64 (-1), .int .i64 (-1), .int .i64 (-1), .int .i64 2, .int .i64 0, .int .i64 8, .int .i64 0, .int .i64 2, .int .i64 4, .int .i64 8, .int .i64 1, .int .i64 2]) (.int .i8 k)).run Tryd.prog w2 = .ok (.agg #[.int .i64 (tabP k 0), .int .i64 (tabP k 1), .int .i64 (tabP k 2), .int .i64 (tabP k 3)]) w2 := fun w2 => row_any k w2 hk
  have hi : ∀ w2 : World, (Instr.index 123 (.agg #[.int .i64 (tabP k 0), .int .i64 (tabP k 1), .int .i64 (tabP k 2), .int .i64 (tabP k 3)]) (.int .i64 ((s + 4 - 2).tmod 4))).run Tryd.prog w2 = .ok (.int .i64 2) w2 := fun w2 => by rw [Int.tmod_eq_emod_of_nonneg (by omega), col_any k _ w2 (by omega)]; rw [show (s + 4 - 2) % 4 = (s + 4 - 2) % 4 by omega, hb]
  have e1 : IntKind.i64.wrap (s + 4) = s + 4 := IntWalk.i64_in _ (by omega)
  have e2 : IntKind.i64.wrap (s + 4 - 2) = s + 4 - 2 := IntWalk.i64_in _ (by omega)
  clear hb
  go_enter Tryd.func34, Tryd.ntmps34
  go_wp2
  go_region_held3 (fun w' => w'.cell? ⟨b, o + 2, none⟩ = some (.int .i8 k)) (go_keep)
    (first | (go_at_call 62; refine (l01Table_any _).mono ?_; rintro e w' ⟨rfl, hb1⟩; have hb2 := (hb1.cell (p := ⟨b, o + 2, none⟩) hbl).trans c2))
  have hb3 : Below w.heap.size w w' := kTrans (Below.drew (Below.refl _ w)) hb1
  clear e1 e2 hi hr hb1
  go_wp2
  refine wp_loop_rounds 5 ?_
  rw [rounds_succ]
  go_wp2
  rw [rounds_succ]
  go_wp2
  rw [rounds_succ]
  go_wp2
  rw [rounds_succ]
  go_wp2
  rw [rounds_succ]
  go_wp2
  go_ret
  exact ⟨rfl, hb3⟩
set_option maxHeartbeats 4000000 in
theorem sh_4_2 (b o : Nat) (x y k d s : Int) (w : World) (hk : 0 ≤ k ∧ k ≤ 5) (hs : 0 ≤ s ∧ s ≤ 3) (hc : PcAt w b o ⟨x, y, k, 2, d⟩) (hbl : b < w.heap.size) (hb : tabP k ((s + 4 - 2) % 4) = 4) :
    Calls Tryd.prog 34 #[.pointer (some ⟨b, o, none⟩), .int .i64 s] w fun r w' => r = .returned (.int .i64 1) ∧ Below w.heap.size w w' := by
  obtain ⟨c0, c1, c2, c3, c4⟩ := hc
  simp only at c0 c1 c2 c3 c4
  have HB := Lib.hid hb
  have hr : ∀ w2 : World, (Instr.index 124 (.agg #[.int .i64 (-1), .int .i64 8, .int .i64 (-1), .int .i64 2, .int .i64 (-1), .int .i64 (-1), .int .i64 8, .int .i64 4, .int .i64 12, .int .i64 (-1), .int .i64 9, .int .i64 5, .int .i64 (-1), .int .i64 (-1), .int .i64 (-1), .int .i64 2, .int .i64 0, .int .i64 8, .int .i64 0, .int .i64 2, .int .i64 4, .int .i64 8, .int .i64 1, .int .i64 2]) (.int .i8 k)).run Tryd.prog w2 = .ok (.agg #[.int .i64 (tabP k 0), .int .i64 (tabP k 1), .int .i64 (tabP k 2), .int .i64 (tabP k 3)]) w2 := fun w2 => row_any k w2 hk
  have hi : ∀ w2 : World, (Instr.index 123 (.agg #[.int .i64 (tabP k 0), .int .i64 (tabP k 1), .int .i64 (tabP k 2), .int .i64 (tabP k 3)]) (.int .i64 ((s + 4 - 2).tmod 4))).run Tryd.prog w2 = .ok (.int .i64 4) w2 := fun w2 => by rw [Int.tmod_eq_emod_of_nonneg (by omega), col_any k _ w2 (by omega)]; rw [show (s + 4 - 2) % 4 = (s + 4 - 2) % 4 by omega, hb]
  have e1 : IntKind.i64.wrap (s + 4) = s + 4 := IntWalk.i64_in _ (by omega)
  have e2 : IntKind.i64.wrap (s + 4 - 2) = s + 4 - 2 := IntWalk.i64_in _ (by omega)
  clear hb
  go_enter Tryd.func34, Tryd.ntmps34
  go_wp2
  go_region_held3 (fun w' => w'.cell? ⟨b, o + 2, none⟩ = some (.int .i8 k)) (go_keep)
    (first | (go_at_call 62; refine (l01Table_any _).mono ?_; rintro e w' ⟨rfl, hb1⟩; have hb2 := (hb1.cell (p := ⟨b, o + 2, none⟩) hbl).trans c2))
  have hb3 : Below w.heap.size w w' := kTrans (Below.drew (Below.refl _ w)) hb1
  clear e1 e2 hi hr hb1
  go_wp2
  refine wp_loop_rounds 5 ?_
  rw [rounds_succ]
  go_wp2
  rw [rounds_succ]
  go_wp2
  rw [rounds_succ]
  go_wp2
  rw [rounds_succ]
  go_wp2
  rw [rounds_succ]
  go_wp2
  go_ret
  exact ⟨rfl, hb3⟩
set_option maxHeartbeats 4000000 in
theorem sh_5_2 (b o : Nat) (x y k d s : Int) (w : World) (hk : 0 ≤ k ∧ k ≤ 5) (hs : 0 ≤ s ∧ s ≤ 3) (hc : PcAt w b o ⟨x, y, k, 2, d⟩) (hbl : b < w.heap.size) (hb : tabP k ((s + 4 - 2) % 4) = 5) :
    Calls Tryd.prog 34 #[.pointer (some ⟨b, o, none⟩), .int .i64 s] w fun r w' => r = .returned (.int .i64 5) ∧ Below w.heap.size w w' := by
  obtain ⟨c0, c1, c2, c3, c4⟩ := hc
  simp only at c0 c1 c2 c3 c4
  have HB := Lib.hid hb
  have hr : ∀ w2 : World, (Instr.index 124 (.agg #[.int .i64 (-1), .int .i64 8, .int .i64 (-1), .int .i64 2, .int .i64 (-1), .int .i64 (-1), .int .i64 8, .int .i64 4, .int .i64 12, .int .i64 (-1), .int .i64 9, .int .i64 5, .int .i64 (-1), .int .i64 (-1), .int .i64 (-1), .int .i64 2, .int .i64 0, .int .i64 8, .int .i64 0, .int .i64 2, .int .i64 4, .int .i64 8, .int .i64 1, .int .i64 2]) (.int .i8 k)).run Tryd.prog w2 = .ok (.agg #[.int .i64 (tabP k 0), .int .i64 (tabP k 1), .int .i64 (tabP k 2), .int .i64 (tabP k 3)]) w2 := fun w2 => row_any k w2 hk
  have hi : ∀ w2 : World, (Instr.index 123 (.agg #[.int .i64 (tabP k 0), .int .i64 (tabP k 1), .int .i64 (tabP k 2), .int .i64 (tabP k 3)]) (.int .i64 ((s + 4 - 2).tmod 4))).run Tryd.prog w2 = .ok (.int .i64 5) w2 := fun w2 => by rw [Int.tmod_eq_emod_of_nonneg (by omega), col_any k _ w2 (by omega)]; rw [show (s + 4 - 2) % 4 = (s + 4 - 2) % 4 by omega, hb]
  have e1 : IntKind.i64.wrap (s + 4) = s + 4 := IntWalk.i64_in _ (by omega)
  have e2 : IntKind.i64.wrap (s + 4 - 2) = s + 4 - 2 := IntWalk.i64_in _ (by omega)
  clear hb
  go_enter Tryd.func34, Tryd.ntmps34
  go_wp2
  go_region_held3 (fun w' => w'.cell? ⟨b, o + 2, none⟩ = some (.int .i8 k)) (go_keep)
    (first | (go_at_call 62; refine (l01Table_any _).mono ?_; rintro e w' ⟨rfl, hb1⟩; have hb2 := (hb1.cell (p := ⟨b, o + 2, none⟩) hbl).trans c2))
  have hb3 : Below w.heap.size w w' := kTrans (Below.drew (Below.refl _ w)) hb1
  clear e1 e2 hi hr hb1
  go_wp2
  refine wp_loop_rounds 5 ?_
  rw [rounds_succ]
  go_wp2
  rw [rounds_succ]
  go_wp2
  rw [rounds_succ]
  go_wp2
  rw [rounds_succ]
  go_wp2
  rw [rounds_succ]
  go_wp2
  go_ret
  exact ⟨rfl, hb3⟩
set_option maxHeartbeats 4000000 in
theorem sh_8_2 (b o : Nat) (x y k d s : Int) (w : World) (hk : 0 ≤ k ∧ k ≤ 5) (hs : 0 ≤ s ∧ s ≤ 3) (hc : PcAt w b o ⟨x, y, k, 2, d⟩) (hbl : b < w.heap.size) (hb : tabP k ((s + 4 - 2) % 4) = 8) :
    Calls Tryd.prog 34 #[.pointer (some ⟨b, o, none⟩), .int .i64 s] w fun r w' => r = .returned (.int .i64 2) ∧ Below w.heap.size w w' := by
  obtain ⟨c0, c1, c2, c3, c4⟩ := hc
  simp only at c0 c1 c2 c3 c4
  have HB := Lib.hid hb
  have hr : ∀ w2 : World, (Instr.index 124 (.agg #[.int .i64 (-1), .int .i64 8, .int .i64 (-1), .int .i64 2, .int .i64 (-1), .int .i64 (-1), .int .i64 8, .int .i64 4, .int .i64 12, .int .i64 (-1), .int .i64 9, .int .i64 5, .int .i64 (-1), .int .i64 (-1), .int .i64 (-1), .int .i64 2, .int .i64 0, .int .i64 8, .int .i64 0, .int .i64 2, .int .i64 4, .int .i64 8, .int .i64 1, .int .i64 2]) (.int .i8 k)).run Tryd.prog w2 = .ok (.agg #[.int .i64 (tabP k 0), .int .i64 (tabP k 1), .int .i64 (tabP k 2), .int .i64 (tabP k 3)]) w2 := fun w2 => row_any k w2 hk
  have hi : ∀ w2 : World, (Instr.index 123 (.agg #[.int .i64 (tabP k 0), .int .i64 (tabP k 1), .int .i64 (tabP k 2), .int .i64 (tabP k 3)]) (.int .i64 ((s + 4 - 2).tmod 4))).run Tryd.prog w2 = .ok (.int .i64 8) w2 := fun w2 => by rw [Int.tmod_eq_emod_of_nonneg (by omega), col_any k _ w2 (by omega)]; rw [show (s + 4 - 2) % 4 = (s + 4 - 2) % 4 by omega, hb]
  have e1 : IntKind.i64.wrap (s + 4) = s + 4 := IntWalk.i64_in _ (by omega)
  have e2 : IntKind.i64.wrap (s + 4 - 2) = s + 4 - 2 := IntWalk.i64_in _ (by omega)
  clear hb
  go_enter Tryd.func34, Tryd.ntmps34
  go_wp2
  go_region_held3 (fun w' => w'.cell? ⟨b, o + 2, none⟩ = some (.int .i8 k)) (go_keep)
    (first | (go_at_call 62; refine (l01Table_any _).mono ?_; rintro e w' ⟨rfl, hb1⟩; have hb2 := (hb1.cell (p := ⟨b, o + 2, none⟩) hbl).trans c2))
  have hb3 : Below w.heap.size w w' := kTrans (Below.drew (Below.refl _ w)) hb1
  clear e1 e2 hi hr hb1
  go_wp2
  refine wp_loop_rounds 5 ?_
  rw [rounds_succ]
  go_wp2
  rw [rounds_succ]
  go_wp2
  rw [rounds_succ]
  go_wp2
  rw [rounds_succ]
  go_wp2
  rw [rounds_succ]
  go_wp2
  go_ret
  exact ⟨rfl, hb3⟩
set_option maxHeartbeats 4000000 in
theorem sh_9_2 (b o : Nat) (x y k d s : Int) (w : World) (hk : 0 ≤ k ∧ k ≤ 5) (hs : 0 ≤ s ∧ s ≤ 3) (hc : PcAt w b o ⟨x, y, k, 2, d⟩) (hbl : b < w.heap.size) (hb : tabP k ((s + 4 - 2) % 4) = 9) :
    Calls Tryd.prog 34 #[.pointer (some ⟨b, o, none⟩), .int .i64 s] w fun r w' => r = .returned (.int .i64 6) ∧ Below w.heap.size w w' := by
  obtain ⟨c0, c1, c2, c3, c4⟩ := hc
  simp only at c0 c1 c2 c3 c4
  have HB := Lib.hid hb
  have hr : ∀ w2 : World, (Instr.index 124 (.agg #[.int .i64 (-1), .int .i64 8, .int .i64 (-1), .int .i64 2, .int .i64 (-1), .int .i64 (-1), .int .i64 8, .int .i64 4, .int .i64 12, .int .i64 (-1), .int .i64 9, .int .i64 5, .int .i64 (-1), .int .i64 (-1), .int .i64 (-1), .int .i64 2, .int .i64 0, .int .i64 8, .int .i64 0, .int .i64 2, .int .i64 4, .int .i64 8, .int .i64 1, .int .i64 2]) (.int .i8 k)).run Tryd.prog w2 = .ok (.agg #[.int .i64 (tabP k 0), .int .i64 (tabP k 1), .int .i64 (tabP k 2), .int .i64 (tabP k 3)]) w2 := fun w2 => row_any k w2 hk
  have hi : ∀ w2 : World, (Instr.index 123 (.agg #[.int .i64 (tabP k 0), .int .i64 (tabP k 1), .int .i64 (tabP k 2), .int .i64 (tabP k 3)]) (.int .i64 ((s + 4 - 2).tmod 4))).run Tryd.prog w2 = .ok (.int .i64 9) w2 := fun w2 => by rw [Int.tmod_eq_emod_of_nonneg (by omega), col_any k _ w2 (by omega)]; rw [show (s + 4 - 2) % 4 = (s + 4 - 2) % 4 by omega, hb]
  have e1 : IntKind.i64.wrap (s + 4) = s + 4 := IntWalk.i64_in _ (by omega)
  have e2 : IntKind.i64.wrap (s + 4 - 2) = s + 4 - 2 := IntWalk.i64_in _ (by omega)
  clear hb
  go_enter Tryd.func34, Tryd.ntmps34
  go_wp2
  go_region_held3 (fun w' => w'.cell? ⟨b, o + 2, none⟩ = some (.int .i8 k)) (go_keep)
    (first | (go_at_call 62; refine (l01Table_any _).mono ?_; rintro e w' ⟨rfl, hb1⟩; have hb2 := (hb1.cell (p := ⟨b, o + 2, none⟩) hbl).trans c2))
  have hb3 : Below w.heap.size w w' := kTrans (Below.drew (Below.refl _ w)) hb1
  clear e1 e2 hi hr hb1
  go_wp2
  refine wp_loop_rounds 5 ?_
  rw [rounds_succ]
  go_wp2
  rw [rounds_succ]
  go_wp2
  rw [rounds_succ]
  go_wp2
  rw [rounds_succ]
  go_wp2
  rw [rounds_succ]
  go_wp2
  go_ret
  exact ⟨rfl, hb3⟩
set_option maxHeartbeats 4000000 in
theorem sh_12_2 (b o : Nat) (x y k d s : Int) (w : World) (hk : 0 ≤ k ∧ k ≤ 5) (hs : 0 ≤ s ∧ s ≤ 3) (hc : PcAt w b o ⟨x, y, k, 2, d⟩) (hbl : b < w.heap.size) (hb : tabP k ((s + 4 - 2) % 4) = 12) :
    Calls Tryd.prog 34 #[.pointer (some ⟨b, o, none⟩), .int .i64 s] w fun r w' => r = .returned (.int .i64 3) ∧ Below w.heap.size w w' := by
  obtain ⟨c0, c1, c2, c3, c4⟩ := hc
  simp only at c0 c1 c2 c3 c4
  have HB := Lib.hid hb
  have hr : ∀ w2 : World, (Instr.index 124 (.agg #[.int .i64 (-1), .int .i64 8, .int .i64 (-1), .int .i64 2, .int .i64 (-1), .int .i64 (-1), .int .i64 8, .int .i64 4, .int .i64 12, .int .i64 (-1), .int .i64 9, .int .i64 5, .int .i64 (-1), .int .i64 (-1), .int .i64 (-1), .int .i64 2, .int .i64 0, .int .i64 8, .int .i64 0, .int .i64 2, .int .i64 4, .int .i64 8, .int .i64 1, .int .i64 2]) (.int .i8 k)).run Tryd.prog w2 = .ok (.agg #[.int .i64 (tabP k 0), .int .i64 (tabP k 1), .int .i64 (tabP k 2), .int .i64 (tabP k 3)]) w2 := fun w2 => row_any k w2 hk
  have hi : ∀ w2 : World, (Instr.index 123 (.agg #[.int .i64 (tabP k 0), .int .i64 (tabP k 1), .int .i64 (tabP k 2), .int .i64 (tabP k 3)]) (.int .i64 ((s + 4 - 2).tmod 4))).run Tryd.prog w2 = .ok (.int .i64 12) w2 := fun w2 => by rw [Int.tmod_eq_emod_of_nonneg (by omega), col_any k _ w2 (by omega)]; rw [show (s + 4 - 2) % 4 = (s + 4 - 2) % 4 by omega, hb]
  have e1 : IntKind.i64.wrap (s + 4) = s + 4 := IntWalk.i64_in _ (by omega)
  have e2 : IntKind.i64.wrap (s + 4 - 2) = s + 4 - 2 := IntWalk.i64_in _ (by omega)
  clear hb
  go_enter Tryd.func34, Tryd.ntmps34
  go_wp2
  go_region_held3 (fun w' => w'.cell? ⟨b, o + 2, none⟩ = some (.int .i8 k)) (go_keep)
    (first | (go_at_call 62; refine (l01Table_any _).mono ?_; rintro e w' ⟨rfl, hb1⟩; have hb2 := (hb1.cell (p := ⟨b, o + 2, none⟩) hbl).trans c2))
  have hb3 : Below w.heap.size w w' := kTrans (Below.drew (Below.refl _ w)) hb1
  clear e1 e2 hi hr hb1
  go_wp2
  refine wp_loop_rounds 5 ?_
  rw [rounds_succ]
  go_wp2
  rw [rounds_succ]
  go_wp2
  rw [rounds_succ]
  go_wp2
  rw [rounds_succ]
  go_wp2
  rw [rounds_succ]
  go_wp2
  go_ret
  exact ⟨rfl, hb3⟩
end Go.Proofs.YtflkfkbdgekpkaaDoor

/- Contracts of what a piece does that is hit: the model, turned by 3. -/
namespace Go.Proofs.YtflkfkbdgekpkaaDoor
open Go.ChangeShapes Go.WideShapes Go.ChangeAt Go.RowKit
set_option linter.unusedVariables false
set_option maxHeartbeats 4000000 in
theorem sh_m1_3 (b o : Nat) (x y k d s : Int) (w : World) (hk : 0 ≤ k ∧ k ≤ 5) (hs : 0 ≤ s ∧ s ≤ 3) (hc : PcAt w b o ⟨x, y, k, 3, d⟩) (hbl : b < w.heap.size) (hb : tabP k ((s + 4 - 3) % 4) = (-1)) :
    Calls Tryd.prog 34 #[.pointer (some ⟨b, o, none⟩), .int .i64 s] w fun r w' => r = .returned (.int .i64 (-1)) ∧ Below w.heap.size w w' := by
  obtain ⟨c0, c1, c2, c3, c4⟩ := hc
  simp only at c0 c1 c2 c3 c4
  have HB := Lib.hid hb
  have hr : ∀ w2 : World, (Instr.index 124 (.agg #[.int .i64 (-1), .int .i64 8, .int .i64 (-1), .int .i64 2, .int .i64 (-1), .int .i64 (-1), .int .i64 8, .int .i64 4, .int .i64 12, .int .i64 (-1), .int .i64 9, .int .i64 5, .int .i64 (-1), .int .i64 (-1), .int .i64 (-1), .int .i64 2, .int .i64 0, .int .i64 8, .int .i64 0, .int .i64 2, .int .i64 4, .int .i64 8, .int .i64 1, .int .i64 2]) (.int .i8 k)).run Tryd.prog w2 = .ok (.agg #[.int .i64 (tabP k 0), .int .i64 (tabP k 1), .int .i64 (tabP k 2), .int .i64 (tabP k 3)]) w2 := fun w2 => row_any k w2 hk
  have hi : ∀ w2 : World, (Instr.index 123 (.agg #[.int .i64 (tabP k 0), .int .i64 (tabP k 1), .int .i64 (tabP k 2), .int .i64 (tabP k 3)]) (.int .i64 ((s + 4 - 3).tmod 4))).run Tryd.prog w2 = .ok (.int .i64 (-1)) w2 := fun w2 => by rw [Int.tmod_eq_emod_of_nonneg (by omega), col_any k _ w2 (by omega)]; rw [show (s + 4 - 3) % 4 = (s + 4 - 3) % 4 by omega, hb]
  have e1 : IntKind.i64.wrap (s + 4) = s + 4 := IntWalk.i64_in _ (by omega)
  have e2 : IntKind.i64.wrap (s + 4 - 3) = s + 4 - 3 := IntWalk.i64_in _ (by omega)
  clear hb
  go_enter Tryd.func34, Tryd.ntmps34
  go_wp2
  go_region_held3 (fun w' => w'.cell? ⟨b, o + 2, none⟩ = some (.int .i8 k)) (go_keep)
    (first | (go_at_call 62; refine (l01Table_any _).mono ?_; rintro e w' ⟨rfl, hb1⟩; have hb2 := (hb1.cell (p := ⟨b, o + 2, none⟩) hbl).trans c2))
  have hb3 : Below w.heap.size w w' := kTrans (Below.drew (Below.refl _ w)) hb1
  clear e1 e2 hi hr hb1
  go_wp2
  go_ret
  exact ⟨rfl, hb3⟩
set_option maxHeartbeats 4000000 in
theorem sh_0_3 (b o : Nat) (x y k d s : Int) (w : World) (hk : 0 ≤ k ∧ k ≤ 5) (hs : 0 ≤ s ∧ s ≤ 3) (hc : PcAt w b o ⟨x, y, k, 3, d⟩) (hbl : b < w.heap.size) (hb : tabP k ((s + 4 - 3) % 4) = 0) :
    Calls Tryd.prog 34 #[.pointer (some ⟨b, o, none⟩), .int .i64 s] w fun r w' => r = .returned (.int .i64 0) ∧ Below w.heap.size w w' := by
  obtain ⟨c0, c1, c2, c3, c4⟩ := hc
  simp only at c0 c1 c2 c3 c4
  have HB := Lib.hid hb
  have hr : ∀ w2 : World, (Instr.index 124 (.agg #[.int .i64 (-1), .int .i64 8, .int .i64 (-1), .int .i64 2, .int .i64 (-1), .int .i64 (-1), .int .i64 8, .int .i64 4, .int .i64 12, .int .i64 (-1), .int .i64 9, .int .i64 5, .int .i64 (-1), .int .i64 (-1), .int .i64 (-1), .int .i64 2, .int .i64 0, .int .i64 8, .int .i64 0, .int .i64 2, .int .i64 4, .int .i64 8, .int .i64 1, .int .i64 2]) (.int .i8 k)).run Tryd.prog w2 = .ok (.agg #[.int .i64 (tabP k 0), .int .i64 (tabP k 1), .int .i64 (tabP k 2), .int .i64 (tabP k 3)]) w2 := fun w2 => row_any k w2 hk
  have hi : ∀ w2 : World, (Instr.index 123 (.agg #[.int .i64 (tabP k 0), .int .i64 (tabP k 1), .int .i64 (tabP k 2), .int .i64 (tabP k 3)]) (.int .i64 ((s + 4 - 3).tmod 4))).run Tryd.prog w2 = .ok (.int .i64 0) w2 := fun w2 => by rw [Int.tmod_eq_emod_of_nonneg (by omega), col_any k _ w2 (by omega)]; rw [show (s + 4 - 3) % 4 = (s + 4 - 3) % 4 by omega, hb]
  have e1 : IntKind.i64.wrap (s + 4) = s + 4 := IntWalk.i64_in _ (by omega)
  have e2 : IntKind.i64.wrap (s + 4 - 3) = s + 4 - 3 := IntWalk.i64_in _ (by omega)
  clear hb
  go_enter Tryd.func34, Tryd.ntmps34
  go_wp2
  go_region_held3 (fun w' => w'.cell? ⟨b, o + 2, none⟩ = some (.int .i8 k)) (go_keep)
    (first | (go_at_call 62; refine (l01Table_any _).mono ?_; rintro e w' ⟨rfl, hb1⟩; have hb2 := (hb1.cell (p := ⟨b, o + 2, none⟩) hbl).trans c2))
  have hb3 : Below w.heap.size w w' := kTrans (Below.drew (Below.refl _ w)) hb1
  clear e1 e2 hi hr hb1
  go_wp2
  refine wp_loop_rounds 5 ?_
  rw [rounds_succ]
  go_wp2
  rw [rounds_succ]
  go_wp2
  rw [rounds_succ]
  go_wp2
  rw [rounds_succ]
  go_wp2
  rw [rounds_succ]
  go_wp2
  go_ret
  exact ⟨rfl, hb3⟩
set_option maxHeartbeats 4000000 in
theorem sh_1_3 (b o : Nat) (x y k d s : Int) (w : World) (hk : 0 ≤ k ∧ k ≤ 5) (hs : 0 ≤ s ∧ s ≤ 3) (hc : PcAt w b o ⟨x, y, k, 3, d⟩) (hbl : b < w.heap.size) (hb : tabP k ((s + 4 - 3) % 4) = 1) :
    Calls Tryd.prog 34 #[.pointer (some ⟨b, o, none⟩), .int .i64 s] w fun r w' => r = .returned (.int .i64 8) ∧ Below w.heap.size w w' := by
  obtain ⟨c0, c1, c2, c3, c4⟩ := hc
  simp only at c0 c1 c2 c3 c4
  have HB := Lib.hid hb
  have hr : ∀ w2 : World, (Instr.index 124 (.agg #[.int .i64 (-1), .int .i64 8, .int .i64 (-1), .int .i64 2, .int .i64 (-1), .int .i64 (-1), .int .i64 8, .int .i64 4, .int .i64 12, .int .i64 (-1), .int .i64 9, .int .i64 5, .int .i64 (-1), .int .i64 (-1), .int .i64 (-1), .int .i64 2, .int .i64 0, .int .i64 8, .int .i64 0, .int .i64 2, .int .i64 4, .int .i64 8, .int .i64 1, .int .i64 2]) (.int .i8 k)).run Tryd.prog w2 = .ok (.agg #[.int .i64 (tabP k 0), .int .i64 (tabP k 1), .int .i64 (tabP k 2), .int .i64 (tabP k 3)]) w2 := fun w2 => row_any k w2 hk
  have hi : ∀ w2 : World, (Instr.index 123 (.agg #[.int .i64 (tabP k 0), .int .i64 (tabP k 1), .int .i64 (tabP k 2), .int .i64 (tabP k 3)]) (.int .i64 ((s + 4 - 3).tmod 4))).run Tryd.prog w2 = .ok (.int .i64 1) w2 := fun w2 => by rw [Int.tmod_eq_emod_of_nonneg (by omega), col_any k _ w2 (by omega)]; rw [show (s + 4 - 3) % 4 = (s + 4 - 3) % 4 by omega, hb]
  have e1 : IntKind.i64.wrap (s + 4) = s + 4 := IntWalk.i64_in _ (by omega)
  have e2 : IntKind.i64.wrap (s + 4 - 3) = s + 4 - 3 := IntWalk.i64_in _ (by omega)
  clear hb
  go_enter Tryd.func34, Tryd.ntmps34
  go_wp2
  go_region_held3 (fun w' => w'.cell? ⟨b, o + 2, none⟩ = some (.int .i8 k)) (go_keep)
    (first | (go_at_call 62; refine (l01Table_any _).mono ?_; rintro e w' ⟨rfl, hb1⟩; have hb2 := (hb1.cell (p := ⟨b, o + 2, none⟩) hbl).trans c2))
  have hb3 : Below w.heap.size w w' := kTrans (Below.drew (Below.refl _ w)) hb1
  clear e1 e2 hi hr hb1
  go_wp2
  refine wp_loop_rounds 5 ?_
  rw [rounds_succ]
  go_wp2
  rw [rounds_succ]
  go_wp2
  rw [rounds_succ]
  go_wp2
  rw [rounds_succ]
  go_wp2
  rw [rounds_succ]
  go_wp2
  go_ret
  exact ⟨rfl, hb3⟩
set_option maxHeartbeats 4000000 in
theorem sh_2_3 (b o : Nat) (x y k d s : Int) (w : World) (hk : 0 ≤ k ∧ k ≤ 5) (hs : 0 ≤ s ∧ s ≤ 3) (hc : PcAt w b o ⟨x, y, k, 3, d⟩) (hbl : b < w.heap.size) (hb : tabP k ((s + 4 - 3) % 4) = 2) :
    Calls Tryd.prog 34 #[.pointer (some ⟨b, o, none⟩), .int .i64 s] w fun r w' => r = .returned (.int .i64 1) ∧ Below w.heap.size w w' := by
  obtain ⟨c0, c1, c2, c3, c4⟩ := hc
  simp only at c0 c1 c2 c3 c4
  have HB := Lib.hid hb
  have hr : ∀ w2 : World, (Instr.index 124 (.agg #[.int .i64 (-1), .int .i64 8, .int .i64 (-1), .int .i64 2, .int .i64 (-1), .int .i64 (-1), .int .i64 8, .int .i64 4, .int .i64 12, .int .i64 (-1), .int .i64 9, .int .i64 5, .int .i64 (-1), .int .i64 (-1), .int .i64 (-1), .int .i64 2, .int .i64 0, .int .i64 8, .int .i64 0, .int .i64 2, .int .i64 4, .int .i64 8, .int .i64 1, .int .i64 2]) (.int .i8 k)).run Tryd.prog w2 = .ok (.agg #[.int .i64 (tabP k 0), .int .i64 (tabP k 1), .int .i64 (tabP k 2), .int .i64 (tabP k 3)]) w2 := fun w2 => row_any k w2 hk
  have hi : ∀ w2 : World, (Instr.index 123 (.agg #[.int .i64 (tabP k 0), .int .i64 (tabP k 1), .int .i64 (tabP k 2), .int .i64 (tabP k 3)]) (.int .i64 ((s + 4 - 3).tmod 4))).run Tryd.prog w2 = .ok (.int .i64 2) w2 := fun w2 => by rw [Int.tmod_eq_emod_of_nonneg (by omega), col_any k _ w2 (by omega)]; rw [show (s + 4 - 3) % 4 = (s + 4 - 3) % 4 by omega, hb]
  have e1 : IntKind.i64.wrap (s + 4) = s + 4 := IntWalk.i64_in _ (by omega)
  have e2 : IntKind.i64.wrap (s + 4 - 3) = s + 4 - 3 := IntWalk.i64_in _ (by omega)
  clear hb
  go_enter Tryd.func34, Tryd.ntmps34
  go_wp2
  go_region_held3 (fun w' => w'.cell? ⟨b, o + 2, none⟩ = some (.int .i8 k)) (go_keep)
    (first | (go_at_call 62; refine (l01Table_any _).mono ?_; rintro e w' ⟨rfl, hb1⟩; have hb2 := (hb1.cell (p := ⟨b, o + 2, none⟩) hbl).trans c2))
  have hb3 : Below w.heap.size w w' := kTrans (Below.drew (Below.refl _ w)) hb1
  clear e1 e2 hi hr hb1
  go_wp2
  refine wp_loop_rounds 5 ?_
  rw [rounds_succ]
  go_wp2
  rw [rounds_succ]
  go_wp2
  rw [rounds_succ]
  go_wp2
  rw [rounds_succ]
  go_wp2
  rw [rounds_succ]
  go_wp2
  go_ret
  exact ⟨rfl, hb3⟩
set_option maxHeartbeats 4000000 in
theorem sh_4_3 (b o : Nat) (x y k d s : Int) (w : World) (hk : 0 ≤ k ∧ k ≤ 5) (hs : 0 ≤ s ∧ s ≤ 3) (hc : PcAt w b o ⟨x, y, k, 3, d⟩) (hbl : b < w.heap.size) (hb : tabP k ((s + 4 - 3) % 4) = 4) :
    Calls Tryd.prog 34 #[.pointer (some ⟨b, o, none⟩), .int .i64 s] w fun r w' => r = .returned (.int .i64 2) ∧ Below w.heap.size w w' := by
  obtain ⟨c0, c1, c2, c3, c4⟩ := hc
  simp only at c0 c1 c2 c3 c4
  have HB := Lib.hid hb
  have hr : ∀ w2 : World, (Instr.index 124 (.agg #[.int .i64 (-1), .int .i64 8, .int .i64 (-1), .int .i64 2, .int .i64 (-1), .int .i64 (-1), .int .i64 8, .int .i64 4, .int .i64 12, .int .i64 (-1), .int .i64 9, .int .i64 5, .int .i64 (-1), .int .i64 (-1), .int .i64 (-1), .int .i64 2, .int .i64 0, .int .i64 8, .int .i64 0, .int .i64 2, .int .i64 4, .int .i64 8, .int .i64 1, .int .i64 2]) (.int .i8 k)).run Tryd.prog w2 = .ok (.agg #[.int .i64 (tabP k 0), .int .i64 (tabP k 1), .int .i64 (tabP k 2), .int .i64 (tabP k 3)]) w2 := fun w2 => row_any k w2 hk
  have hi : ∀ w2 : World, (Instr.index 123 (.agg #[.int .i64 (tabP k 0), .int .i64 (tabP k 1), .int .i64 (tabP k 2), .int .i64 (tabP k 3)]) (.int .i64 ((s + 4 - 3).tmod 4))).run Tryd.prog w2 = .ok (.int .i64 4) w2 := fun w2 => by rw [Int.tmod_eq_emod_of_nonneg (by omega), col_any k _ w2 (by omega)]; rw [show (s + 4 - 3) % 4 = (s + 4 - 3) % 4 by omega, hb]
  have e1 : IntKind.i64.wrap (s + 4) = s + 4 := IntWalk.i64_in _ (by omega)
  have e2 : IntKind.i64.wrap (s + 4 - 3) = s + 4 - 3 := IntWalk.i64_in _ (by omega)
  clear hb
  go_enter Tryd.func34, Tryd.ntmps34
  go_wp2
  go_region_held3 (fun w' => w'.cell? ⟨b, o + 2, none⟩ = some (.int .i8 k)) (go_keep)
    (first | (go_at_call 62; refine (l01Table_any _).mono ?_; rintro e w' ⟨rfl, hb1⟩; have hb2 := (hb1.cell (p := ⟨b, o + 2, none⟩) hbl).trans c2))
  have hb3 : Below w.heap.size w w' := kTrans (Below.drew (Below.refl _ w)) hb1
  clear e1 e2 hi hr hb1
  go_wp2
  refine wp_loop_rounds 5 ?_
  rw [rounds_succ]
  go_wp2
  rw [rounds_succ]
  go_wp2
  rw [rounds_succ]
  go_wp2
  rw [rounds_succ]
  go_wp2
  rw [rounds_succ]
  go_wp2
  go_ret
  exact ⟨rfl, hb3⟩
set_option maxHeartbeats 4000000 in
theorem sh_5_3 (b o : Nat) (x y k d s : Int) (w : World) (hk : 0 ≤ k ∧ k ≤ 5) (hs : 0 ≤ s ∧ s ≤ 3) (hc : PcAt w b o ⟨x, y, k, 3, d⟩) (hbl : b < w.heap.size) (hb : tabP k ((s + 4 - 3) % 4) = 5) :
    Calls Tryd.prog 34 #[.pointer (some ⟨b, o, none⟩), .int .i64 s] w fun r w' => r = .returned (.int .i64 10) ∧ Below w.heap.size w w' := by
  obtain ⟨c0, c1, c2, c3, c4⟩ := hc
  simp only at c0 c1 c2 c3 c4
  have HB := Lib.hid hb
  have hr : ∀ w2 : World, (Instr.index 124 (.agg #[.int .i64 (-1), .int .i64 8, .int .i64 (-1), .int .i64 2, .int .i64 (-1), .int .i64 (-1), .int .i64 8, .int .i64 4, .int .i64 12, .int .i64 (-1), .int .i64 9, .int .i64 5, .int .i64 (-1), .int .i64 (-1), .int .i64 (-1), .int .i64 2, .int .i64 0, .int .i64 8, .int .i64 0, .int .i64 2, .int .i64 4, .int .i64 8, .int .i64 1, .int .i64 2]) (.int .i8 k)).run Tryd.prog w2 = .ok (.agg #[.int .i64 (tabP k 0), .int .i64 (tabP k 1), .int .i64 (tabP k 2), .int .i64 (tabP k 3)]) w2 := fun w2 => row_any k w2 hk
  have hi : ∀ w2 : World, (Instr.index 123 (.agg #[.int .i64 (tabP k 0), .int .i64 (tabP k 1), .int .i64 (tabP k 2), .int .i64 (tabP k 3)]) (.int .i64 ((s + 4 - 3).tmod 4))).run Tryd.prog w2 = .ok (.int .i64 5) w2 := fun w2 => by rw [Int.tmod_eq_emod_of_nonneg (by omega), col_any k _ w2 (by omega)]; rw [show (s + 4 - 3) % 4 = (s + 4 - 3) % 4 by omega, hb]
  have e1 : IntKind.i64.wrap (s + 4) = s + 4 := IntWalk.i64_in _ (by omega)
  have e2 : IntKind.i64.wrap (s + 4 - 3) = s + 4 - 3 := IntWalk.i64_in _ (by omega)
  clear hb
  go_enter Tryd.func34, Tryd.ntmps34
  go_wp2
  go_region_held3 (fun w' => w'.cell? ⟨b, o + 2, none⟩ = some (.int .i8 k)) (go_keep)
    (first | (go_at_call 62; refine (l01Table_any _).mono ?_; rintro e w' ⟨rfl, hb1⟩; have hb2 := (hb1.cell (p := ⟨b, o + 2, none⟩) hbl).trans c2))
  have hb3 : Below w.heap.size w w' := kTrans (Below.drew (Below.refl _ w)) hb1
  clear e1 e2 hi hr hb1
  go_wp2
  refine wp_loop_rounds 5 ?_
  rw [rounds_succ]
  go_wp2
  rw [rounds_succ]
  go_wp2
  rw [rounds_succ]
  go_wp2
  rw [rounds_succ]
  go_wp2
  rw [rounds_succ]
  go_wp2
  go_ret
  exact ⟨rfl, hb3⟩
set_option maxHeartbeats 4000000 in
theorem sh_8_3 (b o : Nat) (x y k d s : Int) (w : World) (hk : 0 ≤ k ∧ k ≤ 5) (hs : 0 ≤ s ∧ s ≤ 3) (hc : PcAt w b o ⟨x, y, k, 3, d⟩) (hbl : b < w.heap.size) (hb : tabP k ((s + 4 - 3) % 4) = 8) :
    Calls Tryd.prog 34 #[.pointer (some ⟨b, o, none⟩), .int .i64 s] w fun r w' => r = .returned (.int .i64 4) ∧ Below w.heap.size w w' := by
  obtain ⟨c0, c1, c2, c3, c4⟩ := hc
  simp only at c0 c1 c2 c3 c4
  have HB := Lib.hid hb
  have hr : ∀ w2 : World, (Instr.index 124 (.agg #[.int .i64 (-1), .int .i64 8, .int .i64 (-1), .int .i64 2, .int .i64 (-1), .int .i64 (-1), .int .i64 8, .int .i64 4, .int .i64 12, .int .i64 (-1), .int .i64 9, .int .i64 5, .int .i64 (-1), .int .i64 (-1), .int .i64 (-1), .int .i64 2, .int .i64 0, .int .i64 8, .int .i64 0, .int .i64 2, .int .i64 4, .int .i64 8, .int .i64 1, .int .i64 2]) (.int .i8 k)).run Tryd.prog w2 = .ok (.agg #[.int .i64 (tabP k 0), .int .i64 (tabP k 1), .int .i64 (tabP k 2), .int .i64 (tabP k 3)]) w2 := fun w2 => row_any k w2 hk
  have hi : ∀ w2 : World, (Instr.index 123 (.agg #[.int .i64 (tabP k 0), .int .i64 (tabP k 1), .int .i64 (tabP k 2), .int .i64 (tabP k 3)]) (.int .i64 ((s + 4 - 3).tmod 4))).run Tryd.prog w2 = .ok (.int .i64 8) w2 := fun w2 => by rw [Int.tmod_eq_emod_of_nonneg (by omega), col_any k _ w2 (by omega)]; rw [show (s + 4 - 3) % 4 = (s + 4 - 3) % 4 by omega, hb]
  have e1 : IntKind.i64.wrap (s + 4) = s + 4 := IntWalk.i64_in _ (by omega)
  have e2 : IntKind.i64.wrap (s + 4 - 3) = s + 4 - 3 := IntWalk.i64_in _ (by omega)
  clear hb
  go_enter Tryd.func34, Tryd.ntmps34
  go_wp2
  go_region_held3 (fun w' => w'.cell? ⟨b, o + 2, none⟩ = some (.int .i8 k)) (go_keep)
    (first | (go_at_call 62; refine (l01Table_any _).mono ?_; rintro e w' ⟨rfl, hb1⟩; have hb2 := (hb1.cell (p := ⟨b, o + 2, none⟩) hbl).trans c2))
  have hb3 : Below w.heap.size w w' := kTrans (Below.drew (Below.refl _ w)) hb1
  clear e1 e2 hi hr hb1
  go_wp2
  refine wp_loop_rounds 5 ?_
  rw [rounds_succ]
  go_wp2
  rw [rounds_succ]
  go_wp2
  rw [rounds_succ]
  go_wp2
  rw [rounds_succ]
  go_wp2
  rw [rounds_succ]
  go_wp2
  go_ret
  exact ⟨rfl, hb3⟩
set_option maxHeartbeats 4000000 in
theorem sh_9_3 (b o : Nat) (x y k d s : Int) (w : World) (hk : 0 ≤ k ∧ k ≤ 5) (hs : 0 ≤ s ∧ s ≤ 3) (hc : PcAt w b o ⟨x, y, k, 3, d⟩) (hbl : b < w.heap.size) (hb : tabP k ((s + 4 - 3) % 4) = 9) :
    Calls Tryd.prog 34 #[.pointer (some ⟨b, o, none⟩), .int .i64 s] w fun r w' => r = .returned (.int .i64 12) ∧ Below w.heap.size w w' := by
  obtain ⟨c0, c1, c2, c3, c4⟩ := hc
  simp only at c0 c1 c2 c3 c4
  have HB := Lib.hid hb
  have hr : ∀ w2 : World, (Instr.index 124 (.agg #[.int .i64 (-1), .int .i64 8, .int .i64 (-1), .int .i64 2, .int .i64 (-1), .int .i64 (-1), .int .i64 8, .int .i64 4, .int .i64 12, .int .i64 (-1), .int .i64 9, .int .i64 5, .int .i64 (-1), .int .i64 (-1), .int .i64 (-1), .int .i64 2, .int .i64 0, .int .i64 8, .int .i64 0, .int .i64 2, .int .i64 4, .int .i64 8, .int .i64 1, .int .i64 2]) (.int .i8 k)).run Tryd.prog w2 = .ok (.agg #[.int .i64 (tabP k 0), .int .i64 (tabP k 1), .int .i64 (tabP k 2), .int .i64 (tabP k 3)]) w2 := fun w2 => row_any k w2 hk
  have hi : ∀ w2 : World, (Instr.index 123 (.agg #[.int .i64 (tabP k 0), .int .i64 (tabP k 1), .int .i64 (tabP k 2), .int .i64 (tabP k 3)]) (.int .i64 ((s + 4 - 3).tmod 4))).run Tryd.prog w2 = .ok (.int .i64 9) w2 := fun w2 => by rw [Int.tmod_eq_emod_of_nonneg (by omega), col_any k _ w2 (by omega)]; rw [show (s + 4 - 3) % 4 = (s + 4 - 3) % 4 by omega, hb]
  have e1 : IntKind.i64.wrap (s + 4) = s + 4 := IntWalk.i64_in _ (by omega)
  have e2 : IntKind.i64.wrap (s + 4 - 3) = s + 4 - 3 := IntWalk.i64_in _ (by omega)
  clear hb
  go_enter Tryd.func34, Tryd.ntmps34
  go_wp2
  go_region_held3 (fun w' => w'.cell? ⟨b, o + 2, none⟩ = some (.int .i8 k)) (go_keep)
    (first | (go_at_call 62; refine (l01Table_any _).mono ?_; rintro e w' ⟨rfl, hb1⟩; have hb2 := (hb1.cell (p := ⟨b, o + 2, none⟩) hbl).trans c2))
  have hb3 : Below w.heap.size w w' := kTrans (Below.drew (Below.refl _ w)) hb1
  clear e1 e2 hi hr hb1
  go_wp2
  refine wp_loop_rounds 5 ?_
  rw [rounds_succ]
  go_wp2
  rw [rounds_succ]
  go_wp2
  rw [rounds_succ]
  go_wp2
  rw [rounds_succ]
  go_wp2
  rw [rounds_succ]
  go_wp2
  go_ret
  exact ⟨rfl, hb3⟩
set_option maxHeartbeats 4000000 in
theorem sh_12_3 (b o : Nat) (x y k d s : Int) (w : World) (hk : 0 ≤ k ∧ k ≤ 5) (hs : 0 ≤ s ∧ s ≤ 3) (hc : PcAt w b o ⟨x, y, k, 3, d⟩) (hbl : b < w.heap.size) (hb : tabP k ((s + 4 - 3) % 4) = 12) :
    Calls Tryd.prog 34 #[.pointer (some ⟨b, o, none⟩), .int .i64 s] w fun r w' => r = .returned (.int .i64 6) ∧ Below w.heap.size w w' := by
  obtain ⟨c0, c1, c2, c3, c4⟩ := hc
  simp only at c0 c1 c2 c3 c4
  have HB := Lib.hid hb
  have hr : ∀ w2 : World, (Instr.index 124 (.agg #[.int .i64 (-1), .int .i64 8, .int .i64 (-1), .int .i64 2, .int .i64 (-1), .int .i64 (-1), .int .i64 8, .int .i64 4, .int .i64 12, .int .i64 (-1), .int .i64 9, .int .i64 5, .int .i64 (-1), .int .i64 (-1), .int .i64 (-1), .int .i64 2, .int .i64 0, .int .i64 8, .int .i64 0, .int .i64 2, .int .i64 4, .int .i64 8, .int .i64 1, .int .i64 2]) (.int .i8 k)).run Tryd.prog w2 = .ok (.agg #[.int .i64 (tabP k 0), .int .i64 (tabP k 1), .int .i64 (tabP k 2), .int .i64 (tabP k 3)]) w2 := fun w2 => row_any k w2 hk
  have hi : ∀ w2 : World, (Instr.index 123 (.agg #[.int .i64 (tabP k 0), .int .i64 (tabP k 1), .int .i64 (tabP k 2), .int .i64 (tabP k 3)]) (.int .i64 ((s + 4 - 3).tmod 4))).run Tryd.prog w2 = .ok (.int .i64 12) w2 := fun w2 => by rw [Int.tmod_eq_emod_of_nonneg (by omega), col_any k _ w2 (by omega)]; rw [show (s + 4 - 3) % 4 = (s + 4 - 3) % 4 by omega, hb]
  have e1 : IntKind.i64.wrap (s + 4) = s + 4 := IntWalk.i64_in _ (by omega)
  have e2 : IntKind.i64.wrap (s + 4 - 3) = s + 4 - 3 := IntWalk.i64_in _ (by omega)
  clear hb
  go_enter Tryd.func34, Tryd.ntmps34
  go_wp2
  go_region_held3 (fun w' => w'.cell? ⟨b, o + 2, none⟩ = some (.int .i8 k)) (go_keep)
    (first | (go_at_call 62; refine (l01Table_any _).mono ?_; rintro e w' ⟨rfl, hb1⟩; have hb2 := (hb1.cell (p := ⟨b, o + 2, none⟩) hbl).trans c2))
  have hb3 : Below w.heap.size w w' := kTrans (Below.drew (Below.refl _ w)) hb1
  clear e1 e2 hi hr hb1
  go_wp2
  refine wp_loop_rounds 5 ?_
  rw [rounds_succ]
  go_wp2
  rw [rounds_succ]
  go_wp2
  rw [rounds_succ]
  go_wp2
  rw [rounds_succ]
  go_wp2
  rw [rounds_succ]
  go_wp2
  go_ret
  exact ⟨rfl, hb3⟩
end Go.Proofs.YtflkfkbdgekpkaaDoor
