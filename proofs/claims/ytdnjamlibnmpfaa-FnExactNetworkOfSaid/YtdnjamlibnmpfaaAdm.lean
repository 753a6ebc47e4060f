/- What has been made as a network: l04Maker.made, builder.network. -/
import Derived.Test.YtdnjamlibnmpfaaAd0
namespace Go.Proofs.Ytdnjamlibnmpfaa
open Go.ChangeShapes Go.WideShapes Go.ChangeAt Go.RowKit Go.Joins Go.Deep
set_option linter.unusedVariables false
set_option linter.unusedSimpArgs false
set_option maxRecDepth 100000 in
set_option maxHeartbeats 4000000 in
theorem made_ok (B n m q vc uc : Nat) (va ua : Option Addr) (w : World) (h : w.heap[B]? = some (.cells #[.slice va m vc] 66 (0, 0))) (hm : m ≤ 80) (hn : n ≤ 6) :
    Calls Try.prog 39 #[.pointer (some ⟨B, 0, none⟩), .int .i64 n, .slice ua q uc] w fun e w' => e = .returned (.tuple #[.agg #[.int .i8 n, .slice va m vc, .slice ua q uc], .int .i64 0]) ∧ Below w.heap.size w w' := by
  have hlt := blk_lt h
  have k0 : Below w.heap.size w (w.alloc (.cells #[.int .i8 0, .slice none 0 0, .slice none 0 0] 30)) := kAlloc (Below.refl _ _) _
  obtain ⟨W, hW⟩ : ∃ W, w.alloc (.cells #[.int .i8 0, .slice none 0 0, .slice none 0 0] 30) = W := ⟨_, rfl⟩
  rw [hW] at k0
  have hB := blk_below h k0
  have c0 : W.cell? ⟨B, 0, none⟩ = some (.slice va m vc) := cell_of_row _ _ 0 _ _ _ hB
  have lB := blk_lt hB
  have rs_ : W.heap[w.heap.size]? = some (.cells #[.int .i8 0, .slice none 0 0, .slice none 0 0] 30 (0, 0)) := by rw [← hW]; exact heap_alloc_new _ _
  have q8 : IntKind.i8.wrap (n : Int) = n := IntWalk.i8_in _ (by omega)
  have e80 : decide ((80 : Int) < (m : Int)) = false := by simp; omega
  have e80' : ¬ (80 : Int) < (m : Int) := by omega
  have HK0 := Lib.hid k0
  have HW := Lib.hid hW
  clear h hB k0 hW
  go_enter Try.func39, Try.ntmps39
  go_upto_region 1 with fail
  try rw [HW.out]
  go_wp2_with (refine wpList_store_row rfl 30 _ _ rfl w.heap.size #[.int .i8 n, .slice va m vc, .slice ua q uc] rfl rfl 30 _ rs_ (by kernel_rfl) (by kernel_rfl) (by kernel_rfl) ?_)
  refine bodyPost_ret (v := .tuple #[.agg #[.int .i8 n, .slice va m vc, .slice ua q uc], .int .i64 0]) (results_cell_tmp rfl _ _ w.heap.size 30 #[.int .i8 n, .slice va m vc, .slice ua q uc] (0, 0) _ _ rfl rfl (setRow_heap _ _ _ _ _ _ rs_) Try.underlying30 rfl (by kernel_rfl)) rfl ?_
  exact ⟨rfl, kRowW HK0.out (Nat.le_refl _) _⟩
set_option maxRecDepth 100000 in
set_option maxHeartbeats 4000000 in
theorem made_limit (B n m q vc uc : Nat) (va ua : Option Addr) (w : World) (h : w.heap[B]? = some (.cells #[.slice va m vc] 66 (0, 0))) (hm : 80 < m) (hn : n ≤ 6) :
    Calls Try.prog 39 #[.pointer (some ⟨B, 0, none⟩), .int .i64 n, .slice ua q uc] w fun e w' => e = .returned (.tuple #[.agg #[.int .i8 0, .slice none 0 0, .slice none 0 0], .int .i64 3]) ∧ Below w.heap.size w w' := by
  have hlt := blk_lt h
  have k0 : Below w.heap.size w (w.alloc (.cells #[.int .i8 0, .slice none 0 0, .slice none 0 0] 30)) := kAlloc (Below.refl _ _) _
  obtain ⟨W, hW⟩ : ∃ W, w.alloc (.cells #[.int .i8 0, .slice none 0 0, .slice none 0 0] 30) = W := ⟨_, rfl⟩
  rw [hW] at k0
  have hB := blk_below h k0
  have c0 : W.cell? ⟨B, 0, none⟩ = some (.slice va m vc) := cell_of_row _ _ 0 _ _ _ hB
  have lB := blk_lt hB
  have rs_ : W.heap[w.heap.size]? = some (.cells #[.int .i8 0, .slice none 0 0, .slice none 0 0] 30 (0, 0)) := by rw [← hW]; exact heap_alloc_new _ _
  have q8 : IntKind.i8.wrap (n : Int) = n := IntWalk.i8_in _ (by omega)
  have e80 : decide ((80 : Int) < (m : Int)) = true := by simp; omega
  have e80' : (80 : Int) < (m : Int) := by omega
  have HK0 := Lib.hid k0
  have HW := Lib.hid hW
  clear h hB k0 hW
  go_enter Try.func39, Try.ntmps39
  go_upto_region 1 with fail
  try rw [HW.out]
  go_wp2_with (refine wpList_store_row rfl 30 _ _ rfl w.heap.size #[.int .i8 0, .slice none 0 0, .slice none 0 0] rfl rfl 30 _ rs_ (by kernel_rfl) (by kernel_rfl) (by kernel_rfl) ?_)
  refine bodyPost_ret (v := .tuple #[.agg #[.int .i8 0, .slice none 0 0, .slice none 0 0], .int .i64 3]) (results_cell_tmp rfl _ _ w.heap.size 30 #[.int .i8 0, .slice none 0 0, .slice none 0 0] (0, 0) _ _ rfl rfl (setRow_heap _ _ _ _ _ _ rs_) Try.underlying30 rfl (by kernel_rfl)) rfl ?_
  exact ⟨rfl, kRowW HK0.out (Nat.le_refl _) _⟩
set_option maxRecDepth 100000 in
set_option maxHeartbeats 4000000 in
theorem network_ok (B n m vc : Nat) (va : Option Addr) (x : Int) (w : World) (h : w.heap[B]? = some (.cells #[.slice va m vc] 72 (0, 0))) (hm : m ≤ 80) (hn : n ≤ 6) :
    Calls Try.prog 51 #[.pointer (some ⟨B, 0, none⟩), .int .i64 n, .int .i16 x] w fun e w' => ∃ g, e = .returned (.tuple #[.agg #[.int .i8 n, .slice va m vc, .slice (some ⟨g, 0, none⟩) 1 1], .int .i64 0]) ∧ ShsAt w' g 0 [x] ∧ g < w'.heap.size ∧ (∀ j, w'.frozen? ⟨g, j, none⟩ = false) ∧ w.heap.size ≤ g ∧ Below w.heap.size w w' := by
  have hlt := blk_lt h
  have k0 : Below w.heap.size w (w.alloc (.cells #[.int .i8 0, .slice none 0 0, .slice none 0 0] 30)) := kAlloc (Below.refl _ _) _
  obtain ⟨W, hW⟩ : ∃ W, w.alloc (.cells #[.int .i8 0, .slice none 0 0, .slice none 0 0] 30) = W := ⟨_, rfl⟩
  rw [hW] at k0
  have hB := blk_below h k0
  have c0 : W.cell? ⟨B, 0, none⟩ = some (.slice va m vc) := cell_of_row _ _ 0 _ _ _ hB
  have lB := blk_lt hB
  have rs0 : W.heap[w.heap.size]? = some (.cells #[.int .i8 0, .slice none 0 0, .slice none 0 0] 30 (0, 0)) := by rw [← hW]; exact heap_alloc_new _ _
  have q8 : IntKind.i8.wrap (n : Int) = n := IntWalk.i8_in _ (by omega)
  have hWs : w.heap.size < W.heap.size := blk_lt rs0
  have e80 : decide ((80 : Int) < (m : Int)) = false := by simp; omega
  have e80' : ¬ (80 : Int) < (m : Int) := by omega
  have rs_ : (W.alloc (.cells #[.int .i16 x] 46)).heap[w.heap.size]? = some (.cells #[.int .i8 0, .slice none 0 0, .slice none 0 0] 30 (0, 0)) := (Below.heap_alloc _ _ _ hWs).trans rs0
  have HK0 := Lib.hid k0
  have HW := Lib.hid hW
  clear h hB k0 hW rs0
  go_enter Try.func51, Try.ntmps51
  go_upto_region 1 with fail
  try rw [HW.out]
  go_wp2_with (refine wpList_store_row rfl 30 _ _ rfl w.heap.size #[.int .i8 n, .slice va m vc, .slice (some ⟨W.heap.size, 0, none⟩) 1 1] rfl rfl 30 _ rs_ (by kernel_rfl) (by kernel_rfl) (by kernel_rfl) ?_)
  refine bodyPost_ret (v := .tuple #[.agg #[.int .i8 n, .slice va m vc, .slice (some ⟨W.heap.size, 0, none⟩) 1 1], .int .i64 0]) (results_cell_tmp rfl _ _ w.heap.size 30 #[.int .i8 n, .slice va m vc, .slice (some ⟨W.heap.size, 0, none⟩) 1 1] (0, 0) _ _ rfl rfl (setRow_heap _ _ _ _ _ _ rs_) Try.underlying30 rfl (by kernel_rfl)) rfl ?_
  have hn1 : (W.alloc (.cells #[.int .i16 x] 46)).heap[W.heap.size]? = some (.cells #[.int .i16 x] 46 (0, 0)) := heap_alloc_new _ _
  have hn2 : ((W.alloc (.cells #[.int .i16 x] 46)).setRow w.heap.size #[.int .i8 n, .slice va m vc, .slice (some ⟨W.heap.size, 0, none⟩) 1 1]).heap[W.heap.size]? = some (.cells #[.int .i16 x] 46 (0, 0)) := (setRow_other _ _ _ _ (by omega)).trans hn1
  refine ⟨W.heap.size, rfl, fun i hi => ?_, blk_lt hn2, fun j => frozen_of_row _ _ j _ _ hn2, by omega, kRowW (kAlloc HK0.out _) (Nat.le_refl _) _⟩
  have hi0 : i = 0 := by simp at hi; omega
  subst hi0
  exact cell_of_row _ _ 0 _ _ _ hn2
set_option maxRecDepth 100000 in
set_option maxHeartbeats 4000000 in
theorem network_limit (B n m vc : Nat) (va : Option Addr) (x : Int) (w : World) (h : w.heap[B]? = some (.cells #[.slice va m vc] 72 (0, 0))) (hm : 80 < m) (hn : n ≤ 6) :
    Calls Try.prog 51 #[.pointer (some ⟨B, 0, none⟩), .int .i64 n, .int .i16 x] w fun e w' => e = .returned (.tuple #[.agg #[.int .i8 0, .slice none 0 0, .slice none 0 0], .int .i64 3]) ∧ Below w.heap.size w w' := by
  have hlt := blk_lt h
  have k0 : Below w.heap.size w (w.alloc (.cells #[.int .i8 0, .slice none 0 0, .slice none 0 0] 30)) := kAlloc (Below.refl _ _) _
  obtain ⟨W, hW⟩ : ∃ W, w.alloc (.cells #[.int .i8 0, .slice none 0 0, .slice none 0 0] 30) = W := ⟨_, rfl⟩
  rw [hW] at k0
  have hB := blk_below h k0
  have c0 : W.cell? ⟨B, 0, none⟩ = some (.slice va m vc) := cell_of_row _ _ 0 _ _ _ hB
  have lB := blk_lt hB
  have rs0 : W.heap[w.heap.size]? = some (.cells #[.int .i8 0, .slice none 0 0, .slice none 0 0] 30 (0, 0)) := by rw [← hW]; exact heap_alloc_new _ _
  have q8 : IntKind.i8.wrap (n : Int) = n := IntWalk.i8_in _ (by omega)
  have hWs : w.heap.size < W.heap.size := blk_lt rs0
  have e80 : decide ((80 : Int) < (m : Int)) = true := by simp; omega
  have e80' : (80 : Int) < (m : Int) := by omega
  have rs_ := rs0
  have HK0 := Lib.hid k0
  have HW := Lib.hid hW
  clear h hB k0 hW rs0
  go_enter Try.func51, Try.ntmps51
  go_upto_region 1 with fail
  try rw [HW.out]
  go_wp2_with (refine wpList_store_row rfl 30 _ _ rfl w.heap.size #[.int .i8 0, .slice none 0 0, .slice none 0 0] rfl rfl 30 _ rs_ (by kernel_rfl) (by kernel_rfl) (by kernel_rfl) ?_)
  refine bodyPost_ret (v := .tuple #[.agg #[.int .i8 0, .slice none 0 0, .slice none 0 0], .int .i64 3]) (results_cell_tmp rfl _ _ w.heap.size 30 #[.int .i8 0, .slice none 0 0, .slice none 0 0] (0, 0) _ _ rfl rfl (setRow_heap _ _ _ _ _ _ rs_) Try.underlying30 rfl (by kernel_rfl)) rfl ?_
  exact ⟨rfl, kRowW HK0.out (Nat.le_refl _) _⟩
end Go.Proofs.Ytdnjamlibnmpfaa
