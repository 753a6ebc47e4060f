/- NeedsOf: the program's changesWith. -/
import Derived.Test.YtcnmcgajkmcllaaNd0
import Derived.Test.YtcnmcgajkmcllaaNo1
namespace Go.Proofs.Ytcnmcgajkmcllaa
open Go.ChangeShapes Go.WideShapes Go.ChangeAt Go.RowKit Go.Joins Go.Deep
set_option linter.unusedVariables false
set_option linter.unusedSimpArgs false
set_option maxRecDepth 100000 in
set_option maxHeartbeats 4000000 in
theorem changesWith_any (n i : Nat) (t : Int) (v u : Value) (w : World) (ht : (Lit.int .u64 t).wf = true) (hn : 1 ≤ n ∧ n ≤ 6) (hi : i < n) (hv : ∃ a l c, v = .slice a l c) (hu : ∃ a l c, u = .slice a l c) :
    Calls Try.prog 54 #[.agg #[.int .i8 n, v, u], .int .u64 t, .int .i16 i] w fun e w' => e = .returned (.bool (chB n t i)) ∧ Below w.heap.size w w' := by
  obtain ⟨va, vl, vc, rfl⟩ := hv
  obtain ⟨ua, ul, uc, rfl⟩ := hu
  have HF := Lib.hid (fun W => allRows_any n W hn)
  have HR := Lib.hid (fun W => rowsWith_any n i W hn hi)
  have hp : (2 : Int) ^ i = ((2 ^ i : Nat) : Int) := by push_cast; rfl
  have hb := bounds_u64 ht
  have h26 : i = 0 ∨ i = 1 ∨ i = 2 ∨ i = 3 ∨ i = 4 ∨ i = 5 := by omega
  obtain ⟨W0, hW⟩ : ∃ W0, w.alloc (.cells #[.int .i8 n, .slice va vl vc, .slice ua ul uc] 30) = W0 := ⟨_, rfl⟩
  have k0 : Below w.heap.size w W0 := by rw [← hW]; exact kAlloc (Below.refl _ _) _
  have bX : W0.heap[w.heap.size]? = some (.cells #[.int .i8 n, .slice va vl vc, .slice ua ul uc] 30 (0, 0)) := by rw [← hW]; exact nNew _ _
  have lw := blk_lt bX
  obtain ⟨x0, x1, x2⟩ := NwAt.of bX
  have HW := Lib.hid hW
  clear hW bX
  go_enter Try.func54, Try.ntmps54
  go_upto_region 1 with fail
  try rw [HW.out]
  go_region_held3 (fun w' => w'.cell? ⟨w.heap.size, 0, none⟩ = some (.int .i8 n)) (go_keep)
    (first
    | (go_at_call 62
       refine (HF.out _).mono ?_
       rintro e v1 ⟨rfl, rfl⟩)
    | (go_at_call 88
       refine (HR.out _).mono ?_
       rintro e v1 ⟨rfl, rfl⟩))
  clear x0 x1 x2
  rcases h26 with rfl | rfl | rfl | rfl | rfl | rfl
  all_goals
    go_wp2
    go_ret
    exact ⟨by simp [chB, maskN], kTrans k0 (Below.drew (Below.refl _ _))⟩
end Go.Proofs.Ytcnmcgajkmcllaa
