/- The program's order of pieces. -/
import Derived.Test.YtlmnoopoohdbkaaSo0
import Derived.Test.YtlmnoopoohdbkaaSoL
import Derived.Test.YtlmnoopoohdbkaaG4
import Derived.StillTailTactics
namespace Go.Proofs.Ytlmnoopoohdbkaa
open Go.ChangeShapes Go.WideShapes Go.ChangeAt Go.RowKit Go.Shelf Go.Lib Go.Sort
set_option linter.unusedVariables false

def cmpS (a b : Int) : Int := if a < b then -1 else if b < a then 1 else 0
def or2 (a b : Int) : Int := if a ≠ 0 then a else b
def cmpP (p q : Pc) : Int := or2 (cmpS p.y q.y) (cmpS p.x q.x)
theorem cmpP_neg (p q : Pc) : cmpP p q < 0 ↔ ltSE p q := by
  unfold cmpP or2 cmpS ltSE
  constructor
  · intro h
    repeat' split at h
    all_goals omega
  · intro h
    repeat' split
    all_goals omega
theorem isNaNS_any (x : Int) (w : World) : Calls Try.prog 138 #[.int .i8 x] w fun e w' => e = .returned (.bool false) ∧ w' = w := by
  go_enter Try.func138, Try.ntmps138
  go_wp2
  go_ret
  exact ⟨rfl, rfl⟩
theorem compareS_any (x y c : Int) (w : World) (hc : cmpS x y = c) : Calls Try.prog 108 #[.int .i8 x, .int .i8 y] w fun e w' => e = .returned (.int .i64 c) ∧ w' = w := by
  unfold cmpS at hc
  by_cases h1 : x < y
  · rw [if_pos h1] at hc
    subst hc
    go_enter Try.func108, Try.ntmps108
    go_wp2_with (refine (isNaNS_any _ _).mono ?_; rintro e w' ⟨rfl, rfl⟩)
    go_ret
    exact ⟨rfl, rfl⟩
  · rw [if_neg h1] at hc
    by_cases h2 : y < x
    · rw [if_pos h2] at hc
      subst hc
      go_enter Try.func108, Try.ntmps108
      go_wp2_with (refine (isNaNS_any _ _).mono ?_; rintro e w' ⟨rfl, rfl⟩)
      go_ret
      exact ⟨rfl, rfl⟩
    · rw [if_neg h2] at hc
      subst hc
      go_enter Try.func108, Try.ntmps108
      go_wp2_with (refine (isNaNS_any _ _).mono ?_; rintro e w' ⟨rfl, rfl⟩)
      go_ret
      exact ⟨rfl, rfl⟩
set_option maxHeartbeats 1000000 in
theorem or2_any (b cap : Nat) (x y r : Int) (w : World) (h0 : w.cell? ⟨b, 0, none⟩ = some (.int .i64 x)) (h1 : w.cell? ⟨b, 1, none⟩ = some (.int .i64 y)) (hr : or2 x y = r) :
    Calls Try.prog 107 #[.slice (some ⟨b, 0, none⟩) 2 cap] w fun e w' => e = .returned (.int .i64 r) ∧ w' = w := by
  unfold or2 at hr
  by_cases g0 : x = 0
  · rw [if_neg (by simpa using g0)] at hr
    subst g0 hr
    by_cases g1 : y = 0
    · subst g1
      go_enter Try.func107, Try.ntmps107
      go_wp2
      refine wp_loop_rounds 3 ?_
      rw [rounds_succ]
      go_wp2
      rw [rounds_succ]
      go_wp2
      rw [rounds_succ]
      go_wp2
      go_ret
      exact ⟨rfl, rfl⟩
    · go_enter Try.func107, Try.ntmps107
      go_wp2
      refine wp_loop_rounds 2 ?_
      rw [rounds_succ]
      go_wp2
      rw [rounds_succ]
      go_wp2
      go_ret
      exact ⟨rfl, rfl⟩
  · rw [if_pos (by simpa using g0)] at hr
    subst hr
    go_enter Try.func107, Try.ntmps107
    go_wp2
    refine wp_loop_rounds 1 ?_
    rw [rounds_succ]
    go_wp2
    go_ret
    exact ⟨rfl, rfl⟩
set_option maxRecDepth 100000 in
set_option maxHeartbeats 2000000 in
theorem compareSE_any (p q : Pc) (w : World) :
    Calls Try.prog 64 #[.agg #[.int .i8 p.x, .int .i8 p.y, .int .i8 p.kind, .int .i8 p.turn, .int .i8 p.delay], .agg #[.int .i8 q.x, .int .i8 q.y, .int .i8 q.kind, .int .i8 q.turn, .int .i8 q.delay]] w fun e w' => e = .returned (.int .i64 (cmpP p q)) ∧ ∃ m os', w' = grow (w.drewN m) os' := by
  obtain ⟨c0, h0⟩ : ∃ c0, cmpS p.y q.y = c0 := ⟨_, rfl⟩
  obtain ⟨c1, h1⟩ : ∃ c1, cmpS p.x q.x = c1 := ⟨_, rfl⟩
  obtain ⟨c, hc⟩ : ∃ c, cmpP p q = c := ⟨_, rfl⟩
  have HO := Lib.hid (show or2 c0 c1 = c by rw [← hc, ← h0, ← h1]; rfl)
  have K0 := Lib.hid (fun W => compareS_any _ _ _ W h0)
  have K1 := Lib.hid (fun W => compareS_any _ _ _ W h1)
  rw [hc]
  obtain ⟨px, py, pk, pt, pd⟩ := p
  obtain ⟨qx, qy, qk, qt, qd⟩ := q
  clear hc h0 h1
  simp only at K0 K1 ⊢
  obtain ⟨W0, hW0⟩ : ∃ W0 : World, (w.alloc (.cells #[.int .i8 px, .int .i8 py, .int .i8 pk, .int .i8 pt, .int .i8 pd] 66)).alloc (.cells #[.int .i8 qx, .int .i8 qy, .int .i8 qk, .int .i8 qt, .int .i8 qd] 66) = W0 := ⟨_, rfl⟩
  have a0 : W0.cell? ⟨w.heap.size, 0, none⟩ = some (.int .i8 px) := by rw [← hW0]; simp
  have a1 : W0.cell? ⟨w.heap.size, 1, none⟩ = some (.int .i8 py) := by rw [← hW0]; simp
  have b0 : W0.cell? ⟨w.heap.size + 1, 0, none⟩ = some (.int .i8 qx) := by rw [← hW0]; simp
  have b1 : W0.cell? ⟨w.heap.size + 1, 1, none⟩ = some (.int .i8 qy) := by rw [← hW0]; simp
  have T0 : ∃ os, W0.drew = grow (w.drewN 1) os := ⟨_, by rw [← hW0, alloc_eq_grow, alloc_eq_grow, grow_grow, drew_grow]; rfl⟩
  have HW := Lib.hid hW0
  have HT := Lib.hid T0
  clear hW0 T0
  go_enter Try.func64, Try.ntmps64
  go_wp2_with fail
  rw [HW.out]
  refine wp_region_still_tail 14 (by kernel_rfl) (by kernel_rfl) ?_
  simp only [List.take_succ_cons, List.take_zero, List.drop_succ_cons, List.drop_zero]
  repeat still_step
  still_call (K0.out _)
  repeat still_step
  still_call (K1.out _)
  repeat still_step
  try refine wpStill_nil ?_
  change wpList _ _ _ _ _ W0.drew
  clear HW a0 a1 b0 b1
  generalize W0.drew = W1 at HT ⊢
  go_wp2_with fail
  refine (or2_any _ _ c0 c1 c _ (by simp) (by simp) HO.out).mono ?_
  rintro e w' ⟨rfl, rfl⟩
  go_wp2
  go_ret
  obtain ⟨os, ho⟩ := HT.out
  exact ⟨rfl, 1, _, by rw [alloc_eq_grow, ho, grow_grow]⟩
end Go.Proofs.Ytlmnoopoohdbkaa
