/- Contracts of what a piece does that is hit: whether it falls, and what it hits. -/
import Derived.Test.YtjdccompjibccaaRxB
import Derived.Handy
import Derived.Laws.EntriesVeiled
namespace Go.Proofs.Ytjdccompjibccaa
open Go.ChangeShapes Go.WideShapes Go.ChangeAt Go.RowKit
set_option linter.unusedVariables false

/-- five cells of a block, that may be written -/
def RAt (w : World) (B : Nat) (f : Nat → Value) : Prop := B < w.heap.size ∧ ∀ j, j < 5 → w.cell? ⟨B, j, none⟩ = some (f j) ∧ w.frozen? ⟨B, j, none⟩ = false
theorem RAt.below {W w' : World} {B : Nat} {f : Nat → Value} (h : RAt W B f) (hb : Below W.heap.size W w') : RAt w' B f :=
  ⟨Nat.lt_of_lt_of_le h.1 hb.size, fun j hj => ⟨(hb.cell (p := ⟨B, j, none⟩) h.1).trans (h.2 j hj).1, (hb.frozen (p := ⟨B, j, none⟩) h.1).trans (h.2 j hj).2⟩⟩
theorem RAt.set {w : World} {B i : Nat} {f : Nat → Value} {v : Value} (h : RAt w B f) : RAt (w.setCell ⟨B, i, none⟩ v) B (fun j => if j = i then v else f j) := by
  refine ⟨by simpa [World.size_setCell] using h.1, fun j hj => ⟨?_, ?_⟩⟩
  · show _ = some (if j = i then v else f j)
    by_cases e : j = i
    · subst e; rw [if_pos rfl]; exact World.cell?_setCell_same _ _ _ (h.2 j hj).1
    · rw [if_neg e, World.cell?_setCell_other _ _ _ _ (by intro x; injection x with _ x _; exact e x.symm)]; exact (h.2 j hj).1
  · rw [World.frozen?_setCell]; exact (h.2 j hj).2
theorem RAt.other {w : World} {A B i : Nat} {f : Nat → Value} {v : Value} (h : RAt w A f) (hne : B ≠ A) : RAt (w.setCell ⟨B, i, none⟩ v) A f :=
  ⟨by simpa [World.size_setCell] using h.1, fun j hj => ⟨by rw [World.cell?_setCell_other _ _ _ _ (by intro x; injection x with x _ _; exact hne x)]; exact (h.2 j hj).1, by rw [World.frozen?_setCell]; exact (h.2 j hj).2⟩⟩
theorem RAt.new (w : World) (v0 v1 v2 v3 v4 : Value) (t : TypeId) : RAt (w.alloc (.cells #[v0, v1, v2, v3, v4] t)) w.heap.size (fun j => match j with | 0 => v0 | 1 => v1 | 2 => v2 | 3 => v3 | _ => v4) := by
  refine ⟨by simp, fun j hj => ?_⟩
  have : j = 0 ∨ j = 1 ∨ j = 2 ∨ j = 3 ∨ j = 4 := by omega
  rcases this with rfl | rfl | rfl | rfl | rfl <;> simp
theorem PcAt.set {w : World} {b o B i : Nat} {p : Pc} {v : Value} (h : PcAt w b o p) (hne : B ≠ b) : PcAt (w.setCell ⟨B, i, none⟩ v) b o p := by
  obtain ⟨h0, h1, h2, h3, h4⟩ := h
  have ne : ∀ x : Nat, (⟨B, i, none⟩ : Addr) ≠ ⟨b, x, none⟩ := by intro x e; injection e with h1 _ _; exact hne h1
  exact ⟨by rw [World.cell?_setCell_other _ _ _ _ (ne _)]; exact h0, by rw [World.cell?_setCell_other _ _ _ _ (ne _)]; exact h1, by rw [World.cell?_setCell_other _ _ _ _ (ne _)]; exact h2, by rw [World.cell?_setCell_other _ _ _ _ (ne _)]; exact h3, by rw [World.cell?_setCell_other _ _ _ _ (ne _)]; exact h4⟩

set_option maxHeartbeats 1000000 in
theorem falls_0 (e : Int) (w : World) (he : 0 ≤ e ∧ e ≤ 3) (b : Bool) (hb : fallsP 0 e = b) :
    Calls Try.prog 25 #[.agg #[.bool false, .bool true, .bool false, .bool true], .int .i8 e] w fun r w' => r = .returned (.bool b) ∧ Below w.heap.size w w' := by
  subst hb
  have h2 : e = 0 ∨ e = 1 ∨ e = 2 ∨ e = 3 := by omega
  clear he
  rcases h2 with rfl | rfl | rfl | rfl
  all_goals
    go_enter Try.func25, Try.ntmps25
    go_wp2
    go_ret
    exact ⟨rfl, by repeat (first | with_reducible exact Below.refl _ _ | (with_reducible refine kSet ?_ ?hB _; case hB => (simp; try omega)) | with_reducible refine kAlloc ?_ _ | with_reducible refine Below.drew ?_ | with_reducible refine kDrewN ?_ _ | with_reducible refine kTrans ?_ (by assumption))⟩
set_option maxHeartbeats 1000000 in
theorem falls_1 (e : Int) (w : World) (he : 0 ≤ e ∧ e ≤ 3) (b : Bool) (hb : fallsP 1 e = b) :
    Calls Try.prog 25 #[.agg #[.bool false, .bool false, .bool true, .bool true], .int .i8 e] w fun r w' => r = .returned (.bool b) ∧ Below w.heap.size w w' := by
  subst hb
  have h2 : e = 0 ∨ e = 1 ∨ e = 2 ∨ e = 3 := by omega
  clear he
  rcases h2 with rfl | rfl | rfl | rfl
  all_goals
    go_enter Try.func25, Try.ntmps25
    go_wp2
    go_ret
    exact ⟨rfl, by repeat (first | with_reducible exact Below.refl _ _ | (with_reducible refine kSet ?_ ?hB _; case hB => (simp; try omega)) | with_reducible refine kAlloc ?_ _ | with_reducible refine Below.drew ?_ | with_reducible refine kDrewN ?_ _ | with_reducible refine kTrans ?_ (by assumption))⟩
set_option maxHeartbeats 1000000 in
theorem falls_2 (e : Int) (w : World) (he : 0 ≤ e ∧ e ≤ 3) (b : Bool) (hb : fallsP 2 e = b) :
    Calls Try.prog 25 #[.agg #[.bool true, .bool false, .bool true, .bool true], .int .i8 e] w fun r w' => r = .returned (.bool b) ∧ Below w.heap.size w w' := by
  subst hb
  have h2 : e = 0 ∨ e = 1 ∨ e = 2 ∨ e = 3 := by omega
  clear he
  rcases h2 with rfl | rfl | rfl | rfl
  all_goals
    go_enter Try.func25, Try.ntmps25
    go_wp2
    go_ret
    exact ⟨rfl, by repeat (first | with_reducible exact Below.refl _ _ | (with_reducible refine kSet ?_ ?hB _; case hB => (simp; try omega)) | with_reducible refine kAlloc ?_ _ | with_reducible refine Below.drew ?_ | with_reducible refine kDrewN ?_ _ | with_reducible refine kTrans ?_ (by assumption))⟩
set_option maxHeartbeats 1000000 in
theorem falls_3 (e : Int) (w : World) (he : 0 ≤ e ∧ e ≤ 3) (b : Bool) (hb : fallsP 3 e = b) :
    Calls Try.prog 42 #[.agg #[.int .i8 3, .int .i8 1], .int .i8 e] w fun r w' => r = .returned (.bool b) ∧ Below w.heap.size w w' := by
  subst hb
  have h2 : e = 0 ∨ e = 1 ∨ e = 2 ∨ e = 3 := by omega
  clear he
  rcases h2 with rfl | rfl | rfl | rfl
  all_goals
    go_enter Try.func42, Try.ntmps42
    go_wp2
    go_ret
    exact ⟨rfl, by repeat (first | with_reducible exact Below.refl _ _ | (with_reducible refine kSet ?_ ?hB _; case hB => (simp; try omega)) | with_reducible refine kAlloc ?_ _ | with_reducible refine Below.drew ?_ | with_reducible refine kDrewN ?_ _ | with_reducible refine kTrans ?_ (by assumption))⟩
set_option maxHeartbeats 1000000 in
theorem falls_4 (e : Int) (w : World) (he : 0 ≤ e ∧ e ≤ 3) (b : Bool) (hb : fallsP 4 e = b) :
    Calls Try.prog 43 #[.agg #[.bool false, .bool true, .bool false, .bool true], .int .i8 e] w fun r w' => r = .returned (.bool b) ∧ Below w.heap.size w w' := by
  subst hb
  have h2 : e = 0 ∨ e = 1 ∨ e = 2 ∨ e = 3 := by omega
  clear he
  rcases h2 with rfl | rfl | rfl | rfl
  all_goals
    go_enter Try.func43, Try.ntmps43
    go_wp2
    go_ret
    exact ⟨rfl, by repeat (first | with_reducible exact Below.refl _ _ | (with_reducible refine kSet ?_ ?hB _; case hB => (simp; try omega)) | with_reducible refine kAlloc ?_ _ | with_reducible refine Below.drew ?_ | with_reducible refine kDrewN ?_ _ | with_reducible refine kTrans ?_ (by assumption))⟩
set_option maxHeartbeats 1000000 in
theorem falls_5 (e : Int) (w : World) (he : 0 ≤ e ∧ e ≤ 3) (b : Bool) (hb : fallsP 5 e = b) :
    Calls Try.prog 44 #[.agg #[], .int .i8 e] w fun r w' => r = .returned (.bool b) ∧ Below w.heap.size w w' := by
  subst hb
  have h2 : e = 0 ∨ e = 1 ∨ e = 2 ∨ e = 3 := by omega
  clear he
  rcases h2 with rfl | rfl | rfl | rfl
  all_goals
    go_enter Try.func44, Try.ntmps44
    go_wp2
    go_ret
    exact ⟨rfl, by repeat (first | with_reducible exact Below.refl _ _ | (with_reducible refine kSet ?_ ?hB _; case hB => (simp; try omega)) | with_reducible refine kAlloc ?_ _ | with_reducible refine Below.drew ?_ | with_reducible refine kDrewN ?_ _ | with_reducible refine kTrans ?_ (by assumption))⟩
theorem hitsK_0 (e : Int) (w : World) (he : 0 ≤ e ∧ e ≤ 3) :
    Calls Try.prog 20 #[.iface 61 (.agg #[.bool false, .bool true, .bool false, .bool true]), .int .i8 e] w fun r w' => r = .returned (.agg #[.bool (hitsP 0 e 0), .bool (hitsP 0 e 1), .bool (hitsP 0 e 2), .bool (hitsP 0 e 3)]) ∧ Below w.heap.size w w' := hitsOf_any 0 e w (by omega) he
theorem hitsK_1 (e : Int) (w : World) (he : 0 ≤ e ∧ e ≤ 3) :
    Calls Try.prog 20 #[.iface 61 (.agg #[.bool false, .bool false, .bool true, .bool true]), .int .i8 e] w fun r w' => r = .returned (.agg #[.bool (hitsP 1 e 0), .bool (hitsP 1 e 1), .bool (hitsP 1 e 2), .bool (hitsP 1 e 3)]) ∧ Below w.heap.size w w' := hitsOf_any 1 e w (by omega) he
theorem hitsK_2 (e : Int) (w : World) (he : 0 ≤ e ∧ e ≤ 3) :
    Calls Try.prog 20 #[.iface 61 (.agg #[.bool true, .bool false, .bool true, .bool true]), .int .i8 e] w fun r w' => r = .returned (.agg #[.bool (hitsP 2 e 0), .bool (hitsP 2 e 1), .bool (hitsP 2 e 2), .bool (hitsP 2 e 3)]) ∧ Below w.heap.size w w' := hitsOf_any 2 e w (by omega) he
theorem hitsK_3 (e : Int) (w : World) (he : 0 ≤ e ∧ e ≤ 3) :
    Calls Try.prog 20 #[.iface 63 (.agg #[.int .i8 3, .int .i8 1]), .int .i8 e] w fun r w' => r = .returned (.agg #[.bool (hitsP 3 e 0), .bool (hitsP 3 e 1), .bool (hitsP 3 e 2), .bool (hitsP 3 e 3)]) ∧ Below w.heap.size w w' := hitsOf_any 3 e w (by omega) he
theorem hitsK_4 (e : Int) (w : World) (he : 0 ≤ e ∧ e ≤ 3) :
    Calls Try.prog 20 #[.iface 65 (.agg #[.bool false, .bool true, .bool false, .bool true]), .int .i8 e] w fun r w' => r = .returned (.agg #[.bool (hitsP 4 e 0), .bool (hitsP 4 e 1), .bool (hitsP 4 e 2), .bool (hitsP 4 e 3)]) ∧ Below w.heap.size w w' := hitsOf_any 4 e w (by omega) he
theorem hitsK_5 (e : Int) (w : World) (he : 0 ≤ e ∧ e ≤ 3) :
    Calls Try.prog 20 #[.iface 67 (.agg #[]), .int .i8 e] w fun r w' => r = .returned (.agg #[.bool (hitsP 5 e 0), .bool (hitsP 5 e 1), .bool (hitsP 5 e 2), .bool (hitsP 5 e 3)]) ∧ Below w.heap.size w w' := hitsOf_any 5 e w (by omega) he
theorem idx4_0 (x0 x1 x2 x3 : Value) (w : World) : (Instr.index 38 (.agg #[x0, x1, x2, x3]) (.int .i64 0)).run Try.prog w = .ok x0 w := by kernel_rfl
theorem idx4_1 (x0 x1 x2 x3 : Value) (w : World) : (Instr.index 38 (.agg #[x0, x1, x2, x3]) (.int .i64 1)).run Try.prog w = .ok x1 w := by kernel_rfl
theorem idx4_2 (x0 x1 x2 x3 : Value) (w : World) : (Instr.index 38 (.agg #[x0, x1, x2, x3]) (.int .i64 2)).run Try.prog w = .ok x2 w := by kernel_rfl
theorem idx4_3 (x0 x1 x2 x3 : Value) (w : World) : (Instr.index 38 (.agg #[x0, x1, x2, x3]) (.int .i64 3)).run Try.prog w = .ok x3 w := by kernel_rfl
end Go.Proofs.Ytjdccompjibccaa
