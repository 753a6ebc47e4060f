/- Contracts of chapter 1's functions: next cells, quarters, turned pieces. -/
import Derived.Test.YtjdccompjibccaaC1b
namespace Go.Proofs.Ytjdccompjibccaa
open Go.ChangeShapes Go.WideShapes Go.ChangeAt Go.RowKit
set_option linter.unusedVariables false

theorem ret_int {k : IntKind} {a b : Int} (h : a = b) : Ending.returned (.int k a) = .returned (.int k b) := by rw [h]

def stepX (x s : Int) : Int := if s = 1 then x + 1 else if s = 3 then x - 1 else x
def stepY (y s : Int) : Int := if s = 0 then y - 1 else if s = 2 then y + 1 else y



theorem tmod4 (n : Int) : (n.tmod 4 + 4) % 4 = n % 4 := by
  have := Int.tmod_add_mul_tdiv n 4
  omega
theorem tmod4_lo (n : Int) : -4 < n.tmod 4 := Int.lt_tmod_of_pos n (by decide)
theorem tmod4_hi (n : Int) : n.tmod 4 < 4 := Int.tmod_lt_of_pos n (by decide)

theorem wrapQuarters_any (q : Int) (w : World) (hq : -1000 ≤ q ∧ q ≤ 1000) :
    Calls Try.prog 19 #[.int .i64 q] w fun e w' => e = .returned (.int .i8 (q % 4)) ∧ w = w' := by
  have h1 := tmod4_lo q
  have h2 := tmod4_hi q
  by_cases h : 0 ≤ q
  · go_enter Try.func19, Try.ntmps19
    go_wp2
    go_ret
    exact ⟨ret_int (by omega), rfl⟩
  · go_enter Try.func19, Try.ntmps19
    go_wp2
    go_ret
    exact ⟨ret_int (by have := tmod4 q; omega), rfl⟩

end Go.Proofs.Ytjdccompjibccaa
