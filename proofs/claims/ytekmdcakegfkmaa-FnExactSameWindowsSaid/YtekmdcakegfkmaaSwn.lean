/- SameWindows: the program's side. -/
import Derived.Test.YtekmdcakegfkmaaEqWn
namespace Go.Proofs.Ytekmdcakegfkmaa
open Go.ChangeShapes Go.WideShapes Go.ChangeAt Go.RowKit
set_option linter.unusedVariables false
theorem implSameWindows_any (v1 v2 : Value) (l1 l2 : List Wn) (w : World) (h1 : SlWn w l1 v1) (h2 : SlWn w l2 v2) (hm1 : l1.length ≤ 1048576) (hm2 : l2.length ≤ 1048576) (R : Bool) (hR : decide (l1 = l2) = R) :
    Calls Try.prog 27 #[v1, v2] w fun e w' => e = .returned (.bool R) ∧ Below w.heap.size w w' := by
  have H := Lib.hid (WindowsEqual_any v1 v2 l1 l2 w h1 h2 hm1 hm2 R hR)
  clear h1 h2 hR
  go_enter Try.func27, Try.ntmps27
  go_wp2_with fail
  refine H.out.mono ?_
  rintro e w1 ⟨rfl, hb1⟩
  go_wp2
  go_ret
  exact ⟨rfl, hb1⟩
end Go.Proofs.Ytekmdcakegfkmaa
