/- A device with the inputs' late: lateDevice. -/
import Derived.Test.YthohngkdfhpieaaGreatDoorDo
import Derived.Test.YthohngkdfhpieaaGreatDoorBi
import Derived.Test.YthohngkdfhpieaaGreatDoorIn
namespace Go.Proofs.YthohngkdfhpieaaGreatDoor
open Go.ChangeShapes Go.WideShapes Go.ChangeAt Go.RowKit Go.Joins Go.Deep
set_option linter.unusedVariables false
set_option linter.unusedSimpArgs false

def lateAll (t : List Int) : Bool := t.all fun x => decide (0 ≤ x ∧ x ≤ 100)
/-- row and late are as a machine of n inputs asks -/
def rowOk (n : Nat) (row : Int) (t : List Int) : Bool := decide (0 ≤ row ∧ row < 2 ^ n) && decide (t.length = n) && lateAll t
def askedC (M O : Bool) : Int := match M, O with | false, _ => 1 | true, false => 2 | true, true => 0
/-- a result in a box, and two in slots -/
theorem results_cell_tmp2 {P : Program} {fn : Func} {p q r : Tmp} {ty : TypeId} (h : fn.results = #[.cell p ty, .tmp q, .tmp r]) (tmps : Array Value) (w : World) (g : Nat) (t : TypeId) (cs : Array Value) (fr : Nat × Nat) (d : TypeDesc) (v u : Value)
    (hp : tmps.getD p undef = .pointer (some ⟨g, 0, none⟩)) (hq : tmps.getD q undef = v) (hr : tmps.getD r undef = u) (hg : w.heap[g]? = some (.cells cs t fr))
    (hu : P.underlying ty = some d) (hd : (match d with | .struct _ | .array _ _ => true | _ => false) = true) (hi : (P.info? ty).map (·.size) = some cs.size) :
    (results fn tmps).run P w = .ok (.tuple #[.agg cs, v, u]) w := by
  have hp' : tmps[p]?.getD undef = .pointer (some ⟨g, 0, none⟩) := by simpa using hp
  have hq' : tmps[q]?.getD undef = v := by simpa using hq
  have hr' : tmps[r]?.getD undef = u := by simpa using hr
  simp [results, h, hp', hq', hr', asAddr, run_loadVar_row w g t ty cs fr d hg hu hd hi]
set_option maxRecDepth 100000 in
set_option maxHeartbeats 2000000 in
theorem hasRow_any (B : Nat) (wd hi row : Int) (a0 a1 a2 : Option Addr) (n0 n1 n2 d0 d1 d2 : Nat) (w : World) (hn : n1 ≤ 6) (R : Bool) (hR : R = decide (0 ≤ row ∧ row < 2 ^ n1)) :
    Calls Tryz.prog 87 #[.agg #[.int .i8 wd, .int .i8 hi, .map (some B), .int .i8 wd, .int .i8 hi, .slice a0 n0 d0, .slice a1 n1 d1, .slice a2 n2 d2], .int .i64 row] w fun e w' => e = .returned (.bool R) ∧ Below w.heap.size w w' := by
  have H := Lib.hid (fun w => isBelowPower_any row n1 w hn R hR)
  clear hR
  go_enter Tryz.func87, Tryz.ntmps87
  go_wp2_with fail
  refine (H.out _).mono ?_
  rintro e w1 ⟨rfl, rfl⟩
  go_wp2
  go_ret
  exact ⟨rfl, by repeat (first | with_reducible exact Below.refl _ _ | (with_reducible refine kSet ?_ ?hB _; case hB => (simp; try omega)) | with_reducible refine kAlloc ?_ _ | with_reducible refine Below.drew ?_ | with_reducible refine kDrewN ?_ _ | with_reducible refine kTrans ?_ (by assumption))⟩
end Go.Proofs.YthohngkdfhpieaaGreatDoor
