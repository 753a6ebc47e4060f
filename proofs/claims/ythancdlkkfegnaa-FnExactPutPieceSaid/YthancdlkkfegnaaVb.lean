/- ValidBoard: the program and the model. -/
import Derived.Test.YthancdlkkfegnaaLo
namespace Go.Proofs.Ythancdlkkfegnaa
open Go.ChangeShapes Go.WideShapes Go.ChangeAt Go.RowKit
set_option linter.unusedVariables false

theorem BdAt.box (w : World) (wd hi : Int) (v : Value) (t : TypeId) : BdAt (w.alloc (.cells #[.int .i8 wd, .int .i8 hi, v] t)) w.heap.size 0 wd hi v := by
  refine ⟨?_, ?_, ?_⟩ <;> simp

set_option maxHeartbeats 1000000 in
theorem specValidBoard_any (b o n cap : Nat) (wd hi : Int) (l : List Pc) (w : World) (hn : l.length = n) (hp : PcsAt w b o l) (hb : b < w.heap.size) (hc : n ≤ cap) (h8 : All8 l) (hw8 : i8 wd) (hh8 : i8 hi) (hmax : n ≤ 1048576) (R : Bool) (hR : R = boardOk wd hi l) :
    Calls Try.prog 18 #[.agg #[.int .i8 wd, .int .i8 hi, .slice (some ⟨b, o, none⟩) n cap]] w fun e w' => e = .returned (.bool R) ∧ Below w.heap.size w w' := by
  have hk : Below w.heap.size w (w.alloc (.cells #[.int .i8 wd, .int .i8 hi, .slice (some ⟨b, o, none⟩) n cap] 30)) := by repeat (first | with_reducible exact Below.refl _ _ | (with_reducible refine kSet ?_ ?hB _; case hB => (simp; try omega)) | with_reducible refine kAlloc ?_ _ | with_reducible refine Below.drew ?_ | with_reducible refine kDrewN ?_ _ | with_reducible refine kTrans ?_ (by assumption))
  have hx := l01Ok_any w.heap.size 0 b o n cap wd hi l _ hn (BdAt.box w wd hi (.slice (some ⟨b, o, none⟩) n cap) 30) (hp.below hk hb) (by simp; omega) hc h8 hw8 hh8 hmax R hR
  have Hx := Lib.hid hx
  clear hx hk hn hp h8 hR
  go_enter Try.func18, Try.ntmps18
  go_wp2_with fail
  refine Hx.out.mono ?_
  rintro e w1 ⟨rfl, hb1⟩
  go_wp2
  go_ret
  exact ⟨rfl, by repeat (first | with_reducible exact Below.refl _ _ | (with_reducible refine kSet ?_ ?hB _; case hB => (simp; try omega)) | with_reducible refine kAlloc ?_ _ | with_reducible refine Below.drew ?_ | with_reducible refine kDrewN ?_ _ | with_reducible refine kTrans ?_ (by assumption))⟩
set_option maxHeartbeats 1000000 in
theorem implValidBoard_any (b o n cap : Nat) (wd hi : Int) (l : List Pc) (w : World) (hn : l.length = n) (hp : PcsAt w b o l) (hb : b < w.heap.size) (hc : n ≤ cap) (h8 : All8 l) (hmax : n ≤ 1048576) (R : Bool) (hR : R = boardOk wd hi l) :
    Calls Try.prog 20 #[.agg #[.int .i8 wd, .int .i8 hi, .slice (some ⟨b, o, none⟩) n cap]] w fun e w' => e = .returned (.bool R) ∧ Below w.heap.size w w' := by
  have hk : Below w.heap.size w (w.alloc (.cells #[.int .i8 wd, .int .i8 hi, .slice (some ⟨b, o, none⟩) n cap] 30)) := by repeat (first | with_reducible exact Below.refl _ _ | (with_reducible refine kSet ?_ ?hB _; case hB => (simp; try omega)) | with_reducible refine kAlloc ?_ _ | with_reducible refine Below.drew ?_ | with_reducible refine kDrewN ?_ _ | with_reducible refine kTrans ?_ (by assumption))
  have hx := layoutOf_any b o n cap wd hi l _ hn (hp.below hk hb) (by simp; omega) hc h8 hmax R hR
  have Hx := Lib.hid hx
  clear hx hk hn hp h8 hR
  cases R with
  | true =>
    go_enter Try.func20, Try.ntmps20
    go_wp2_with fail
    refine Hx.out.mono ?_
    rintro e w1 ⟨h1, _, hb1⟩
    obtain ⟨B, rfl, _⟩ := h1 rfl
    clear h1
    go_wp2
    go_ret
    exact ⟨rfl, by repeat (first | with_reducible exact Below.refl _ _ | (with_reducible refine kSet ?_ ?hB _; case hB => (simp; try omega)) | with_reducible refine kAlloc ?_ _ | with_reducible refine Below.drew ?_ | with_reducible refine kDrewN ?_ _ | with_reducible refine kTrans ?_ (by assumption))⟩
  | false =>
    go_enter Try.func20, Try.ntmps20
    go_wp2_with fail
    refine Hx.out.mono ?_
    rintro e w1 ⟨_, h1, hb1⟩
    obtain rfl := h1 rfl
    clear h1
    go_wp2
    go_ret
    exact ⟨rfl, by repeat (first | with_reducible exact Below.refl _ _ | (with_reducible refine kSet ?_ ?hB _; case hB => (simp; try omega)) | with_reducible refine kAlloc ?_ _ | with_reducible refine Below.drew ?_ | with_reducible refine kDrewN ?_ _ | with_reducible refine kTrans ?_ (by assumption))⟩
end Go.Proofs.Ythancdlkkfegnaa
