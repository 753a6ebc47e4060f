/- Contracts of the laws' comparisons of boards that hold the same. -/
import Derived.Test.YthancdlkkfegnaaBd
import Derived.StillTailTactics
namespace Go.Proofs.Ythancdlkkfegnaa
open Go.ChangeShapes Go.WideShapes Go.ChangeAt Go.RowKit
set_option linter.unusedVariables false

/-- the pieces' numbers are those of an int8 -/
def All8 (l : List Pc) : Prop := ∀ p ∈ l, p.in8

set_option maxRecDepth 100000 in
set_option maxHeartbeats 2000000 in
theorem eqPieceS_same (b1 o1 b2 o2 n c1 c2 : Nat) (l : List Pc) (w : World) (hn : l.length = n) (h1 : PcsAt w b1 o1 l) (h2 : PcsAt w b2 o2 l) (hb1 : b1 < w.heap.size) (hb2 : b2 < w.heap.size) (h8 : All8 l) (hc1 : n ≤ c1) (hc2 : n ≤ c2) (hmax : n ≤ 1048576) :
    Calls Try.prog 69 #[.slice (some ⟨b1, o1, none⟩) n c1, .slice (some ⟨b2, o2, none⟩) n c2] w fun e w' => e = .returned (.bool true) ∧ Below w.heap.size w w' := by
  have Hn := Lib.hid hn
  clear hn
  go_enter Try.func69, Try.ntmps69
  go_wp2
  go_loopw [5] (fun i wr => ∃ k : Nat, k ≤ n ∧ i = .int .i64 k ∧ Below w.heap.size w wr) (fun i _ => n - (intOf i).toNat)
  case atStart => exact ⟨0, by omega, rfl, Below.refl _ _⟩
  case round =>
    obtain ⟨k, hk, rfl, hbr⟩ := hrel
    by_cases hlt : k < n
    · have hlk : k < l.length := by rw [Hn.out]; exact hlt
      have hp1 := (h1.below hbr hb1) k hlk
      have hp2 := (h2.below hbr hb2) k hlk
      have hp8 := h8 _ (List.getElem_mem hlk)
      generalize hpe : l[k] = p at hp1 hp2 hp8
      obtain ⟨a0, a1, a2, a3, a4⟩ := hp1
      obtain ⟨d0, d1, d2, d3, d4⟩ := hp2
      clear h1 h2 h8 hpe
      go_wp2
      go_still_tail 8, (by kernel_rfl)
      change wpList _ _ _ _ _ wr.drew
      have hbw : Below w.heap.size w wr.drew := Below.drew hbr
      generalize wr.drew = w2 at hbw ⊢
      go_wp2_with fail
      refine (eqPiece_same p _ hp8).mono ?_
      rintro e w3 ⟨rfl, hb3⟩
      have hb4 := kTrans hbw hb3
      clear hbw hb3
      go_wp2
      exact ⟨⟨k + 1, by omega, by go_num, hb4⟩, by simp [intOf]; omega⟩
    · clear h1 h2 h8
      go_wp2
      go_ret
      exact ⟨rfl, hbr⟩
set_option maxHeartbeats 1000000 in
theorem eqBoard_same (wd hi : Int) (b1 o1 b2 o2 n c1 c2 : Nat) (l : List Pc) (w : World) (hn : l.length = n) (h1 : PcsAt w b1 o1 l) (h2 : PcsAt w b2 o2 l) (hb1 : b1 < w.heap.size) (hb2 : b2 < w.heap.size) (h8 : All8 l) (hc1 : n ≤ c1) (hc2 : n ≤ c2) (hmax : n ≤ 1048576) :
    Calls Try.prog 21 #[.agg #[.int .i8 wd, .int .i8 hi, .slice (some ⟨b1, o1, none⟩) n c1], .agg #[.int .i8 wd, .int .i8 hi, .slice (some ⟨b2, o2, none⟩) n c2]] w fun e w' => e = .returned (.bool true) ∧ Below w.heap.size w w' := by
  have k1 : ∀ w2, Below w.heap.size w w2 → PcsAt w2 b1 o1 l := fun w2 hb => h1.below hb hb1
  have k2 : ∀ w2, Below w.heap.size w w2 → PcsAt w2 b2 o2 l := fun w2 hb => h2.below hb hb2
  have K1 := Lib.hid k1
  have K2 := Lib.hid k2
  have Hn := Lib.hid hn
  clear k1 k2 h1 h2 hn
  go_enter Try.func21, Try.ntmps21
  go_wp2_with fail
  refine (eqPieceS_same b1 o1 b2 o2 n c1 c2 l _ Hn.out (K1.out _ (by repeat (first | with_reducible exact Below.refl _ _ | (with_reducible refine kSet ?_ ?hB _; case hB => (simp; try omega)) | with_reducible refine kAlloc ?_ _ | with_reducible refine Below.drew ?_ | with_reducible refine kDrewN ?_ _ | with_reducible refine kTrans ?_ (by assumption)))) (K2.out _ (by repeat (first | with_reducible exact Below.refl _ _ | (with_reducible refine kSet ?_ ?hB _; case hB => (simp; try omega)) | with_reducible refine kAlloc ?_ _ | with_reducible refine Below.drew ?_ | with_reducible refine kDrewN ?_ _ | with_reducible refine kTrans ?_ (by assumption)))) (by simp; omega) (by simp; omega) h8 hc1 hc2 hmax).mono ?_
  rintro e w1 ⟨rfl, hb⟩
  clear h8
  go_wp2
  go_ret
  exact ⟨rfl, by repeat (first | with_reducible exact Below.refl _ _ | (with_reducible refine kSet ?_ ?hB _; case hB => (simp; try omega)) | with_reducible refine kAlloc ?_ _ | with_reducible refine Below.drew ?_ | with_reducible refine kDrewN ?_ _ | with_reducible refine kTrans ?_ (by assumption))⟩
end Go.Proofs.Ythancdlkkfegnaa
