/- What a piece does that is hit: the program and the model, each by its contract. -/
import Derived.Test.YtflkfkbdgekpkaaDoorRxD0
import Derived.Test.YtflkfkbdgekpkaaDoorRxD1
import Derived.Test.YtflkfkbdgekpkaaDoorRxD2
import Derived.Test.YtflkfkbdgekpkaaDoorRxD3
import Derived.Test.YtflkfkbdgekpkaaDoorRxD4
import Derived.Test.YtflkfkbdgekpkaaDoorRxD5
import Derived.Test.YtflkfkbdgekpkaaDoorG6
namespace Go.Proofs.YtflkfkbdgekpkaaDoor
open Go.ChangeShapes Go.WideShapes Go.ChangeAt Go.RowKit
set_option linter.unusedVariables false

/-- whether a piece of kind k, turned by t, falls that is hit from s; and whether it hits its side j then -/
def rxF (k t s : Int) : Bool := fallsP k ((s - t) % 4)
def rxH (k t s j : Int) : Bool := fallsP k ((s - t) % 4) && hitsP k ((s - t) % 4) ((j - t) % 4)
def bitI (b : Bool) (n : Int) : Int := if b = true then n else 0
/-- the same as one number: bits worth 1, 2, 4 and 8; -1 if it does not fall -/
def rxB (k t s : Int) : Int := if rxF k t s = true then bitI (rxH k t s 0) 1 + bitI (rxH k t s 1) 2 + bitI (rxH k t s 2) 4 + bitI (rxH k t s 3) 8 else -1

theorem reactionOf_any (p : Pc) (s : Int) (w : World) (hk : 0 ≤ p.kind ∧ p.kind ≤ 5) (ht : 0 ≤ p.turn ∧ p.turn ≤ 3) (hs : 0 ≤ s ∧ s ≤ 3) :
    Calls Tryd.prog 41 #[.agg #[.int .i8 p.x, .int .i8 p.y, .int .i8 p.kind, .int .i8 p.turn, .int .i8 p.delay], .int .i8 s] w fun r w' => r = .returned (.agg #[.bool (rxF p.kind p.turn s), .bool (rxH p.kind p.turn s 0), .bool (rxH p.kind p.turn s 1), .bool (rxH p.kind p.turn s 2), .bool (rxH p.kind p.turn s 3)]) ∧ Below w.heap.size w w' := by
  obtain ⟨x, y, k, t, d⟩ := p
  simp only at hk ht ⊢
  have h1 : k = 0 ∨ k = 1 ∨ k = 2 ∨ k = 3 ∨ k = 4 ∨ k = 5 := by omega
  have h2 : t = 0 ∨ t = 1 ∨ t = 2 ∨ t = 3 := by omega
  clear hk ht
  rcases h1 with rfl | rfl | rfl | rfl | rfl | rfl <;> rcases h2 with rfl | rfl | rfl | rfl
  · cases hf : fallsP 0 ((s - 0) % 4) with
    | true => exact (rx_0_0_yes x y d s ((s - 0) % 4) w hs (by omega) (by omega) hf).mono fun e w' ⟨h1, h2⟩ => ⟨by rw [h1]; simp only [rxF, rxH, hf, Bool.true_and]; rfl, h2⟩
    | false => exact (rx_0_0_no x y d s ((s - 0) % 4) w hs (by omega) (by omega) hf).mono fun e w' ⟨h1, h2⟩ => ⟨by rw [h1]; simp only [rxF, rxH, hf, Bool.false_and], h2⟩
  · cases hf : fallsP 0 ((s - 1) % 4) with
    | true => exact (rx_0_1_yes x y d s ((s - 1) % 4) w hs (by omega) (by omega) hf).mono fun e w' ⟨h1, h2⟩ => ⟨by rw [h1]; simp only [rxF, rxH, hf, Bool.true_and]; rfl, h2⟩
    | false => exact (rx_0_1_no x y d s ((s - 1) % 4) w hs (by omega) (by omega) hf).mono fun e w' ⟨h1, h2⟩ => ⟨by rw [h1]; simp only [rxF, rxH, hf, Bool.false_and], h2⟩
  · cases hf : fallsP 0 ((s - 2) % 4) with
    | true => exact (rx_0_2_yes x y d s ((s - 2) % 4) w hs (by omega) (by omega) hf).mono fun e w' ⟨h1, h2⟩ => ⟨by rw [h1]; simp only [rxF, rxH, hf, Bool.true_and]; rfl, h2⟩
    | false => exact (rx_0_2_no x y d s ((s - 2) % 4) w hs (by omega) (by omega) hf).mono fun e w' ⟨h1, h2⟩ => ⟨by rw [h1]; simp only [rxF, rxH, hf, Bool.false_and], h2⟩
  · cases hf : fallsP 0 ((s - 3) % 4) with
    | true => exact (rx_0_3_yes x y d s ((s - 3) % 4) w hs (by omega) (by omega) hf).mono fun e w' ⟨h1, h2⟩ => ⟨by rw [h1]; simp only [rxF, rxH, hf, Bool.true_and]; rfl, h2⟩
    | false => exact (rx_0_3_no x y d s ((s - 3) % 4) w hs (by omega) (by omega) hf).mono fun e w' ⟨h1, h2⟩ => ⟨by rw [h1]; simp only [rxF, rxH, hf, Bool.false_and], h2⟩
  · cases hf : fallsP 1 ((s - 0) % 4) with
    | true => exact (rx_1_0_yes x y d s ((s - 0) % 4) w hs (by omega) (by omega) hf).mono fun e w' ⟨h1, h2⟩ => ⟨by rw [h1]; simp only [rxF, rxH, hf, Bool.true_and]; rfl, h2⟩
    | false => exact (rx_1_0_no x y d s ((s - 0) % 4) w hs (by omega) (by omega) hf).mono fun e w' ⟨h1, h2⟩ => ⟨by rw [h1]; simp only [rxF, rxH, hf, Bool.false_and], h2⟩
  · cases hf : fallsP 1 ((s - 1) % 4) with
    | true => exact (rx_1_1_yes x y d s ((s - 1) % 4) w hs (by omega) (by omega) hf).mono fun e w' ⟨h1, h2⟩ => ⟨by rw [h1]; simp only [rxF, rxH, hf, Bool.true_and]; rfl, h2⟩
    | false => exact (rx_1_1_no x y d s ((s - 1) % 4) w hs (by omega) (by omega) hf).mono fun e w' ⟨h1, h2⟩ => ⟨by rw [h1]; simp only [rxF, rxH, hf, Bool.false_and], h2⟩
  · cases hf : fallsP 1 ((s - 2) % 4) with
    | true => exact (rx_1_2_yes x y d s ((s - 2) % 4) w hs (by omega) (by omega) hf).mono fun e w' ⟨h1, h2⟩ => ⟨by rw [h1]; simp only [rxF, rxH, hf, Bool.true_and]; rfl, h2⟩
    | false => exact (rx_1_2_no x y d s ((s - 2) % 4) w hs (by omega) (by omega) hf).mono fun e w' ⟨h1, h2⟩ => ⟨by rw [h1]; simp only [rxF, rxH, hf, Bool.false_and], h2⟩
  · cases hf : fallsP 1 ((s - 3) % 4) with
    | true => exact (rx_1_3_yes x y d s ((s - 3) % 4) w hs (by omega) (by omega) hf).mono fun e w' ⟨h1, h2⟩ => ⟨by rw [h1]; simp only [rxF, rxH, hf, Bool.true_and]; rfl, h2⟩
    | false => exact (rx_1_3_no x y d s ((s - 3) % 4) w hs (by omega) (by omega) hf).mono fun e w' ⟨h1, h2⟩ => ⟨by rw [h1]; simp only [rxF, rxH, hf, Bool.false_and], h2⟩
  · cases hf : fallsP 2 ((s - 0) % 4) with
    | true => exact (rx_2_0_yes x y d s ((s - 0) % 4) w hs (by omega) (by omega) hf).mono fun e w' ⟨h1, h2⟩ => ⟨by rw [h1]; simp only [rxF, rxH, hf, Bool.true_and]; rfl, h2⟩
    | false => exact (rx_2_0_no x y d s ((s - 0) % 4) w hs (by omega) (by omega) hf).mono fun e w' ⟨h1, h2⟩ => ⟨by rw [h1]; simp only [rxF, rxH, hf, Bool.false_and], h2⟩
  · cases hf : fallsP 2 ((s - 1) % 4) with
    | true => exact (rx_2_1_yes x y d s ((s - 1) % 4) w hs (by omega) (by omega) hf).mono fun e w' ⟨h1, h2⟩ => ⟨by rw [h1]; simp only [rxF, rxH, hf, Bool.true_and]; rfl, h2⟩
    | false => exact (rx_2_1_no x y d s ((s - 1) % 4) w hs (by omega) (by omega) hf).mono fun e w' ⟨h1, h2⟩ => ⟨by rw [h1]; simp only [rxF, rxH, hf, Bool.false_and], h2⟩
  · cases hf : fallsP 2 ((s - 2) % 4) with
    | true => exact (rx_2_2_yes x y d s ((s - 2) % 4) w hs (by omega) (by omega) hf).mono fun e w' ⟨h1, h2⟩ => ⟨by rw [h1]; simp only [rxF, rxH, hf, Bool.true_and]; rfl, h2⟩
    | false => exact (rx_2_2_no x y d s ((s - 2) % 4) w hs (by omega) (by omega) hf).mono fun e w' ⟨h1, h2⟩ => ⟨by rw [h1]; simp only [rxF, rxH, hf, Bool.false_and], h2⟩
  · cases hf : fallsP 2 ((s - 3) % 4) with
    | true => exact (rx_2_3_yes x y d s ((s - 3) % 4) w hs (by omega) (by omega) hf).mono fun e w' ⟨h1, h2⟩ => ⟨by rw [h1]; simp only [rxF, rxH, hf, Bool.true_and]; rfl, h2⟩
    | false => exact (rx_2_3_no x y d s ((s - 3) % 4) w hs (by omega) (by omega) hf).mono fun e w' ⟨h1, h2⟩ => ⟨by rw [h1]; simp only [rxF, rxH, hf, Bool.false_and], h2⟩
  · cases hf : fallsP 3 ((s - 0) % 4) with
    | true => exact (rx_3_0_yes x y d s ((s - 0) % 4) w hs (by omega) (by omega) hf).mono fun e w' ⟨h1, h2⟩ => ⟨by rw [h1]; simp only [rxF, rxH, hf, Bool.true_and]; rfl, h2⟩
    | false => exact (rx_3_0_no x y d s ((s - 0) % 4) w hs (by omega) (by omega) hf).mono fun e w' ⟨h1, h2⟩ => ⟨by rw [h1]; simp only [rxF, rxH, hf, Bool.false_and], h2⟩
  · cases hf : fallsP 3 ((s - 1) % 4) with
    | true => exact (rx_3_1_yes x y d s ((s - 1) % 4) w hs (by omega) (by omega) hf).mono fun e w' ⟨h1, h2⟩ => ⟨by rw [h1]; simp only [rxF, rxH, hf, Bool.true_and]; rfl, h2⟩
    | false => exact (rx_3_1_no x y d s ((s - 1) % 4) w hs (by omega) (by omega) hf).mono fun e w' ⟨h1, h2⟩ => ⟨by rw [h1]; simp only [rxF, rxH, hf, Bool.false_and], h2⟩
  · cases hf : fallsP 3 ((s - 2) % 4) with
    | true => exact (rx_3_2_yes x y d s ((s - 2) % 4) w hs (by omega) (by omega) hf).mono fun e w' ⟨h1, h2⟩ => ⟨by rw [h1]; simp only [rxF, rxH, hf, Bool.true_and]; rfl, h2⟩
    | false => exact (rx_3_2_no x y d s ((s - 2) % 4) w hs (by omega) (by omega) hf).mono fun e w' ⟨h1, h2⟩ => ⟨by rw [h1]; simp only [rxF, rxH, hf, Bool.false_and], h2⟩
  · cases hf : fallsP 3 ((s - 3) % 4) with
    | true => exact (rx_3_3_yes x y d s ((s - 3) % 4) w hs (by omega) (by omega) hf).mono fun e w' ⟨h1, h2⟩ => ⟨by rw [h1]; simp only [rxF, rxH, hf, Bool.true_and]; rfl, h2⟩
    | false => exact (rx_3_3_no x y d s ((s - 3) % 4) w hs (by omega) (by omega) hf).mono fun e w' ⟨h1, h2⟩ => ⟨by rw [h1]; simp only [rxF, rxH, hf, Bool.false_and], h2⟩
  · have hf : fallsP 4 ((s - 0) % 4) = true := rfl
    exact (rx_4_0_yes x y d s ((s - 0) % 4) w hs (by omega) (by omega) hf).mono fun e w' ⟨h1, h2⟩ => ⟨by rw [h1]; simp only [rxF, rxH, hf, Bool.true_and]; rfl, h2⟩
  · have hf : fallsP 4 ((s - 1) % 4) = true := rfl
    exact (rx_4_1_yes x y d s ((s - 1) % 4) w hs (by omega) (by omega) hf).mono fun e w' ⟨h1, h2⟩ => ⟨by rw [h1]; simp only [rxF, rxH, hf, Bool.true_and]; rfl, h2⟩
  · have hf : fallsP 4 ((s - 2) % 4) = true := rfl
    exact (rx_4_2_yes x y d s ((s - 2) % 4) w hs (by omega) (by omega) hf).mono fun e w' ⟨h1, h2⟩ => ⟨by rw [h1]; simp only [rxF, rxH, hf, Bool.true_and]; rfl, h2⟩
  · have hf : fallsP 4 ((s - 3) % 4) = true := rfl
    exact (rx_4_3_yes x y d s ((s - 3) % 4) w hs (by omega) (by omega) hf).mono fun e w' ⟨h1, h2⟩ => ⟨by rw [h1]; simp only [rxF, rxH, hf, Bool.true_and]; rfl, h2⟩
  · have hf : fallsP 5 ((s - 0) % 4) = true := rfl
    exact (rx_5_0_yes x y d s ((s - 0) % 4) w hs (by omega) (by omega) hf).mono fun e w' ⟨h1, h2⟩ => ⟨by rw [h1]; simp only [rxF, rxH, hf, Bool.true_and]; rfl, h2⟩
  · have hf : fallsP 5 ((s - 1) % 4) = true := rfl
    exact (rx_5_1_yes x y d s ((s - 1) % 4) w hs (by omega) (by omega) hf).mono fun e w' ⟨h1, h2⟩ => ⟨by rw [h1]; simp only [rxF, rxH, hf, Bool.true_and]; rfl, h2⟩
  · have hf : fallsP 5 ((s - 2) % 4) = true := rfl
    exact (rx_5_2_yes x y d s ((s - 2) % 4) w hs (by omega) (by omega) hf).mono fun e w' ⟨h1, h2⟩ => ⟨by rw [h1]; simp only [rxF, rxH, hf, Bool.true_and]; rfl, h2⟩
  · have hf : fallsP 5 ((s - 3) % 4) = true := rfl
    exact (rx_5_3_yes x y d s ((s - 3) % 4) w hs (by omega) (by omega) hf).mono fun e w' ⟨h1, h2⟩ => ⟨by rw [h1]; simp only [rxF, rxH, hf, Bool.true_and]; rfl, h2⟩
theorem l01Hits_any (p : Pc) (b o : Nat) (s : Int) (w : World) (hk : 0 ≤ p.kind ∧ p.kind ≤ 5) (ht : 0 ≤ p.turn ∧ p.turn ≤ 3) (hs : 0 ≤ s ∧ s ≤ 3) (hc : PcAt w b o p) (hbl : b < w.heap.size) :
    Calls Tryd.prog 34 #[.pointer (some ⟨b, o, none⟩), .int .i64 s] w fun r w' => r = .returned (.int .i64 (rxB p.kind p.turn s)) ∧ Below w.heap.size w w' := by
  obtain ⟨x, y, k, t, d⟩ := p
  simp only at hk ht ⊢
  have h1 : k = 0 ∨ k = 1 ∨ k = 2 ∨ k = 3 ∨ k = 4 ∨ k = 5 := by omega
  have h2 : t = 0 ∨ t = 1 ∨ t = 2 ∨ t = 3 := by omega
  have h3 : s = 0 ∨ s = 1 ∨ s = 2 ∨ s = 3 := by omega
  clear hk ht hs
  rcases h1 with rfl | rfl | rfl | rfl | rfl | rfl <;> rcases h2 with rfl | rfl | rfl | rfl <;> rcases h3 with rfl | rfl | rfl | rfl
  · exact (sh_m1_0 b o x y 0 d 0 w (by omega) (by omega) hc hbl (by decide)).mono fun e w' ⟨h1, h2⟩ => ⟨h1.trans (congrArg (fun n => Ending.returned (.int .i64 n)) (by decide : (-1 : Int) = rxB 0 0 0)), h2⟩
  · exact (sh_8_0 b o x y 0 d 1 w (by omega) (by omega) hc hbl (by decide)).mono fun e w' ⟨h1, h2⟩ => ⟨h1.trans (congrArg (fun n => Ending.returned (.int .i64 n)) (by decide : (8 : Int) = rxB 0 0 1)), h2⟩
  · exact (sh_m1_0 b o x y 0 d 2 w (by omega) (by omega) hc hbl (by decide)).mono fun e w' ⟨h1, h2⟩ => ⟨h1.trans (congrArg (fun n => Ending.returned (.int .i64 n)) (by decide : (-1 : Int) = rxB 0 0 2)), h2⟩
  · exact (sh_2_0 b o x y 0 d 3 w (by omega) (by omega) hc hbl (by decide)).mono fun e w' ⟨h1, h2⟩ => ⟨h1.trans (congrArg (fun n => Ending.returned (.int .i64 n)) (by decide : (2 : Int) = rxB 0 0 3)), h2⟩
  · exact (sh_2_1 b o x y 0 d 0 w (by omega) (by omega) hc hbl (by decide)).mono fun e w' ⟨h1, h2⟩ => ⟨h1.trans (congrArg (fun n => Ending.returned (.int .i64 n)) (by decide : (4 : Int) = rxB 0 1 0)), h2⟩
  · exact (sh_m1_1 b o x y 0 d 1 w (by omega) (by omega) hc hbl (by decide)).mono fun e w' ⟨h1, h2⟩ => ⟨h1.trans (congrArg (fun n => Ending.returned (.int .i64 n)) (by decide : (-1 : Int) = rxB 0 1 1)), h2⟩
  · exact (sh_8_1 b o x y 0 d 2 w (by omega) (by omega) hc hbl (by decide)).mono fun e w' ⟨h1, h2⟩ => ⟨h1.trans (congrArg (fun n => Ending.returned (.int .i64 n)) (by decide : (1 : Int) = rxB 0 1 2)), h2⟩
  · exact (sh_m1_1 b o x y 0 d 3 w (by omega) (by omega) hc hbl (by decide)).mono fun e w' ⟨h1, h2⟩ => ⟨h1.trans (congrArg (fun n => Ending.returned (.int .i64 n)) (by decide : (-1 : Int) = rxB 0 1 3)), h2⟩
  · exact (sh_m1_2 b o x y 0 d 0 w (by omega) (by omega) hc hbl (by decide)).mono fun e w' ⟨h1, h2⟩ => ⟨h1.trans (congrArg (fun n => Ending.returned (.int .i64 n)) (by decide : (-1 : Int) = rxB 0 2 0)), h2⟩
  · exact (sh_2_2 b o x y 0 d 1 w (by omega) (by omega) hc hbl (by decide)).mono fun e w' ⟨h1, h2⟩ => ⟨h1.trans (congrArg (fun n => Ending.returned (.int .i64 n)) (by decide : (8 : Int) = rxB 0 2 1)), h2⟩
  · exact (sh_m1_2 b o x y 0 d 2 w (by omega) (by omega) hc hbl (by decide)).mono fun e w' ⟨h1, h2⟩ => ⟨h1.trans (congrArg (fun n => Ending.returned (.int .i64 n)) (by decide : (-1 : Int) = rxB 0 2 2)), h2⟩
  · exact (sh_8_2 b o x y 0 d 3 w (by omega) (by omega) hc hbl (by decide)).mono fun e w' ⟨h1, h2⟩ => ⟨h1.trans (congrArg (fun n => Ending.returned (.int .i64 n)) (by decide : (2 : Int) = rxB 0 2 3)), h2⟩
  · exact (sh_8_3 b o x y 0 d 0 w (by omega) (by omega) hc hbl (by decide)).mono fun e w' ⟨h1, h2⟩ => ⟨h1.trans (congrArg (fun n => Ending.returned (.int .i64 n)) (by decide : (4 : Int) = rxB 0 3 0)), h2⟩
  · exact (sh_m1_3 b o x y 0 d 1 w (by omega) (by omega) hc hbl (by decide)).mono fun e w' ⟨h1, h2⟩ => ⟨h1.trans (congrArg (fun n => Ending.returned (.int .i64 n)) (by decide : (-1 : Int) = rxB 0 3 1)), h2⟩
  · exact (sh_2_3 b o x y 0 d 2 w (by omega) (by omega) hc hbl (by decide)).mono fun e w' ⟨h1, h2⟩ => ⟨h1.trans (congrArg (fun n => Ending.returned (.int .i64 n)) (by decide : (1 : Int) = rxB 0 3 2)), h2⟩
  · exact (sh_m1_3 b o x y 0 d 3 w (by omega) (by omega) hc hbl (by decide)).mono fun e w' ⟨h1, h2⟩ => ⟨h1.trans (congrArg (fun n => Ending.returned (.int .i64 n)) (by decide : (-1 : Int) = rxB 0 3 3)), h2⟩
  · exact (sh_m1_0 b o x y 1 d 0 w (by omega) (by omega) hc hbl (by decide)).mono fun e w' ⟨h1, h2⟩ => ⟨h1.trans (congrArg (fun n => Ending.returned (.int .i64 n)) (by decide : (-1 : Int) = rxB 1 0 0)), h2⟩
  · exact (sh_m1_0 b o x y 1 d 1 w (by omega) (by omega) hc hbl (by decide)).mono fun e w' ⟨h1, h2⟩ => ⟨h1.trans (congrArg (fun n => Ending.returned (.int .i64 n)) (by decide : (-1 : Int) = rxB 1 0 1)), h2⟩
  · exact (sh_8_0 b o x y 1 d 2 w (by omega) (by omega) hc hbl (by decide)).mono fun e w' ⟨h1, h2⟩ => ⟨h1.trans (congrArg (fun n => Ending.returned (.int .i64 n)) (by decide : (8 : Int) = rxB 1 0 2)), h2⟩
  · exact (sh_4_0 b o x y 1 d 3 w (by omega) (by omega) hc hbl (by decide)).mono fun e w' ⟨h1, h2⟩ => ⟨h1.trans (congrArg (fun n => Ending.returned (.int .i64 n)) (by decide : (4 : Int) = rxB 1 0 3)), h2⟩
  · exact (sh_4_1 b o x y 1 d 0 w (by omega) (by omega) hc hbl (by decide)).mono fun e w' ⟨h1, h2⟩ => ⟨h1.trans (congrArg (fun n => Ending.returned (.int .i64 n)) (by decide : (8 : Int) = rxB 1 1 0)), h2⟩
  · exact (sh_m1_1 b o x y 1 d 1 w (by omega) (by omega) hc hbl (by decide)).mono fun e w' ⟨h1, h2⟩ => ⟨h1.trans (congrArg (fun n => Ending.returned (.int .i64 n)) (by decide : (-1 : Int) = rxB 1 1 1)), h2⟩
  · exact (sh_m1_1 b o x y 1 d 2 w (by omega) (by omega) hc hbl (by decide)).mono fun e w' ⟨h1, h2⟩ => ⟨h1.trans (congrArg (fun n => Ending.returned (.int .i64 n)) (by decide : (-1 : Int) = rxB 1 1 2)), h2⟩
  · exact (sh_8_1 b o x y 1 d 3 w (by omega) (by omega) hc hbl (by decide)).mono fun e w' ⟨h1, h2⟩ => ⟨h1.trans (congrArg (fun n => Ending.returned (.int .i64 n)) (by decide : (1 : Int) = rxB 1 1 3)), h2⟩
  · exact (sh_8_2 b o x y 1 d 0 w (by omega) (by omega) hc hbl (by decide)).mono fun e w' ⟨h1, h2⟩ => ⟨h1.trans (congrArg (fun n => Ending.returned (.int .i64 n)) (by decide : (2 : Int) = rxB 1 2 0)), h2⟩
  · exact (sh_4_2 b o x y 1 d 1 w (by omega) (by omega) hc hbl (by decide)).mono fun e w' ⟨h1, h2⟩ => ⟨h1.trans (congrArg (fun n => Ending.returned (.int .i64 n)) (by decide : (1 : Int) = rxB 1 2 1)), h2⟩
  · exact (sh_m1_2 b o x y 1 d 2 w (by omega) (by omega) hc hbl (by decide)).mono fun e w' ⟨h1, h2⟩ => ⟨h1.trans (congrArg (fun n => Ending.returned (.int .i64 n)) (by decide : (-1 : Int) = rxB 1 2 2)), h2⟩
  · exact (sh_m1_2 b o x y 1 d 3 w (by omega) (by omega) hc hbl (by decide)).mono fun e w' ⟨h1, h2⟩ => ⟨h1.trans (congrArg (fun n => Ending.returned (.int .i64 n)) (by decide : (-1 : Int) = rxB 1 2 3)), h2⟩
  · exact (sh_m1_3 b o x y 1 d 0 w (by omega) (by omega) hc hbl (by decide)).mono fun e w' ⟨h1, h2⟩ => ⟨h1.trans (congrArg (fun n => Ending.returned (.int .i64 n)) (by decide : (-1 : Int) = rxB 1 3 0)), h2⟩
  · exact (sh_8_3 b o x y 1 d 1 w (by omega) (by omega) hc hbl (by decide)).mono fun e w' ⟨h1, h2⟩ => ⟨h1.trans (congrArg (fun n => Ending.returned (.int .i64 n)) (by decide : (4 : Int) = rxB 1 3 1)), h2⟩
  · exact (sh_4_3 b o x y 1 d 2 w (by omega) (by omega) hc hbl (by decide)).mono fun e w' ⟨h1, h2⟩ => ⟨h1.trans (congrArg (fun n => Ending.returned (.int .i64 n)) (by decide : (2 : Int) = rxB 1 3 2)), h2⟩
  · exact (sh_m1_3 b o x y 1 d 3 w (by omega) (by omega) hc hbl (by decide)).mono fun e w' ⟨h1, h2⟩ => ⟨h1.trans (congrArg (fun n => Ending.returned (.int .i64 n)) (by decide : (-1 : Int) = rxB 1 3 3)), h2⟩
  · exact (sh_12_0 b o x y 2 d 0 w (by omega) (by omega) hc hbl (by decide)).mono fun e w' ⟨h1, h2⟩ => ⟨h1.trans (congrArg (fun n => Ending.returned (.int .i64 n)) (by decide : (12 : Int) = rxB 2 0 0)), h2⟩
  · exact (sh_m1_0 b o x y 2 d 1 w (by omega) (by omega) hc hbl (by decide)).mono fun e w' ⟨h1, h2⟩ => ⟨h1.trans (congrArg (fun n => Ending.returned (.int .i64 n)) (by decide : (-1 : Int) = rxB 2 0 1)), h2⟩
  · exact (sh_9_0 b o x y 2 d 2 w (by omega) (by omega) hc hbl (by decide)).mono fun e w' ⟨h1, h2⟩ => ⟨h1.trans (congrArg (fun n => Ending.returned (.int .i64 n)) (by decide : (9 : Int) = rxB 2 0 2)), h2⟩
  · exact (sh_5_0 b o x y 2 d 3 w (by omega) (by omega) hc hbl (by decide)).mono fun e w' ⟨h1, h2⟩ => ⟨h1.trans (congrArg (fun n => Ending.returned (.int .i64 n)) (by decide : (5 : Int) = rxB 2 0 3)), h2⟩
  · exact (sh_5_1 b o x y 2 d 0 w (by omega) (by omega) hc hbl (by decide)).mono fun e w' ⟨h1, h2⟩ => ⟨h1.trans (congrArg (fun n => Ending.returned (.int .i64 n)) (by decide : (10 : Int) = rxB 2 1 0)), h2⟩
  · exact (sh_12_1 b o x y 2 d 1 w (by omega) (by omega) hc hbl (by decide)).mono fun e w' ⟨h1, h2⟩ => ⟨h1.trans (congrArg (fun n => Ending.returned (.int .i64 n)) (by decide : (9 : Int) = rxB 2 1 1)), h2⟩
  · exact (sh_m1_1 b o x y 2 d 2 w (by omega) (by omega) hc hbl (by decide)).mono fun e w' ⟨h1, h2⟩ => ⟨h1.trans (congrArg (fun n => Ending.returned (.int .i64 n)) (by decide : (-1 : Int) = rxB 2 1 2)), h2⟩
  · exact (sh_9_1 b o x y 2 d 3 w (by omega) (by omega) hc hbl (by decide)).mono fun e w' ⟨h1, h2⟩ => ⟨h1.trans (congrArg (fun n => Ending.returned (.int .i64 n)) (by decide : (3 : Int) = rxB 2 1 3)), h2⟩
  · exact (sh_9_2 b o x y 2 d 0 w (by omega) (by omega) hc hbl (by decide)).mono fun e w' ⟨h1, h2⟩ => ⟨h1.trans (congrArg (fun n => Ending.returned (.int .i64 n)) (by decide : (6 : Int) = rxB 2 2 0)), h2⟩
  · exact (sh_5_2 b o x y 2 d 1 w (by omega) (by omega) hc hbl (by decide)).mono fun e w' ⟨h1, h2⟩ => ⟨h1.trans (congrArg (fun n => Ending.returned (.int .i64 n)) (by decide : (5 : Int) = rxB 2 2 1)), h2⟩
  · exact (sh_12_2 b o x y 2 d 2 w (by omega) (by omega) hc hbl (by decide)).mono fun e w' ⟨h1, h2⟩ => ⟨h1.trans (congrArg (fun n => Ending.returned (.int .i64 n)) (by decide : (3 : Int) = rxB 2 2 2)), h2⟩
  · exact (sh_m1_2 b o x y 2 d 3 w (by omega) (by omega) hc hbl (by decide)).mono fun e w' ⟨h1, h2⟩ => ⟨h1.trans (congrArg (fun n => Ending.returned (.int .i64 n)) (by decide : (-1 : Int) = rxB 2 2 3)), h2⟩
  · exact (sh_m1_3 b o x y 2 d 0 w (by omega) (by omega) hc hbl (by decide)).mono fun e w' ⟨h1, h2⟩ => ⟨h1.trans (congrArg (fun n => Ending.returned (.int .i64 n)) (by decide : (-1 : Int) = rxB 2 3 0)), h2⟩
  · exact (sh_9_3 b o x y 2 d 1 w (by omega) (by omega) hc hbl (by decide)).mono fun e w' ⟨h1, h2⟩ => ⟨h1.trans (congrArg (fun n => Ending.returned (.int .i64 n)) (by decide : (12 : Int) = rxB 2 3 1)), h2⟩
  · exact (sh_5_3 b o x y 2 d 2 w (by omega) (by omega) hc hbl (by decide)).mono fun e w' ⟨h1, h2⟩ => ⟨h1.trans (congrArg (fun n => Ending.returned (.int .i64 n)) (by decide : (10 : Int) = rxB 2 3 2)), h2⟩
  · exact (sh_12_3 b o x y 2 d 3 w (by omega) (by omega) hc hbl (by decide)).mono fun e w' ⟨h1, h2⟩ => ⟨h1.trans (congrArg (fun n => Ending.returned (.int .i64 n)) (by decide : (6 : Int) = rxB 2 3 3)), h2⟩
  · exact (sh_m1_0 b o x y 3 d 0 w (by omega) (by omega) hc hbl (by decide)).mono fun e w' ⟨h1, h2⟩ => ⟨h1.trans (congrArg (fun n => Ending.returned (.int .i64 n)) (by decide : (-1 : Int) = rxB 3 0 0)), h2⟩
  · exact (sh_m1_0 b o x y 3 d 1 w (by omega) (by omega) hc hbl (by decide)).mono fun e w' ⟨h1, h2⟩ => ⟨h1.trans (congrArg (fun n => Ending.returned (.int .i64 n)) (by decide : (-1 : Int) = rxB 3 0 1)), h2⟩
  · exact (sh_m1_0 b o x y 3 d 2 w (by omega) (by omega) hc hbl (by decide)).mono fun e w' ⟨h1, h2⟩ => ⟨h1.trans (congrArg (fun n => Ending.returned (.int .i64 n)) (by decide : (-1 : Int) = rxB 3 0 2)), h2⟩
  · exact (sh_2_0 b o x y 3 d 3 w (by omega) (by omega) hc hbl (by decide)).mono fun e w' ⟨h1, h2⟩ => ⟨h1.trans (congrArg (fun n => Ending.returned (.int .i64 n)) (by decide : (2 : Int) = rxB 3 0 3)), h2⟩
  · exact (sh_2_1 b o x y 3 d 0 w (by omega) (by omega) hc hbl (by decide)).mono fun e w' ⟨h1, h2⟩ => ⟨h1.trans (congrArg (fun n => Ending.returned (.int .i64 n)) (by decide : (4 : Int) = rxB 3 1 0)), h2⟩
  · exact (sh_m1_1 b o x y 3 d 1 w (by omega) (by omega) hc hbl (by decide)).mono fun e w' ⟨h1, h2⟩ => ⟨h1.trans (congrArg (fun n => Ending.returned (.int .i64 n)) (by decide : (-1 : Int) = rxB 3 1 1)), h2⟩
  · exact (sh_m1_1 b o x y 3 d 2 w (by omega) (by omega) hc hbl (by decide)).mono fun e w' ⟨h1, h2⟩ => ⟨h1.trans (congrArg (fun n => Ending.returned (.int .i64 n)) (by decide : (-1 : Int) = rxB 3 1 2)), h2⟩
  · exact (sh_m1_1 b o x y 3 d 3 w (by omega) (by omega) hc hbl (by decide)).mono fun e w' ⟨h1, h2⟩ => ⟨h1.trans (congrArg (fun n => Ending.returned (.int .i64 n)) (by decide : (-1 : Int) = rxB 3 1 3)), h2⟩
  · exact (sh_m1_2 b o x y 3 d 0 w (by omega) (by omega) hc hbl (by decide)).mono fun e w' ⟨h1, h2⟩ => ⟨h1.trans (congrArg (fun n => Ending.returned (.int .i64 n)) (by decide : (-1 : Int) = rxB 3 2 0)), h2⟩
  · exact (sh_2_2 b o x y 3 d 1 w (by omega) (by omega) hc hbl (by decide)).mono fun e w' ⟨h1, h2⟩ => ⟨h1.trans (congrArg (fun n => Ending.returned (.int .i64 n)) (by decide : (8 : Int) = rxB 3 2 1)), h2⟩
  · exact (sh_m1_2 b o x y 3 d 2 w (by omega) (by omega) hc hbl (by decide)).mono fun e w' ⟨h1, h2⟩ => ⟨h1.trans (congrArg (fun n => Ending.returned (.int .i64 n)) (by decide : (-1 : Int) = rxB 3 2 2)), h2⟩
  · exact (sh_m1_2 b o x y 3 d 3 w (by omega) (by omega) hc hbl (by decide)).mono fun e w' ⟨h1, h2⟩ => ⟨h1.trans (congrArg (fun n => Ending.returned (.int .i64 n)) (by decide : (-1 : Int) = rxB 3 2 3)), h2⟩
  · exact (sh_m1_3 b o x y 3 d 0 w (by omega) (by omega) hc hbl (by decide)).mono fun e w' ⟨h1, h2⟩ => ⟨h1.trans (congrArg (fun n => Ending.returned (.int .i64 n)) (by decide : (-1 : Int) = rxB 3 3 0)), h2⟩
  · exact (sh_m1_3 b o x y 3 d 1 w (by omega) (by omega) hc hbl (by decide)).mono fun e w' ⟨h1, h2⟩ => ⟨h1.trans (congrArg (fun n => Ending.returned (.int .i64 n)) (by decide : (-1 : Int) = rxB 3 3 1)), h2⟩
  · exact (sh_2_3 b o x y 3 d 2 w (by omega) (by omega) hc hbl (by decide)).mono fun e w' ⟨h1, h2⟩ => ⟨h1.trans (congrArg (fun n => Ending.returned (.int .i64 n)) (by decide : (1 : Int) = rxB 3 3 2)), h2⟩
  · exact (sh_m1_3 b o x y 3 d 3 w (by omega) (by omega) hc hbl (by decide)).mono fun e w' ⟨h1, h2⟩ => ⟨h1.trans (congrArg (fun n => Ending.returned (.int .i64 n)) (by decide : (-1 : Int) = rxB 3 3 3)), h2⟩
  · exact (sh_0_0 b o x y 4 d 0 w (by omega) (by omega) hc hbl (by decide)).mono fun e w' ⟨h1, h2⟩ => ⟨h1.trans (congrArg (fun n => Ending.returned (.int .i64 n)) (by decide : (0 : Int) = rxB 4 0 0)), h2⟩
  · exact (sh_8_0 b o x y 4 d 1 w (by omega) (by omega) hc hbl (by decide)).mono fun e w' ⟨h1, h2⟩ => ⟨h1.trans (congrArg (fun n => Ending.returned (.int .i64 n)) (by decide : (8 : Int) = rxB 4 0 1)), h2⟩
  · exact (sh_0_0 b o x y 4 d 2 w (by omega) (by omega) hc hbl (by decide)).mono fun e w' ⟨h1, h2⟩ => ⟨h1.trans (congrArg (fun n => Ending.returned (.int .i64 n)) (by decide : (0 : Int) = rxB 4 0 2)), h2⟩
  · exact (sh_2_0 b o x y 4 d 3 w (by omega) (by omega) hc hbl (by decide)).mono fun e w' ⟨h1, h2⟩ => ⟨h1.trans (congrArg (fun n => Ending.returned (.int .i64 n)) (by decide : (2 : Int) = rxB 4 0 3)), h2⟩
  · exact (sh_2_1 b o x y 4 d 0 w (by omega) (by omega) hc hbl (by decide)).mono fun e w' ⟨h1, h2⟩ => ⟨h1.trans (congrArg (fun n => Ending.returned (.int .i64 n)) (by decide : (4 : Int) = rxB 4 1 0)), h2⟩
  · exact (sh_0_1 b o x y 4 d 1 w (by omega) (by omega) hc hbl (by decide)).mono fun e w' ⟨h1, h2⟩ => ⟨h1.trans (congrArg (fun n => Ending.returned (.int .i64 n)) (by decide : (0 : Int) = rxB 4 1 1)), h2⟩
  · exact (sh_8_1 b o x y 4 d 2 w (by omega) (by omega) hc hbl (by decide)).mono fun e w' ⟨h1, h2⟩ => ⟨h1.trans (congrArg (fun n => Ending.returned (.int .i64 n)) (by decide : (1 : Int) = rxB 4 1 2)), h2⟩
  · exact (sh_0_1 b o x y 4 d 3 w (by omega) (by omega) hc hbl (by decide)).mono fun e w' ⟨h1, h2⟩ => ⟨h1.trans (congrArg (fun n => Ending.returned (.int .i64 n)) (by decide : (0 : Int) = rxB 4 1 3)), h2⟩
  · exact (sh_0_2 b o x y 4 d 0 w (by omega) (by omega) hc hbl (by decide)).mono fun e w' ⟨h1, h2⟩ => ⟨h1.trans (congrArg (fun n => Ending.returned (.int .i64 n)) (by decide : (0 : Int) = rxB 4 2 0)), h2⟩
  · exact (sh_2_2 b o x y 4 d 1 w (by omega) (by omega) hc hbl (by decide)).mono fun e w' ⟨h1, h2⟩ => ⟨h1.trans (congrArg (fun n => Ending.returned (.int .i64 n)) (by decide : (8 : Int) = rxB 4 2 1)), h2⟩
  · exact (sh_0_2 b o x y 4 d 2 w (by omega) (by omega) hc hbl (by decide)).mono fun e w' ⟨h1, h2⟩ => ⟨h1.trans (congrArg (fun n => Ending.returned (.int .i64 n)) (by decide : (0 : Int) = rxB 4 2 2)), h2⟩
  · exact (sh_8_2 b o x y 4 d 3 w (by omega) (by omega) hc hbl (by decide)).mono fun e w' ⟨h1, h2⟩ => ⟨h1.trans (congrArg (fun n => Ending.returned (.int .i64 n)) (by decide : (2 : Int) = rxB 4 2 3)), h2⟩
  · exact (sh_8_3 b o x y 4 d 0 w (by omega) (by omega) hc hbl (by decide)).mono fun e w' ⟨h1, h2⟩ => ⟨h1.trans (congrArg (fun n => Ending.returned (.int .i64 n)) (by decide : (4 : Int) = rxB 4 3 0)), h2⟩
  · exact (sh_0_3 b o x y 4 d 1 w (by omega) (by omega) hc hbl (by decide)).mono fun e w' ⟨h1, h2⟩ => ⟨h1.trans (congrArg (fun n => Ending.returned (.int .i64 n)) (by decide : (0 : Int) = rxB 4 3 1)), h2⟩
  · exact (sh_2_3 b o x y 4 d 2 w (by omega) (by omega) hc hbl (by decide)).mono fun e w' ⟨h1, h2⟩ => ⟨h1.trans (congrArg (fun n => Ending.returned (.int .i64 n)) (by decide : (1 : Int) = rxB 4 3 2)), h2⟩
  · exact (sh_0_3 b o x y 4 d 3 w (by omega) (by omega) hc hbl (by decide)).mono fun e w' ⟨h1, h2⟩ => ⟨h1.trans (congrArg (fun n => Ending.returned (.int .i64 n)) (by decide : (0 : Int) = rxB 4 3 3)), h2⟩
  · exact (sh_4_0 b o x y 5 d 0 w (by omega) (by omega) hc hbl (by decide)).mono fun e w' ⟨h1, h2⟩ => ⟨h1.trans (congrArg (fun n => Ending.returned (.int .i64 n)) (by decide : (4 : Int) = rxB 5 0 0)), h2⟩
  · exact (sh_8_0 b o x y 5 d 1 w (by omega) (by omega) hc hbl (by decide)).mono fun e w' ⟨h1, h2⟩ => ⟨h1.trans (congrArg (fun n => Ending.returned (.int .i64 n)) (by decide : (8 : Int) = rxB 5 0 1)), h2⟩
  · exact (sh_1_0 b o x y 5 d 2 w (by omega) (by omega) hc hbl (by decide)).mono fun e w' ⟨h1, h2⟩ => ⟨h1.trans (congrArg (fun n => Ending.returned (.int .i64 n)) (by decide : (1 : Int) = rxB 5 0 2)), h2⟩
  · exact (sh_2_0 b o x y 5 d 3 w (by omega) (by omega) hc hbl (by decide)).mono fun e w' ⟨h1, h2⟩ => ⟨h1.trans (congrArg (fun n => Ending.returned (.int .i64 n)) (by decide : (2 : Int) = rxB 5 0 3)), h2⟩
  · exact (sh_2_1 b o x y 5 d 0 w (by omega) (by omega) hc hbl (by decide)).mono fun e w' ⟨h1, h2⟩ => ⟨h1.trans (congrArg (fun n => Ending.returned (.int .i64 n)) (by decide : (4 : Int) = rxB 5 1 0)), h2⟩
  · exact (sh_4_1 b o x y 5 d 1 w (by omega) (by omega) hc hbl (by decide)).mono fun e w' ⟨h1, h2⟩ => ⟨h1.trans (congrArg (fun n => Ending.returned (.int .i64 n)) (by decide : (8 : Int) = rxB 5 1 1)), h2⟩
  · exact (sh_8_1 b o x y 5 d 2 w (by omega) (by omega) hc hbl (by decide)).mono fun e w' ⟨h1, h2⟩ => ⟨h1.trans (congrArg (fun n => Ending.returned (.int .i64 n)) (by decide : (1 : Int) = rxB 5 1 2)), h2⟩
  · exact (sh_1_1 b o x y 5 d 3 w (by omega) (by omega) hc hbl (by decide)).mono fun e w' ⟨h1, h2⟩ => ⟨h1.trans (congrArg (fun n => Ending.returned (.int .i64 n)) (by decide : (2 : Int) = rxB 5 1 3)), h2⟩
  · exact (sh_1_2 b o x y 5 d 0 w (by omega) (by omega) hc hbl (by decide)).mono fun e w' ⟨h1, h2⟩ => ⟨h1.trans (congrArg (fun n => Ending.returned (.int .i64 n)) (by decide : (4 : Int) = rxB 5 2 0)), h2⟩
  · exact (sh_2_2 b o x y 5 d 1 w (by omega) (by omega) hc hbl (by decide)).mono fun e w' ⟨h1, h2⟩ => ⟨h1.trans (congrArg (fun n => Ending.returned (.int .i64 n)) (by decide : (8 : Int) = rxB 5 2 1)), h2⟩
  · exact (sh_4_2 b o x y 5 d 2 w (by omega) (by omega) hc hbl (by decide)).mono fun e w' ⟨h1, h2⟩ => ⟨h1.trans (congrArg (fun n => Ending.returned (.int .i64 n)) (by decide : (1 : Int) = rxB 5 2 2)), h2⟩
  · exact (sh_8_2 b o x y 5 d 3 w (by omega) (by omega) hc hbl (by decide)).mono fun e w' ⟨h1, h2⟩ => ⟨h1.trans (congrArg (fun n => Ending.returned (.int .i64 n)) (by decide : (2 : Int) = rxB 5 2 3)), h2⟩
  · exact (sh_8_3 b o x y 5 d 0 w (by omega) (by omega) hc hbl (by decide)).mono fun e w' ⟨h1, h2⟩ => ⟨h1.trans (congrArg (fun n => Ending.returned (.int .i64 n)) (by decide : (4 : Int) = rxB 5 3 0)), h2⟩
  · exact (sh_1_3 b o x y 5 d 1 w (by omega) (by omega) hc hbl (by decide)).mono fun e w' ⟨h1, h2⟩ => ⟨h1.trans (congrArg (fun n => Ending.returned (.int .i64 n)) (by decide : (8 : Int) = rxB 5 3 1)), h2⟩
  · exact (sh_2_3 b o x y 5 d 2 w (by omega) (by omega) hc hbl (by decide)).mono fun e w' ⟨h1, h2⟩ => ⟨h1.trans (congrArg (fun n => Ending.returned (.int .i64 n)) (by decide : (1 : Int) = rxB 5 3 2)), h2⟩
  · exact (sh_4_3 b o x y 5 d 3 w (by omega) (by omega) hc hbl (by decide)).mono fun e w' ⟨h1, h2⟩ => ⟨h1.trans (congrArg (fun n => Ending.returned (.int .i64 n)) (by decide : (2 : Int) = rxB 5 3 3)), h2⟩
end Go.Proofs.YtflkfkbdgekpkaaDoor
