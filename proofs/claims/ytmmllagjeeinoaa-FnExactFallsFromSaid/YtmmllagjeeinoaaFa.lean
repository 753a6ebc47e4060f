/- What FallsFrom and HitsFrom answer. -/
import Derived.Test.YtmmllagjeeinoaaRe
namespace Go.Proofs.Ytmmllagjeeinoaa
open Go.ChangeShapes Go.WideShapes Go.ChangeAt Go.RowKit
set_option linter.unusedVariables false

def sideB (s : Int) : Bool := decide (0 ≤ s ∧ s ≤ 3)
/-- the code of a piece and a side -/
def askC (p : Pc) (s : Int) : Int := if p.ok = false then 1 else if sideB s = false then 2 else 0

set_option maxHeartbeats 1000000 in
theorem l01Asked_any (p : Pc) (b o : Nat) (s : Int) (w : World) (hp : p.in8) (hc : PcAt w b o p) (c : Int) (hcd : c = askC p s) :
    Calls Try.prog 41 #[.pointer (some ⟨b, o, none⟩), .int .i64 s] w fun r w' => r = .returned (.int .i64 c) ∧ Below w.heap.size w w' := by
  have key : ∀ r q : Bool, r = p.ok → q = sideB s → Calls Try.prog 41 #[.pointer (some ⟨b, o, none⟩), .int .i64 s] w fun r w' => r = .returned (.int .i64 c) ∧ Below w.heap.size w w' := by
    intro r q hr hq
    have Hr := Lib.hid hr
    have Hq := Lib.hid hq
    have Hc := Lib.hid hc
    cases r with
    | false =>
      obtain rfl : c = 1 := by rw [hcd]; unfold askC; rw [if_pos hr.symm]
      clear hcd hr hq hc
      go_enter Try.func41, Try.ntmps41
      go_wp2_with fail
      refine (l01Piece_any p b o _ hp Hc.out false Hr.out).mono ?_
      rintro e w1 ⟨rfl, hb⟩
      go_wp2
      go_ret
      exact ⟨rfl, hb⟩
    | true =>
      cases q with
      | false =>
        obtain rfl : c = 2 := by rw [hcd]; unfold askC; rw [if_neg (by rw [← hr]; decide), if_pos hq.symm]
        clear hcd hr hq hc
        go_enter Try.func41, Try.ntmps41
        go_wp2_with fail
        refine (l01Piece_any p b o _ hp Hc.out true Hr.out).mono ?_
        rintro e w1 ⟨rfl, hb⟩
        go_wp2_with fail
        refine (l01Side_any s _ false Hq.out).mono ?_
        rintro e w2 ⟨rfl, rfl⟩
        go_wp2
        go_ret
        exact ⟨rfl, hb⟩
      | true =>
        obtain rfl : c = 0 := by rw [hcd]; unfold askC; rw [if_neg (by rw [← hr]; decide), if_neg (by rw [← hq]; decide)]
        clear hcd hr hq hc
        go_enter Try.func41, Try.ntmps41
        go_wp2_with fail
        refine (l01Piece_any p b o _ hp Hc.out true Hr.out).mono ?_
        rintro e w1 ⟨rfl, hb⟩
        go_wp2_with fail
        refine (l01Side_any s _ true Hq.out).mono ?_
        rintro e w2 ⟨rfl, rfl⟩
        go_wp2
        go_ret
        exact ⟨rfl, hb⟩
  exact key _ _ rfl rfl

theorem askC_cases (p : Pc) (s : Int) : (askC p s = 0 ∧ (0 ≤ p.kind ∧ p.kind ≤ 5) ∧ (0 ≤ p.turn ∧ p.turn ≤ 3) ∧ (0 ≤ s ∧ s ≤ 3) ∧ true = p.ok ∧ true = sideB s) ∨ (askC p s = 1 ∧ false = p.ok) ∨ (askC p s = 2 ∧ true = p.ok ∧ false = sideB s) := by
  unfold askC
  cases h : p.ok with
  | false => exact .inr (.inl ⟨by simp, rfl⟩)
  | true =>
    cases h2 : sideB s with
    | false => exact .inr (.inr ⟨by simp, rfl, rfl⟩)
    | true =>
      have a := of_decide_eq_true h
      have b := of_decide_eq_true h2
      exact .inl ⟨by simp, by omega, by omega, by omega, rfl, rfl⟩

def fallA (p : Pc) (s : Int) : Bool := decide (askC p s = 0) && rxF p.kind p.turn s
def hitA (p : Pc) (s j : Int) : Bool := decide (askC p s = 0) && rxH p.kind p.turn s j

theorem rxB_neg (k t s : Int) : decide (0 ≤ rxB k t s) = rxF k t s := by
  unfold rxB bitI
  cases rxF k t s <;> simp
  split <;> split <;> split <;> split <;> omega

set_option maxHeartbeats 2000000 in
theorem specFalls_any (p : Pc) (s : Int) (w : World) (hp : p.in8) :
    Calls Try.prog 22 #[.agg #[.int .i8 p.x, .int .i8 p.y, .int .i8 p.kind, .int .i8 p.turn, .int .i8 p.delay], .int .i64 s] w fun e w' => e = .returned (.tuple #[.bool (fallA p s), .int .i64 (askC p s)]) ∧ Below w.heap.size w w' := by
  have pb := PcAt.box w p 38
  rcases askC_cases p s with ⟨hc, hk, ht, hs, -, -⟩ | ⟨hc, -⟩ | ⟨hc, -, -⟩
  · have e1 : fallA p s = rxF p.kind p.turn s := by unfold fallA; rw [hc]; simp
    rw [e1, hc]
    have Hc := Lib.hid hc
    have hng := rxB_neg p.kind p.turn s
    have Hn := Lib.hid hng
    clear e1 hc hng
    go_enter Try.func22, Try.ntmps22
    go_wp2_with fail
    refine (l01Asked_any p _ _ _ _ hp pb 0 Hc.out.symm).mono ?_
    rintro e w1 ⟨rfl, hb⟩
    have pc := pb.below hb (by simp)
    have hl : w.heap.size < w1.heap.size := by have := hb.size; simp at this; omega
    go_wp2_with fail
    refine (l01Hits_any p _ _ _ _ hk ht hs pc hl).mono ?_
    rintro e w2 ⟨rfl, hb2⟩
    generalize hg : rxB p.kind p.turn s = z at *
    have Hz := Lib.hid hg
    clear hg
    go_wp2
    exact bodyPost_ret (v := .tuple #[.bool (decide (0 ≤ z)), .int .i64 0]) (by simp [results, Try.results22, go_sem]) rfl ⟨by rw [Hn.out], by repeat (first | with_reducible exact Below.refl _ _ | (with_reducible refine kSet ?_ ?hB _; case hB => (simp; try omega)) | with_reducible refine kAlloc ?_ _ | with_reducible refine Below.drew ?_ | with_reducible refine kDrewN ?_ _ | with_reducible refine kTrans ?_ (by assumption))⟩
  all_goals
    have e1 : fallA p s = false := by unfold fallA; rw [hc]; simp
    rw [e1, hc]
    have Hc := Lib.hid hc
    clear e1 hc
    go_enter Try.func22, Try.ntmps22
    go_wp2_with fail
    refine (l01Asked_any p _ _ _ _ hp pb _ Hc.out.symm).mono ?_
    rintro e w1 ⟨rfl, hb⟩
    go_wp2
    go_ret2
    exact ⟨rfl, by repeat (first | with_reducible exact Below.refl _ _ | (with_reducible refine kSet ?_ ?hB _; case hB => (simp; try omega)) | with_reducible refine kAlloc ?_ _ | with_reducible refine Below.drew ?_ | with_reducible refine kDrewN ?_ _ | with_reducible refine kTrans ?_ (by assumption))⟩

theorem field0_any (a b c d e : Value) (w : World) : (Instr.field 67 (.agg #[a, b, c, d, e]) 0).run Try.prog w = .ok a w := by kernel_rfl
set_option maxHeartbeats 2000000 in
theorem implFalls_any (p : Pc) (s : Int) (w : World) (hp : p.in8) :
    Calls Try.prog 23 #[.agg #[.int .i8 p.x, .int .i8 p.y, .int .i8 p.kind, .int .i8 p.turn, .int .i8 p.delay], .int .i64 s] w fun e w' => e = .returned (.tuple #[.bool (fallA p s), .int .i64 (askC p s)]) ∧ Below w.heap.size w w' := by
  have pb := PcAt.box w p 38
  rcases askC_cases p s with ⟨hc, hk, ht, hs, ho, hq⟩ | ⟨hc, ho⟩ | ⟨hc, ho, hq⟩
  · have e1 : fallA p s = rxF p.kind p.turn s := by unfold fallA; rw [hc]; simp
    rw [e1, hc]
    have Ho := Lib.hid ho
    have Hq := Lib.hid hq
    clear e1 hc ho hq
    go_enter Try.func23, Try.ntmps23
    go_wp2_with fail
    refine (implValidPiece_any p _ hp _ Ho.out).mono ?_
    rintro e w1 ⟨rfl, hb⟩
    obtain ⟨c0, c1, c2, c3, c4⟩ := pb.below hb (by simp)
    go_wp2_with fail
    refine (isSide_any _ _ _ Hq.out).mono ?_
    rintro e w2 ⟨rfl, rfl⟩
    go_wp2_with fail
    refine (reactionOf_any p _ _ hk ht hs).mono ?_
    rintro e w2 ⟨rfl, hb2⟩
    have fa := field0_any
    go_wp2
    go_ret2
    exact ⟨rfl, by repeat (first | with_reducible exact Below.refl _ _ | (with_reducible refine kSet ?_ ?hB _; case hB => (simp; try omega)) | with_reducible refine kAlloc ?_ _ | with_reducible refine Below.drew ?_ | with_reducible refine kDrewN ?_ _ | with_reducible refine kTrans ?_ (by assumption))⟩
  · have e1 : fallA p s = false := by unfold fallA; rw [hc]; simp
    rw [e1, hc]
    have Ho := Lib.hid ho
    clear e1 hc ho
    go_enter Try.func23, Try.ntmps23
    go_wp2_with fail
    refine (implValidPiece_any p _ hp _ Ho.out).mono ?_
    rintro e w1 ⟨rfl, hb⟩
    go_wp2
    go_ret2
    exact ⟨rfl, by repeat (first | with_reducible exact Below.refl _ _ | (with_reducible refine kSet ?_ ?hB _; case hB => (simp; try omega)) | with_reducible refine kAlloc ?_ _ | with_reducible refine Below.drew ?_ | with_reducible refine kDrewN ?_ _ | with_reducible refine kTrans ?_ (by assumption))⟩
  · have e1 : fallA p s = false := by unfold fallA; rw [hc]; simp
    rw [e1, hc]
    have Ho := Lib.hid ho
    have Hq := Lib.hid hq
    clear e1 hc ho hq
    go_enter Try.func23, Try.ntmps23
    go_wp2_with fail
    refine (implValidPiece_any p _ hp _ Ho.out).mono ?_
    rintro e w1 ⟨rfl, hb⟩
    go_wp2_with fail
    refine (isSide_any _ _ _ Hq.out).mono ?_
    rintro e w2 ⟨rfl, rfl⟩
    go_wp2
    go_ret2
    exact ⟨rfl, by repeat (first | with_reducible exact Below.refl _ _ | (with_reducible refine kSet ?_ ?hB _; case hB => (simp; try omega)) | with_reducible refine kAlloc ?_ _ | with_reducible refine Below.drew ?_ | with_reducible refine kDrewN ?_ _ | with_reducible refine kTrans ?_ (by assumption))⟩
end Go.Proofs.Ytmmllagjeeinoaa
