/- Contracts of chapter 1's functions on cells and pieces, second part. -/
import Derived.Test.YtjdccompjibccaaC1a
namespace Go.Proofs.Ytjdccompjibccaa
open Go.ChangeShapes Go.WideShapes Go.ChangeAt Go.RowKit
set_option linter.unusedVariables false

set_option maxHeartbeats 1000000 in
theorem toPiece_any (p : Pc) (w : World) :
    Calls Try.prog 5 #[.agg #[.int .i8 p.x, .int .i8 p.y, .int .i8 p.kind, .int .i8 p.turn, .int .i8 p.delay]] w fun e w' => e = .returned (.agg #[.int .i8 p.x, .int .i8 p.y, .int .i8 p.kind, .int .i8 p.turn, .int .i8 p.delay]) ∧ Below w.heap.size w w' := by
  obtain ⟨x, y, kind, turn, delay⟩ := p
  go_enter Try.func5, Try.ntmps5
  go_wp2_with fail
  refine (toCell_any x y _).mono ?_
  rintro e w1 ⟨rfl, hb⟩
  obtain ⟨hc, hf⟩ := bcell hb
  have hz : w.heap.size + 1 + 1 + 1 ≤ w1.heap.size := by have := hb.size; simp at this; omega
  go_wp2
  exact bodyPost_ret (v := .agg #[.int .i8 x, .int .i8 y, .int .i8 kind, .int .i8 turn, .int .i8 delay]) (by simp [results, Try.results5, go_sem, hc]) rfl ⟨rfl, by repeat (first | with_reducible exact Below.refl _ _ | (with_reducible refine kSet ?_ ?hB _; case hB => (simp; try omega)) | with_reducible refine kAlloc ?_ _ | with_reducible refine Below.drew ?_ | with_reducible refine kDrewN ?_ _ | with_reducible refine kTrans ?_ (by assumption))⟩

set_option maxHeartbeats 1000000 in
theorem holds_any (x y wide high : Int) (w : World) (hx : i8 x) (hy : i8 y) (hw : i8 wide) (hh : i8 high) (b : Bool) (hb : b = decide (0 ≤ x ∧ x < wide ∧ 0 ≤ y ∧ y < high)) :
    Calls Try.prog 15 #[.agg #[.int .i8 wide, .int .i8 high], .agg #[.int .i8 x, .int .i8 y]] w fun e w' => e = .returned (.bool b) ∧ Below w.heap.size w w' := by
  unfold i8 at hx hy hw hh
  by_cases h1 : 0 ≤ x
  · by_cases h2 : x < wide
    · by_cases h3 : 0 ≤ y
      · by_cases h4 : y < high
        · obtain rfl : b = true := by rw [hb]; simp; omega
          clear hb
          go_enter Try.func15, Try.ntmps15
          go_wp2
          go_ret
          exact ⟨rfl, by repeat (first | with_reducible exact Below.refl _ _ | (with_reducible refine kSet ?_ ?hB _; case hB => (simp; try omega)) | with_reducible refine kAlloc ?_ _ | with_reducible refine Below.drew ?_ | with_reducible refine kDrewN ?_ _ | with_reducible refine kTrans ?_ (by assumption))⟩
        · obtain rfl : b = false := by rw [hb]; simp; omega
          have h4' : decide (y < high) = false := by simp; omega
          clear hb h4
          go_enter Try.func15, Try.ntmps15
          go_wp2
          go_ret
          exact ⟨rfl, by repeat (first | with_reducible exact Below.refl _ _ | (with_reducible refine kSet ?_ ?hB _; case hB => (simp; try omega)) | with_reducible refine kAlloc ?_ _ | with_reducible refine Below.drew ?_ | with_reducible refine kDrewN ?_ _ | with_reducible refine kTrans ?_ (by assumption))⟩
      · obtain rfl : b = false := by rw [hb]; simp; omega
        have h3' : decide (0 ≤ y) = false := by simp; omega
        clear hb h3
        go_enter Try.func15, Try.ntmps15
        go_wp2
        go_ret
        exact ⟨rfl, by repeat (first | with_reducible exact Below.refl _ _ | (with_reducible refine kSet ?_ ?hB _; case hB => (simp; try omega)) | with_reducible refine kAlloc ?_ _ | with_reducible refine Below.drew ?_ | with_reducible refine kDrewN ?_ _ | with_reducible refine kTrans ?_ (by assumption))⟩
    · obtain rfl : b = false := by rw [hb]; simp; omega
      have h2' : decide (x < wide) = false := by simp; omega
      clear hb h2
      go_enter Try.func15, Try.ntmps15
      go_wp2
      go_ret
      exact ⟨rfl, by repeat (first | with_reducible exact Below.refl _ _ | (with_reducible refine kSet ?_ ?hB _; case hB => (simp; try omega)) | with_reducible refine kAlloc ?_ _ | with_reducible refine Below.drew ?_ | with_reducible refine kDrewN ?_ _ | with_reducible refine kTrans ?_ (by assumption))⟩
  · obtain rfl : b = false := by rw [hb]; simp; omega
    have h1' : decide (0 ≤ x) = false := by simp; omega
    clear hb h1
    go_enter Try.func15, Try.ntmps15
    go_wp2
    go_ret
    exact ⟨rfl, by repeat (first | with_reducible exact Below.refl _ _ | (with_reducible refine kSet ?_ ?hB _; case hB => (simp; try omega)) | with_reducible refine kAlloc ?_ _ | with_reducible refine Below.drew ?_ | with_reducible refine kDrewN ?_ _ | with_reducible refine kTrans ?_ (by assumption))⟩

theorem Pc.not_ok7 {p : Pc} (h : p.ok = false) : ¬ 0 ≤ p.kind ∨ (0 ≤ p.kind ∧ ¬ p.kind ≤ 5) ∨ (0 ≤ p.kind ∧ p.kind ≤ 5 ∧ ¬ 0 ≤ p.turn) ∨ (0 ≤ p.kind ∧ p.kind ≤ 5 ∧ 0 ≤ p.turn ∧ ¬ p.turn ≤ 3) ∨
    (0 ≤ p.kind ∧ p.kind ≤ 5 ∧ 0 ≤ p.turn ∧ p.turn ≤ 3 ∧ ¬ 1 ≤ p.delay) ∨ (0 ≤ p.kind ∧ p.kind ≤ 5 ∧ 0 ≤ p.turn ∧ p.turn ≤ 3 ∧ 1 ≤ p.delay ∧ ¬ p.delay ≤ 9) ∨
    (0 ≤ p.kind ∧ p.kind ≤ 5 ∧ 0 ≤ p.turn ∧ p.turn ≤ 3 ∧ 1 ≤ p.delay ∧ p.delay ≤ 9 ∧ ¬ (0 ≤ p.x ∧ p.x < 24 ∧ 0 ≤ p.y ∧ p.y < 24)) := by
  have := of_decide_eq_false h
  omega
set_option maxHeartbeats 4000000 in
theorem implValidPiece_any (p : Pc) (w : World) (hp : p.in8) (r : Bool) (hr : r = p.ok) :
    Calls Try.prog 10 #[.agg #[.int .i8 p.x, .int .i8 p.y, .int .i8 p.kind, .int .i8 p.turn, .int .i8 p.delay]] w fun e w' => e = .returned (.bool r) ∧ Below w.heap.size w w' := by
  obtain ⟨x, y, kind, turn, delay⟩ := p
  obtain ⟨hx, hy, hk, ht, hd⟩ := hp
  simp only at hx hy hk ht hd
  have Hx := Lib.hid hx
  have Hy := Lib.hid hy
  unfold i8 at hx hy hk ht hd
  cases r with
  | true =>
    have h := of_decide_eq_true hr.symm
    simp only at h
    obtain ⟨h1, h2, h3, h4, h5, h6, h7, h8, h9, h10⟩ := h
    clear hr
    go_enter Try.func10, Try.ntmps10
    go_wp2_with (go_at_call 15; refine (holds_any _ _ _ _ _ Hx.out Hy.out (by unfold i8; omega) (by unfold i8; omega) true (by simp; omega)).mono ?_; rintro e w' ⟨rfl, hb⟩)
    go_ret
    exact ⟨rfl, (((Below.refl _ _).alloc (Nat.le_refl _) _).alloc (by simp) _).trans (hb.mono (by simp; omega))⟩
  | false =>
    have h := Pc.not_ok7 hr.symm
    simp only at h
    clear hr
    rcases h with h1 | ⟨h1, h2⟩ | ⟨h1, h2, h3⟩ | ⟨h1, h2, h3, h4⟩ | ⟨h1, h2, h3, h4, h5⟩ | ⟨h1, h2, h3, h4, h5, h6⟩ | ⟨h1, h2, h3, h4, h5, h6, h7⟩
    · have e1 : decide (0 ≤ kind) = false := by simpa using h1
      clear h1
      go_enter Try.func10, Try.ntmps10
      go_wp2
      go_ret
      exact ⟨rfl, by repeat (first | with_reducible exact Below.refl _ _ | (with_reducible refine kSet ?_ ?hB _; case hB => (simp; try omega)) | with_reducible refine kAlloc ?_ _ | with_reducible refine Below.drew ?_ | with_reducible refine kDrewN ?_ _ | with_reducible refine kTrans ?_ (by assumption))⟩
    · have e1 : decide (kind ≤ 5) = false := by simp; omega
      clear h2
      go_enter Try.func10, Try.ntmps10
      go_wp2
      go_ret
      exact ⟨rfl, by repeat (first | with_reducible exact Below.refl _ _ | (with_reducible refine kSet ?_ ?hB _; case hB => (simp; try omega)) | with_reducible refine kAlloc ?_ _ | with_reducible refine Below.drew ?_ | with_reducible refine kDrewN ?_ _ | with_reducible refine kTrans ?_ (by assumption))⟩
    · have e1 : decide (0 ≤ turn) = false := by simp; omega
      clear h3
      go_enter Try.func10, Try.ntmps10
      go_wp2
      go_ret
      exact ⟨rfl, by repeat (first | with_reducible exact Below.refl _ _ | (with_reducible refine kSet ?_ ?hB _; case hB => (simp; try omega)) | with_reducible refine kAlloc ?_ _ | with_reducible refine Below.drew ?_ | with_reducible refine kDrewN ?_ _ | with_reducible refine kTrans ?_ (by assumption))⟩
    · have e1 : decide (turn ≤ 3) = false := by simp; omega
      clear h4
      go_enter Try.func10, Try.ntmps10
      go_wp2
      go_ret
      exact ⟨rfl, by repeat (first | with_reducible exact Below.refl _ _ | (with_reducible refine kSet ?_ ?hB _; case hB => (simp; try omega)) | with_reducible refine kAlloc ?_ _ | with_reducible refine Below.drew ?_ | with_reducible refine kDrewN ?_ _ | with_reducible refine kTrans ?_ (by assumption))⟩
    · have e1 : decide (1 ≤ delay) = false := by simp; omega
      clear h5
      go_enter Try.func10, Try.ntmps10
      go_wp2
      go_ret
      exact ⟨rfl, by repeat (first | with_reducible exact Below.refl _ _ | (with_reducible refine kSet ?_ ?hB _; case hB => (simp; try omega)) | with_reducible refine kAlloc ?_ _ | with_reducible refine Below.drew ?_ | with_reducible refine kDrewN ?_ _ | with_reducible refine kTrans ?_ (by assumption))⟩
    · have e1 : decide (delay ≤ 9) = false := by simp; omega
      clear h6
      go_enter Try.func10, Try.ntmps10
      go_wp2
      go_ret
      exact ⟨rfl, by repeat (first | with_reducible exact Below.refl _ _ | (with_reducible refine kSet ?_ ?hB _; case hB => (simp; try omega)) | with_reducible refine kAlloc ?_ _ | with_reducible refine Below.drew ?_ | with_reducible refine kDrewN ?_ _ | with_reducible refine kTrans ?_ (by assumption))⟩
    · have H := Lib.hid h7
      clear h7
      go_enter Try.func10, Try.ntmps10
      go_wp2_with (go_at_call 15; refine (holds_any _ _ _ _ _ Hx.out Hy.out (by unfold i8; omega) (by unfold i8; omega) false (by have := H.out; simp; omega)).mono ?_; rintro e w' ⟨rfl, hb⟩)
      go_ret
      exact ⟨rfl, (((Below.refl _ _).alloc (Nat.le_refl _) _).alloc (by simp) _).trans (hb.mono (by simp; omega))⟩
end Go.Proofs.Ytjdccompjibccaa
