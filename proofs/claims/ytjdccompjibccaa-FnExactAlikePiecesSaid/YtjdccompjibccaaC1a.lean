/- Contracts of chapter 1's functions on cells and pieces: what each one returns. -/
import Derived.Test.YtjdccompjibccaaBase
import Derived.Outline
import Derived.Deep.QuietTactic
import Derived.BigQuiet
namespace Go.Proofs.Ytjdccompjibccaa
open Go.ChangeShapes Go.WideShapes Go.ChangeAt Go.RowKit
set_option linter.unusedVariables false

def Pc.ok (p : Pc) : Bool := decide (0 ≤ p.kind ∧ p.kind ≤ 5 ∧ 0 ≤ p.turn ∧ p.turn ≤ 3 ∧ 1 ≤ p.delay ∧ p.delay ≤ 9 ∧ 0 ≤ p.x ∧ p.x ≤ 23 ∧ 0 ≤ p.y ∧ p.y ≤ 23)

set_option maxHeartbeats 1000000 in
theorem toCell_any (x y : Int) (w : World) :
    Calls Try.prog 9 #[.agg #[.int .i8 x, .int .i8 y]] w fun e w' => e = .returned (.agg #[.int .i8 x, .int .i8 y]) ∧ Below w.heap.size w w' := by
  go_enter Try.func9, Try.ntmps9
  go_wp2
  refine wp_loop_rounds 3 ?_
  rw [rounds_succ]
  go_wp2
  rw [rounds_succ]
  go_wp2
  rw [rounds_succ]
  go_wp2
  exact bodyPost_ret (v := .agg #[.int .i8 x, .int .i8 y]) (by simp [results, Try.results9, go_sem]) rfl ⟨rfl, by repeat (first | exact Below.refl _ _ | (refine Below.setCell ?_ (by simp; try omega) _) | (refine Below.alloc ?_ (by simp; try omega) _) | refine Below.drew ?_)⟩

set_option maxHeartbeats 1000000 in
theorem l01In_any (x y wide high : Int) (w : World) (hx : i8 x) (hy : i8 y) (hw : -1000 ≤ wide ∧ wide ≤ 1000) (hh : -1000 ≤ high ∧ high ≤ 1000) (b : Bool) (hb : b = decide (0 ≤ x ∧ x ≤ wide - 1 ∧ 0 ≤ y ∧ y ≤ high - 1)) :
    Calls Try.prog 13 #[.agg #[.int .i8 x, .int .i8 y], .int .i64 wide, .int .i64 high] w fun e w' => e = .returned (.bool b) ∧ Below w.heap.size w w' := by
  unfold i8 at hx hy
  by_cases h1 : 0 ≤ x ∧ x ≤ wide - 1
  · by_cases h2 : 0 ≤ y ∧ y ≤ high - 1
    · obtain rfl : b = true := by rw [hb]; simp; omega
      clear hb
      go_enter Try.func13, Try.ntmps13
      go_wp2_with (refine (l00In_yes _ _ _ _ (by omega) (by omega)).mono ?_; rintro e w' ⟨rfl, rfl⟩)
      go_ret
      exact ⟨rfl, (Below.refl _ _).alloc (Nat.le_refl _) _⟩
    · obtain rfl : b = false := by rw [hb]; simp; omega
      clear hb
      have h2' : y < 0 ∨ high - 1 < y := by omega
      clear h2
      go_enter Try.func13, Try.ntmps13
      go_wp2_with (first | (refine (l00In_yes _ _ _ _ ?_ ?_).mono ?_; (· omega); (· omega); rintro e w' ⟨rfl, rfl⟩) | (refine (l00In_no _ _ _ _ (by omega)).mono ?_; rintro e w' ⟨rfl, rfl⟩))
      go_ret
      exact ⟨rfl, (Below.refl _ _).alloc (Nat.le_refl _) _⟩
  · obtain rfl : b = false := by rw [hb]; simp; omega
    clear hb
    have h1' : x < 0 ∨ wide - 1 < x := by omega
    clear h1
    go_enter Try.func13, Try.ntmps13
    go_wp2_with (refine (l00In_no _ _ _ _ (by omega)).mono ?_; rintro e w' ⟨rfl, rfl⟩)
    go_ret
    exact ⟨rfl, (Below.refl _ _).alloc (Nat.le_refl _) _⟩

/-- the cells at 'a' are those of the piece -/
def PcAt (w : World) (b o : Nat) (p : Pc) : Prop :=
  w.cell? ⟨b, o, none⟩ = some (.int .i8 p.x) ∧ w.cell? ⟨b, o + 1, none⟩ = some (.int .i8 p.y) ∧ w.cell? ⟨b, o + 2, none⟩ = some (.int .i8 p.kind) ∧ w.cell? ⟨b, o + 3, none⟩ = some (.int .i8 p.turn) ∧ w.cell? ⟨b, o + 4, none⟩ = some (.int .i8 p.delay)

theorem PcAt.box (w : World) (p : Pc) (t : TypeId) : PcAt (w.alloc (.cells #[.int .i8 p.x, .int .i8 p.y, .int .i8 p.kind, .int .i8 p.turn, .int .i8 p.delay] t)) w.heap.size 0 p := by
  refine ⟨?_, ?_, ?_, ?_, ?_⟩ <;> simp
theorem PcAt.below {W w' : World} {b o : Nat} {p : Pc} (h : PcAt W b o p) (hb : Below W.heap.size W w') (hl : b < W.heap.size) : PcAt w' b o p := by
  obtain ⟨h0, h1, h2, h3, h4⟩ := h
  exact ⟨(hb.cell (p := ⟨b, _, none⟩) hl).trans h0, (hb.cell (p := ⟨b, _, none⟩) hl).trans h1, (hb.cell (p := ⟨b, _, none⟩) hl).trans h2, (hb.cell (p := ⟨b, _, none⟩) hl).trans h3, (hb.cell (p := ⟨b, _, none⟩) hl).trans h4⟩

theorem Pc.not_ok {p : Pc} (h : p.ok = false) : (p.kind < 0 ∨ 5 < p.kind) ∨ ((0 ≤ p.kind ∧ p.kind ≤ 5) ∧ (p.turn < 0 ∨ 3 < p.turn)) ∨ ((0 ≤ p.kind ∧ p.kind ≤ 5) ∧ (0 ≤ p.turn ∧ p.turn ≤ 3) ∧ (p.delay < 1 ∨ 9 < p.delay)) ∨
    ((0 ≤ p.kind ∧ p.kind ≤ 5) ∧ (0 ≤ p.turn ∧ p.turn ≤ 3) ∧ (1 ≤ p.delay ∧ p.delay ≤ 9) ∧ ¬ (0 ≤ p.x ∧ p.x ≤ 24 - 1 ∧ 0 ≤ p.y ∧ p.y ≤ 24 - 1)) := by
  have := of_decide_eq_false h
  omega

set_option maxHeartbeats 2000000 in
theorem l01Piece_any (p : Pc) (b o : Nat) (w : World) (hp : p.in8) (hc : PcAt w b o p) (r : Bool) (hr : r = p.ok) :
    Calls Try.prog 7 #[.pointer (some ⟨b, o, none⟩)] w fun e w' => e = .returned (.bool r) ∧ Below w.heap.size w w' := by
  obtain ⟨x, y, kind, turn, delay⟩ := p
  obtain ⟨c0, c1, c2, c3, c4⟩ := hc
  obtain ⟨hx, hy, hk, ht, hd⟩ := hp
  simp only at c0 c1 c2 c3 c4 hx hy hk ht hd
  have Hx := Lib.hid hx
  have Hy := Lib.hid hy
  unfold i8 at hx hy hk ht hd
  cases r with
  | true =>
    have h := of_decide_eq_true hr.symm
    simp only at h
    obtain ⟨h1, h2, h3, h4, h5, h6, h7, h8, h9, h10⟩ := h
    clear hr
    go_enter Try.func7, Try.ntmps7
    go_wp2_with (first
      | (refine (l00In_yes _ _ _ _ (by omega) (by omega)).mono ?_; rintro e w' ⟨rfl, rfl⟩)
      | (go_at_call 13; refine (l01In_any _ _ _ _ _ Hx.out Hy.out (by omega) (by omega) true (by simp; omega)).mono ?_; rintro e w' ⟨rfl, hb⟩))
    go_ret
    exact ⟨rfl, hb⟩
  | false =>
    have h := Pc.not_ok hr.symm
    simp only at h
    clear hr
    rcases h with h1 | ⟨h1, h2⟩ | ⟨h1, h2, h3⟩ | ⟨h1, h2, h3, h4⟩
    · go_enter Try.func7, Try.ntmps7
      go_wp2_with (refine (l00In_no _ _ _ _ (by omega)).mono ?_; rintro e w' ⟨rfl, rfl⟩)
      go_ret
      exact ⟨rfl, Below.refl _ _⟩
    · go_enter Try.func7, Try.ntmps7
      go_wp2_with (first
        | (refine (l00In_yes _ _ _ _ ?_ ?_).mono ?_; (· omega); (· omega); rintro e w' ⟨rfl, rfl⟩)
        | (refine (l00In_no _ _ _ _ (by omega)).mono ?_; rintro e w' ⟨rfl, rfl⟩))
      go_ret
      exact ⟨rfl, Below.refl _ _⟩
    · go_enter Try.func7, Try.ntmps7
      go_wp2_with (first
        | (refine (l00In_yes _ _ _ _ ?_ ?_).mono ?_; (· omega); (· omega); rintro e w' ⟨rfl, rfl⟩)
        | (refine (l00In_no _ _ _ _ (by omega)).mono ?_; rintro e w' ⟨rfl, rfl⟩))
      go_ret
      exact ⟨rfl, Below.refl _ _⟩
    · have H := Lib.hid h4
      clear h4
      go_enter Try.func7, Try.ntmps7
      go_wp2_with (first
        | (refine (l00In_yes _ _ _ _ (by omega) (by omega)).mono ?_; rintro e w' ⟨rfl, rfl⟩)
        | (go_at_call 13; refine (l01In_any _ _ _ _ _ Hx.out Hy.out (by omega) (by omega) false (by have := H.out; simp; omega)).mono ?_; rintro e w' ⟨rfl, hb⟩))
      go_ret
      exact ⟨rfl, hb⟩

end Go.Proofs.Ytjdccompjibccaa
