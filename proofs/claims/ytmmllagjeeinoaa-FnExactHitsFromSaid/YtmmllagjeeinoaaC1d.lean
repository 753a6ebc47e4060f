/- Contracts of chapter 1's functions: turned pieces. -/
import Derived.Test.YtmmllagjeeinoaaC1c
namespace Go.Proofs.Ytmmllagjeeinoaa
open Go.ChangeShapes Go.WideShapes Go.ChangeAt Go.RowKit
set_option linter.unusedVariables false

def Pc.turned (p : Pc) (q : Int) : Pc := { p with turn := (p.turn + q) % 4 }
def Pc.zero : Pc := ⟨0, 0, 0, 0, 0⟩
/-- what TurnPiece answers -/
def turnPc (p : Pc) (q : Int) : Pc × Int := if p.ok = false then (Pc.zero, 1) else if q < -100 ∨ 100 < q then (Pc.zero, 2) else (p.turned q, 0)

set_option maxHeartbeats 2000000 in
theorem specTurnPiece_any (p : Pc) (q : Int) (w : World) (hp : p.in8) :
    Calls Try.prog 27 #[.agg #[.int .i8 p.x, .int .i8 p.y, .int .i8 p.kind, .int .i8 p.turn, .int .i8 p.delay], .int .i64 q] w fun e w' => e = .returned (.tuple #[.agg #[.int .i8 (turnPc p q).1.x, .int .i8 (turnPc p q).1.y, .int .i8 (turnPc p q).1.kind, .int .i8 (turnPc p q).1.turn, .int .i8 (turnPc p q).1.delay], .int .i64 (turnPc p q).2]) ∧ Below w.heap.size w w' := by
  have key : ∀ r : Bool, r = p.ok → Calls Try.prog 27 #[.agg #[.int .i8 p.x, .int .i8 p.y, .int .i8 p.kind, .int .i8 p.turn, .int .i8 p.delay], .int .i64 q] w fun e w' => e = .returned (.tuple #[.agg #[.int .i8 (turnPc p q).1.x, .int .i8 (turnPc p q).1.y, .int .i8 (turnPc p q).1.kind, .int .i8 (turnPc p q).1.turn, .int .i8 (turnPc p q).1.delay], .int .i64 (turnPc p q).2]) ∧ Below w.heap.size w w' := by
    intro r hr
    cases r with
    | false =>
      have e : turnPc p q = (Pc.zero, 1) := by unfold turnPc; rw [if_pos hr.symm]
      rw [e]
      have Hr := Lib.hid hr
      clear hr e
      go_enter Try.func27, Try.ntmps27
      go_wp2_with fail
      have pb := PcAt.box w p 38
      refine (l01Piece_any p _ _ _ hp (PcAt.below pb (w' := (w.alloc (.cells #[.int .i8 p.x, .int .i8 p.y, .int .i8 p.kind, .int .i8 p.turn, .int .i8 p.delay] 38)).alloc (.cells #[.int .i8 0, .int .i8 0, .int .i8 0, .int .i8 0, .int .i8 0] 38)) (by repeat (first | with_reducible exact Below.refl _ _ | (with_reducible refine kSet ?_ ?hB _; case hB => (simp; try omega)) | with_reducible refine kAlloc ?_ _ | with_reducible refine Below.drew ?_ | with_reducible refine kDrewN ?_ _ | with_reducible refine kTrans ?_ (by assumption))) (by simp)) false Hr.out).mono ?_
      rintro e w1 ⟨rfl, hb⟩
      obtain ⟨hc, hf⟩ := bcell hb
      go_wp2
      exact bodyPost_ret (v := .tuple #[.agg #[.int .i8 0, .int .i8 0, .int .i8 0, .int .i8 0, .int .i8 0], .int .i64 1]) (by simp [results, Try.results27, go_sem, hc]) rfl ⟨rfl, by repeat (first | with_reducible exact Below.refl _ _ | (with_reducible refine kSet ?_ ?hB _; case hB => (simp; try omega)) | with_reducible refine kAlloc ?_ _ | with_reducible refine Below.drew ?_ | with_reducible refine kDrewN ?_ _ | with_reducible refine kTrans ?_ (by assumption))⟩
    | true =>
      have h := of_decide_eq_true hr.symm
      have Hr := Lib.hid hr
      by_cases hq : q < -100 ∨ 100 < q
      · have e : turnPc p q = (Pc.zero, 2) := by unfold turnPc; rw [if_neg (by rw [← hr]; decide), if_pos hq]
        rw [e]
        clear hr e h
        go_enter Try.func27, Try.ntmps27
        go_wp2_with fail
        have pb := PcAt.box w p 38
        refine (l01Piece_any p _ _ _ hp (PcAt.below pb (w' := (w.alloc (.cells #[.int .i8 p.x, .int .i8 p.y, .int .i8 p.kind, .int .i8 p.turn, .int .i8 p.delay] 38)).alloc (.cells #[.int .i8 0, .int .i8 0, .int .i8 0, .int .i8 0, .int .i8 0] 38)) (by repeat (first | with_reducible exact Below.refl _ _ | (with_reducible refine kSet ?_ ?hB _; case hB => (simp; try omega)) | with_reducible refine kAlloc ?_ _ | with_reducible refine Below.drew ?_ | with_reducible refine kDrewN ?_ _ | with_reducible refine kTrans ?_ (by assumption))) (by simp)) true Hr.out).mono ?_
        rintro e w1 ⟨rfl, hb⟩
        obtain ⟨hc, hf⟩ := bcell hb
        go_wp2_with fail
        refine (l00In_no _ _ _ _ hq).mono ?_
        rintro e w2 ⟨rfl, rfl⟩
        go_wp2
        exact bodyPost_ret (v := .tuple #[.agg #[.int .i8 0, .int .i8 0, .int .i8 0, .int .i8 0, .int .i8 0], .int .i64 2]) (by simp [results, Try.results27, go_sem, hc]) rfl ⟨rfl, by repeat (first | with_reducible exact Below.refl _ _ | (with_reducible refine kSet ?_ ?hB _; case hB => (simp; try omega)) | with_reducible refine kAlloc ?_ _ | with_reducible refine Below.drew ?_ | with_reducible refine kDrewN ?_ _ | with_reducible refine kTrans ?_ (by assumption))⟩
      · have e : turnPc p q = (p.turned q, 0) := by unfold turnPc; rw [if_neg (by rw [← hr]; decide), if_neg hq]
        rw [e]
        clear hr e
        go_enter Try.func27, Try.ntmps27
        go_wp2_with fail
        have pb := (PcAt.box w p 38).below (w' := (w.alloc (.cells #[.int .i8 p.x, .int .i8 p.y, .int .i8 p.kind, .int .i8 p.turn, .int .i8 p.delay] 38)).alloc (.cells #[.int .i8 0, .int .i8 0, .int .i8 0, .int .i8 0, .int .i8 0] 38)) (by repeat (first | with_reducible exact Below.refl _ _ | (with_reducible refine kSet ?_ ?hB _; case hB => (simp; try omega)) | with_reducible refine kAlloc ?_ _ | with_reducible refine Below.drew ?_ | with_reducible refine kDrewN ?_ _ | with_reducible refine kTrans ?_ (by assumption))) (by simp)
        refine (l01Piece_any p _ _ _ hp pb true Hr.out).mono ?_
        rintro e w1 ⟨rfl, hb⟩
        obtain ⟨hc, hf⟩ := bcell hb
        have hz : w.heap.size < w1.heap.size := by have := hb.size; simp at this; omega
        have pc := pb.below hb (by simp; omega)
        obtain ⟨c0, c1, c2, c3, c4⟩ := pc
        go_wp2_with fail
        refine (l00In_yes _ _ _ _ (by omega) (by omega)).mono ?_
        rintro e w2 ⟨rfl, rfl⟩
        go_wp2_with fail
        refine (l01Quarters_any _ _ _ (by omega) (by omega)).mono ?_
        rintro e w2 ⟨rfl, rfl⟩
        go_wp2
        exact bodyPost_ret (v := .tuple #[.agg #[.int .i8 p.x, .int .i8 p.y, .int .i8 p.kind, .int .i8 ((p.turn + q) % 4), .int .i8 p.delay], .int .i64 0]) (by simp [results, Try.results27, go_sem, hc]) rfl ⟨rfl, by repeat (first | with_reducible exact Below.refl _ _ | (with_reducible refine kSet ?_ ?hB _; case hB => (simp; try omega)) | with_reducible refine kAlloc ?_ _ | with_reducible refine Below.drew ?_ | with_reducible refine kDrewN ?_ _ | with_reducible refine kTrans ?_ (by assumption))⟩
  exact key _ rfl
set_option maxHeartbeats 2000000 in
theorem implTurnPiece_any (p : Pc) (q : Int) (w : World) (hp : p.in8) :
    Calls Try.prog 28 #[.agg #[.int .i8 p.x, .int .i8 p.y, .int .i8 p.kind, .int .i8 p.turn, .int .i8 p.delay], .int .i64 q] w fun e w' => e = .returned (.tuple #[.agg #[.int .i8 (turnPc p q).1.x, .int .i8 (turnPc p q).1.y, .int .i8 (turnPc p q).1.kind, .int .i8 (turnPc p q).1.turn, .int .i8 (turnPc p q).1.delay], .int .i64 (turnPc p q).2]) ∧ Below w.heap.size w w' := by
  have key : ∀ r : Bool, r = p.ok → Calls Try.prog 28 #[.agg #[.int .i8 p.x, .int .i8 p.y, .int .i8 p.kind, .int .i8 p.turn, .int .i8 p.delay], .int .i64 q] w fun e w' => e = .returned (.tuple #[.agg #[.int .i8 (turnPc p q).1.x, .int .i8 (turnPc p q).1.y, .int .i8 (turnPc p q).1.kind, .int .i8 (turnPc p q).1.turn, .int .i8 (turnPc p q).1.delay], .int .i64 (turnPc p q).2]) ∧ Below w.heap.size w w' := by
    intro r hr
    cases r with
    | false =>
      have e : turnPc p q = (Pc.zero, 1) := by unfold turnPc; rw [if_pos hr.symm]
      rw [e]
      have Hr := Lib.hid hr
      clear hr e
      go_enter Try.func28, Try.ntmps28
      go_wp2_with fail
      refine (implValidPiece_any p _ hp false Hr.out).mono ?_
      rintro e w1 ⟨rfl, hb⟩
      obtain ⟨hc, hf⟩ := bcell hb
      go_wp2
      exact bodyPost_ret (v := .tuple #[.agg #[.int .i8 0, .int .i8 0, .int .i8 0, .int .i8 0, .int .i8 0], .int .i64 1]) (by simp [results, Try.results28, go_sem, hc]) rfl ⟨rfl, by repeat (first | with_reducible exact Below.refl _ _ | (with_reducible refine kSet ?_ ?hB _; case hB => (simp; try omega)) | with_reducible refine kAlloc ?_ _ | with_reducible refine Below.drew ?_ | with_reducible refine kDrewN ?_ _ | with_reducible refine kTrans ?_ (by assumption))⟩
    | true =>
      have h := of_decide_eq_true hr.symm
      have Hr := Lib.hid hr
      by_cases hq : q < -100 ∨ 100 < q
      · have e : turnPc p q = (Pc.zero, 2) := by unfold turnPc; rw [if_neg (by rw [← hr]; decide), if_pos hq]
        rw [e]
        clear hr e h
        go_enter Try.func28, Try.ntmps28
        go_wp2_with fail
        refine (implValidPiece_any p _ hp true Hr.out).mono ?_
        rintro e w1 ⟨rfl, hb⟩
        obtain ⟨hc, hf⟩ := bcell hb
        go_wp2_with fail
        refine (validQuarters_no _ _ hq).mono ?_
        rintro e w2 ⟨rfl, rfl⟩
        go_wp2
        exact bodyPost_ret (v := .tuple #[.agg #[.int .i8 0, .int .i8 0, .int .i8 0, .int .i8 0, .int .i8 0], .int .i64 2]) (by simp [results, Try.results28, go_sem, hc]) rfl ⟨rfl, by repeat (first | with_reducible exact Below.refl _ _ | (with_reducible refine kSet ?_ ?hB _; case hB => (simp; try omega)) | with_reducible refine kAlloc ?_ _ | with_reducible refine Below.drew ?_ | with_reducible refine kDrewN ?_ _ | with_reducible refine kTrans ?_ (by assumption))⟩
      · have e : turnPc p q = (p.turned q, 0) := by unfold turnPc; rw [if_neg (by rw [← hr]; decide), if_neg hq]
        rw [e]
        clear hr e
        go_enter Try.func28, Try.ntmps28
        go_wp2_with fail
        have pb := (PcAt.box w p 38).below (w' := (w.alloc (.cells #[.int .i8 p.x, .int .i8 p.y, .int .i8 p.kind, .int .i8 p.turn, .int .i8 p.delay] 38)).alloc (.cells #[.int .i8 0, .int .i8 0, .int .i8 0, .int .i8 0, .int .i8 0] 38)) (by repeat (first | with_reducible exact Below.refl _ _ | (with_reducible refine kSet ?_ ?hB _; case hB => (simp; try omega)) | with_reducible refine kAlloc ?_ _ | with_reducible refine Below.drew ?_ | with_reducible refine kDrewN ?_ _ | with_reducible refine kTrans ?_ (by assumption))) (by simp)
        refine (implValidPiece_any p _ hp true Hr.out).mono ?_
        rintro e w1 ⟨rfl, hb⟩
        obtain ⟨hc, hf⟩ := bcell hb
        have hz : w.heap.size < w1.heap.size := by have := hb.size; simp at this; omega
        have pc := pb.below hb (by simp; omega)
        obtain ⟨c0, c1, c2, c3, c4⟩ := pc
        go_wp2_with fail
        refine (validQuarters_yes _ _ (by omega) (by omega)).mono ?_
        rintro e w2 ⟨rfl, rfl⟩
        go_wp2_with fail
        refine (wrapQuarters_any _ _ (by omega)).mono ?_
        rintro e w2 ⟨rfl, rfl⟩
        go_wp2
        exact bodyPost_ret (v := .tuple #[.agg #[.int .i8 p.x, .int .i8 p.y, .int .i8 p.kind, .int .i8 ((p.turn + q) % 4), .int .i8 p.delay], .int .i64 0]) (by simp [results, Try.results28, go_sem, hc]) rfl ⟨rfl, by repeat (first | with_reducible exact Below.refl _ _ | (with_reducible refine kSet ?_ ?hB _; case hB => (simp; try omega)) | with_reducible refine kAlloc ?_ _ | with_reducible refine Below.drew ?_ | with_reducible refine kDrewN ?_ _ | with_reducible refine kTrans ?_ (by assumption))⟩
  exact key _ rfl
theorem turnPc_in8 (p : Pc) (q : Int) (hp : p.in8) : (turnPc p q).1.in8 := by
  obtain ⟨h1, h2, h3, h4, h5⟩ := hp
  unfold turnPc
  split
  · simp [Pc.in8, Pc.zero, i8]
  · split
    · simp [Pc.in8, Pc.zero, i8]
    · exact ⟨h1, h2, h3, (by show i8 ((p.turn + q) % 4); unfold i8; omega), h5⟩
end Go.Proofs.Ytmmllagjeeinoaa
