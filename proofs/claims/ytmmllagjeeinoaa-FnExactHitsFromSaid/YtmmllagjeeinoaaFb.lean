/- What HitsFrom answers. -/
import Derived.Test.YtmmllagjeeinoaaFa
namespace Go.Proofs.Ytmmllagjeeinoaa
open Go.ChangeShapes Go.WideShapes Go.ChangeAt Go.RowKit
set_option linter.unusedVariables false

theorem field1_any (a b c d e : Value) (w : World) : (Instr.field 67 (.agg #[a, b, c, d, e]) 1).run Try.prog w = .ok (.agg #[b, c, d, e]) w := by kernel_rfl
set_option maxHeartbeats 2000000 in
theorem implHits_any (p : Pc) (s : Int) (w : World) (hp : p.in8) :
    Calls Try.prog 25 #[.agg #[.int .i8 p.x, .int .i8 p.y, .int .i8 p.kind, .int .i8 p.turn, .int .i8 p.delay], .int .i64 s] w fun e w' => e = .returned (.tuple #[.agg #[.bool (hitA p s 0), .bool (hitA p s 1), .bool (hitA p s 2), .bool (hitA p s 3)], .int .i64 (askC p s)]) ∧ Below w.heap.size w w' := by
  have pb := PcAt.box w p 38
  rcases askC_cases p s with ⟨hc, hk, ht, hs, ho, hq⟩ | ⟨hc, ho⟩ | ⟨hc, ho, hq⟩
  · have e1 : ∀ j, hitA p s j = rxH p.kind p.turn s j := by intro j; unfold hitA; rw [hc]; simp
    rw [e1, e1, e1, e1, hc]
    have Ho := Lib.hid ho
    have Hq := Lib.hid hq
    clear e1 hc ho hq
    have pb2 := pb.below (w' := (w.alloc (.cells #[.int .i8 p.x, .int .i8 p.y, .int .i8 p.kind, .int .i8 p.turn, .int .i8 p.delay] 38)).alloc (.cells #[.bool false, .bool false, .bool false, .bool false] 44)) (by repeat (first | with_reducible exact Below.refl _ _ | (with_reducible refine kSet ?_ ?hB _; case hB => (simp; try omega)) | with_reducible refine kAlloc ?_ _ | with_reducible refine Below.drew ?_ | with_reducible refine kDrewN ?_ _ | with_reducible refine kTrans ?_ (by assumption))) (by simp)
    go_enter Try.func25, Try.ntmps25
    go_wp2_with fail
    refine (implValidPiece_any p _ hp _ Ho.out).mono ?_
    rintro e w1 ⟨rfl, hb⟩
    have hz : w.heap.size + 1 < w1.heap.size := by have := hb.size; simp at this; omega
    obtain ⟨c0, c1, c2, c3, c4⟩ := pb2.below hb (by simp; omega)
    obtain ⟨hcc, hff⟩ := bcell hb
    have k0 : w1.cell? ⟨w.heap.size + 1, 0, none⟩ = some (.bool false) := by rw [hcc _ _ (by simp)]; simp
    have k1 : w1.cell? ⟨w.heap.size + 1, 1, none⟩ = some (.bool false) := by rw [hcc _ _ (by simp)]; simp
    have k2 : w1.cell? ⟨w.heap.size + 1, 2, none⟩ = some (.bool false) := by rw [hcc _ _ (by simp)]; simp
    have k3 : w1.cell? ⟨w.heap.size + 1, 3, none⟩ = some (.bool false) := by rw [hcc _ _ (by simp)]; simp
    have f0 : ∀ j, w1.frozen? ⟨w.heap.size + 1, j, none⟩ = false := by intro j; rw [hff _ _ (by simp)]; simp
    go_wp2_with fail
    refine (isSide_any _ _ _ Hq.out).mono ?_
    rintro e w2 ⟨rfl, rfl⟩
    go_wp2_with fail
    refine (reactionOf_any p _ _ hk ht hs).mono ?_
    rintro e w2 ⟨rfl, hb2⟩
    have q0 := (hb2.cell (p := ⟨w.heap.size + 1, 0, none⟩) hz).trans k0
    have q1 := (hb2.cell (p := ⟨w.heap.size + 1, 1, none⟩) hz).trans k1
    have q2 := (hb2.cell (p := ⟨w.heap.size + 1, 2, none⟩) hz).trans k2
    have q3 := (hb2.cell (p := ⟨w.heap.size + 1, 3, none⟩) hz).trans k3
    have g0 : ∀ j, w2.frozen? ⟨w.heap.size + 1, j, none⟩ = false := fun j => (hb2.frozen (p := ⟨w.heap.size + 1, j, none⟩) hz).trans (f0 j)
    have fa := field1_any
    clear hcc hff k0 k1 k2 k3 f0
    go_wp2
    exact bodyPost_ret (v := .tuple #[.agg #[.bool (rxH p.kind p.turn s 0), .bool (rxH p.kind p.turn s 1), .bool (rxH p.kind p.turn s 2), .bool (rxH p.kind p.turn s 3)], .int .i64 0]) (by simp [results, Try.results25, go_sem, q0, q1, q2, q3]) rfl ⟨rfl, by repeat (first | with_reducible exact Below.refl _ _ | (with_reducible refine kSet ?_ ?hB _; case hB => (simp; try omega)) | with_reducible refine kAlloc ?_ _ | with_reducible refine Below.drew ?_ | with_reducible refine kDrewN ?_ _ | with_reducible refine kTrans ?_ (by assumption))⟩
  · have e1 : ∀ j, hitA p s j = false := by intro j; unfold hitA; rw [hc]; simp
    rw [e1, e1, e1, e1, hc]
    have Ho := Lib.hid ho
    clear e1 hc ho
    go_enter Try.func25, Try.ntmps25
    go_wp2_with fail
    refine (implValidPiece_any p _ hp _ Ho.out).mono ?_
    rintro e w1 ⟨rfl, hb⟩
    obtain ⟨hcc, hff⟩ := bcell hb
    go_wp2
    exact bodyPost_ret (v := .tuple #[.agg #[.bool false, .bool false, .bool false, .bool false], .int .i64 1]) (by simp [results, Try.results25, go_sem, hcc]) rfl ⟨rfl, by repeat (first | with_reducible exact Below.refl _ _ | (with_reducible refine kSet ?_ ?hB _; case hB => (simp; try omega)) | with_reducible refine kAlloc ?_ _ | with_reducible refine Below.drew ?_ | with_reducible refine kDrewN ?_ _ | with_reducible refine kTrans ?_ (by assumption))⟩
  · have e1 : ∀ j, hitA p s j = false := by intro j; unfold hitA; rw [hc]; simp
    rw [e1, e1, e1, e1, hc]
    have Ho := Lib.hid ho
    have Hq := Lib.hid hq
    clear e1 hc ho hq
    go_enter Try.func25, Try.ntmps25
    go_wp2_with fail
    refine (implValidPiece_any p _ hp _ Ho.out).mono ?_
    rintro e w1 ⟨rfl, hb⟩
    obtain ⟨hcc, hff⟩ := bcell hb
    go_wp2_with fail
    refine (isSide_any _ _ _ Hq.out).mono ?_
    rintro e w2 ⟨rfl, rfl⟩
    go_wp2
    exact bodyPost_ret (v := .tuple #[.agg #[.bool false, .bool false, .bool false, .bool false], .int .i64 2]) (by simp [results, Try.results25, go_sem, hcc]) rfl ⟨rfl, by repeat (first | with_reducible exact Below.refl _ _ | (with_reducible refine kSet ?_ ?hB _; case hB => (simp; try omega)) | with_reducible refine kAlloc ?_ _ | with_reducible refine Below.drew ?_ | with_reducible refine kDrewN ?_ _ | with_reducible refine kTrans ?_ (by assumption))⟩
end Go.Proofs.Ytmmllagjeeinoaa
