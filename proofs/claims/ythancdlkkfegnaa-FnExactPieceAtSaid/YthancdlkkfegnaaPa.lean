/- PieceAt: the program and the model. -/
import Derived.Test.YthancdlkkfegnaaVb
namespace Go.Proofs.Ythancdlkkfegnaa
open Go.ChangeShapes Go.WideShapes Go.ChangeAt Go.RowKit
set_option linter.unusedVariables false

/-- the answer and the code -/
def pieceAtM (R : Bool) (f : Int) : Int × Int := if R then (if f < 0 then (0, 6) else (f, 0)) else (0, 1)

set_option maxHeartbeats 1000000 in
theorem specPieceAt_any (b o n cap : Nat) (wd hi x y : Int) (l : List Pc) (w : World) (hn : l.length = n) (hp : PcsAt w b o l) (hb : b < w.heap.size) (hc : n ≤ cap) (h8 : All8 l) (hw8 : i8 wd) (hh8 : i8 hi) (hmax : n ≤ 1048576) (R : Bool) (hR : R = boardOk wd hi l)
    (f : Int) (hf : findFrom x y l 0 = f) (A C : Int) (hA : pieceAtM R f = (A, C)) :
    Calls Try.prog 24 #[.agg #[.int .i8 wd, .int .i8 hi, .slice (some ⟨b, o, none⟩) n cap], .agg #[.int .i8 x, .int .i8 y]] w fun e w' => e = .returned (.tuple #[.int .i64 A, .int .i64 C]) ∧ Below w.heap.size w w' := by
  have hx : ∀ w2, Below w.heap.size w w2 → BdAt w2 w.heap.size 0 wd hi (.slice (some ⟨b, o, none⟩) n cap) → Calls Try.prog 66 #[.pointer (some ⟨w.heap.size, 0, none⟩)] w2 fun e w' => e = .returned (.bool R) ∧ Below w2.heap.size w2 w' :=
    fun w2 h2 hbd => l01Ok_any w.heap.size 0 b o n cap wd hi l _ hn hbd (hp.below h2 hb) (Nat.lt_of_lt_of_le hb h2.size) hc h8 hw8 hh8 hmax R hR
  have hy : ∀ w2, Below w.heap.size w w2 → BdAt w2 w.heap.size 0 wd hi (.slice (some ⟨b, o, none⟩) n cap) → Calls Try.prog 72 #[.pointer (some ⟨w.heap.size, 0, none⟩), .agg #[.int .i8 x, .int .i8 y]] w2 fun e w' => e = .returned (.int .i64 f) ∧ Below w2.heap.size w2 w' :=
    fun w2 h2 hbd => l01Find_to w.heap.size 0 b o n cap wd hi x y f l _ hn hbd (hp.below h2 hb) (Nat.lt_of_lt_of_le hb h2.size) hc hmax hf
  have Hx := Lib.hid hx
  have Hy := Lib.hid hy
  have hA2 := hA
  clear hx hy hn hp h8 hR hf hA
  have hs0 : ∀ s, w.heap.size ≠ w.heap.size + 1 + s := by intro s; omega
  cases R with
  | false =>
    obtain ⟨rfl, rfl⟩ := Prod.mk.inj (show (A, C) = (0, 1) by rw [← hA2]; simp [pieceAtM])
    go_enter Try.func24, Try.ntmps24
    go_wp2_with fail
    refine (Hx.out _ (by repeat (first | with_reducible exact Below.refl _ _ | (with_reducible refine kSet ?_ ?hB _; case hB => (simp; try omega)) | with_reducible refine kAlloc ?_ _ | with_reducible refine Below.drew ?_ | with_reducible refine kDrewN ?_ _ | with_reducible refine kTrans ?_ (by assumption))) (by refine ⟨?_, ?_, ?_⟩ <;> simp)).mono ?_
    rintro e w1 ⟨rfl, hb1⟩
    go_wp2
    exact bodyPost_ret (v := .tuple #[.int .i64 0, .int .i64 1]) (by simp [results, Try.results24, go_sem]) rfl ⟨rfl, by repeat (first | with_reducible exact Below.refl _ _ | (with_reducible refine kSet ?_ ?hB _; case hB => (simp; try omega)) | with_reducible refine kAlloc ?_ _ | with_reducible refine Below.drew ?_ | with_reducible refine kDrewN ?_ _ | with_reducible refine kTrans ?_ (by assumption))⟩
  | true =>
    by_cases h0 : f < 0
    · obtain ⟨rfl, rfl⟩ := Prod.mk.inj (show (A, C) = (0, 6) by rw [← hA2]; unfold pieceAtM; rw [if_pos rfl, if_pos h0])
      clear hA2
      go_enter Try.func24, Try.ntmps24
      go_wp2_with fail
      refine (Hx.out _ (by repeat (first | with_reducible exact Below.refl _ _ | (with_reducible refine kSet ?_ ?hB _; case hB => (simp; try omega)) | with_reducible refine kAlloc ?_ _ | with_reducible refine Below.drew ?_ | with_reducible refine kDrewN ?_ _ | with_reducible refine kTrans ?_ (by assumption))) (by refine ⟨?_, ?_, ?_⟩ <;> simp)).mono ?_
      rintro e w1 ⟨rfl, hb1⟩
      obtain ⟨hc1, hf1⟩ := bcell hb1
      go_wp2_with fail
      refine (Hy.out _ (by repeat (first | with_reducible exact Below.refl _ _ | (with_reducible refine kSet ?_ ?hB _; case hB => (simp; try omega)) | with_reducible refine kAlloc ?_ _ | with_reducible refine Below.drew ?_ | with_reducible refine kDrewN ?_ _ | with_reducible refine kTrans ?_ (by assumption))) (by refine ⟨?_, ?_, ?_⟩ <;> (rw [hc1 _ _ (by simp; omega)]; simp))).mono ?_
      rintro e w2 ⟨rfl, hb2⟩
      go_wp2
      exact bodyPost_ret (v := .tuple #[.int .i64 0, .int .i64 6]) (by simp [results, Try.results24, go_sem]) rfl ⟨rfl, by repeat (first | with_reducible exact Below.refl _ _ | (with_reducible refine kSet ?_ ?hB _; case hB => (simp; try omega)) | with_reducible refine kAlloc ?_ _ | with_reducible refine Below.drew ?_ | with_reducible refine kDrewN ?_ _ | with_reducible refine kTrans ?_ (by assumption))⟩
    · obtain ⟨rfl, rfl⟩ := Prod.mk.inj (show (A, C) = (f, 0) by rw [← hA2]; unfold pieceAtM; rw [if_pos rfl, if_neg h0])
      clear hA2
      go_enter Try.func24, Try.ntmps24
      go_wp2_with fail
      refine (Hx.out _ (by repeat (first | with_reducible exact Below.refl _ _ | (with_reducible refine kSet ?_ ?hB _; case hB => (simp; try omega)) | with_reducible refine kAlloc ?_ _ | with_reducible refine Below.drew ?_ | with_reducible refine kDrewN ?_ _ | with_reducible refine kTrans ?_ (by assumption))) (by refine ⟨?_, ?_, ?_⟩ <;> simp)).mono ?_
      rintro e w1 ⟨rfl, hb1⟩
      obtain ⟨hc1, hf1⟩ := bcell hb1
      go_wp2_with fail
      refine (Hy.out _ (by repeat (first | with_reducible exact Below.refl _ _ | (with_reducible refine kSet ?_ ?hB _; case hB => (simp; try omega)) | with_reducible refine kAlloc ?_ _ | with_reducible refine Below.drew ?_ | with_reducible refine kDrewN ?_ _ | with_reducible refine kTrans ?_ (by assumption))) (by refine ⟨?_, ?_, ?_⟩ <;> (rw [hc1 _ _ (by simp; omega)]; simp))).mono ?_
      rintro e w2 ⟨rfl, hb2⟩
      go_wp2
      exact bodyPost_ret (v := .tuple #[.int .i64 A, .int .i64 0]) (by simp [results, Try.results24, go_sem]) rfl ⟨rfl, by repeat (first | with_reducible exact Below.refl _ _ | (with_reducible refine kSet ?_ ?hB _; case hB => (simp; try omega)) | with_reducible refine kAlloc ?_ _ | with_reducible refine Below.drew ?_ | with_reducible refine kDrewN ?_ _ | with_reducible refine kTrans ?_ (by assumption))⟩
set_option maxHeartbeats 1000000 in
theorem implPieceAt_any (b o n cap : Nat) (wd hi x y : Int) (l : List Pc) (w : World) (hn : l.length = n) (hp : PcsAt w b o l) (hb : b < w.heap.size) (hc : n ≤ cap) (h8 : All8 l) (hmax : n ≤ 1048576) (R : Bool) (hR : R = boardOk wd hi l)
    (f : Int) (hf : findFrom x y l 0 = f) (A C : Int) (hA : pieceAtM R f = (A, C)) :
    Calls Try.prog 26 #[.agg #[.int .i8 wd, .int .i8 hi, .slice (some ⟨b, o, none⟩) n cap], .agg #[.int .i8 x, .int .i8 y]] w fun e w' => e = .returned (.tuple #[.int .i64 A, .int .i64 C]) ∧ Below w.heap.size w w' := by
  have hx : ∀ w2, Below w.heap.size w w2 → Calls Try.prog 68 #[.agg #[.int .i8 wd, .int .i8 hi, .slice (some ⟨b, o, none⟩) n cap]] w2 (LoPost R wd hi l w2) :=
    fun w2 h2 => layoutOf_any b o n cap wd hi l _ hn (hp.below h2 hb) (Nat.lt_of_lt_of_le hb h2.size) hc h8 hmax R hR
  have hy : ∀ w2 B, MapAt w2 B l → Calls Try.prog 73 #[.agg #[.int .i8 wd, .int .i8 hi, .map (some B)], .agg #[.int .i8 x, .int .i8 y]] w2 fun e w' => e = .returned (.int .i64 f) ∧ Below w2.heap.size w2 w' :=
    fun w2 B hm => by rw [← hf]; exact indexAt_any wd hi x y B l w2 hm
  have Hx := Lib.hid hx
  have Hy := Lib.hid hy
  have hA2 := hA
  clear hx hy hn hp h8 hR hf hA
  cases R with
  | false =>
    obtain ⟨rfl, rfl⟩ := Prod.mk.inj (show (A, C) = (0, 1) by rw [← hA2]; simp [pieceAtM])
    go_enter Try.func26, Try.ntmps26
    go_wp2_with fail
    refine (Hx.out _ (by repeat (first | with_reducible exact Below.refl _ _ | (with_reducible refine kSet ?_ ?hB _; case hB => (simp; try omega)) | with_reducible refine kAlloc ?_ _ | with_reducible refine Below.drew ?_ | with_reducible refine kDrewN ?_ _ | with_reducible refine kTrans ?_ (by assumption)))).mono ?_
    rintro e w1 ⟨_, h1, hb1⟩
    obtain rfl := h1 rfl
    clear h1
    go_wp2
    exact bodyPost_ret (v := .tuple #[.int .i64 0, .int .i64 1]) (by simp [results, Try.results26, go_sem]) rfl ⟨rfl, by repeat (first | with_reducible exact Below.refl _ _ | (with_reducible refine kSet ?_ ?hB _; case hB => (simp; try omega)) | with_reducible refine kAlloc ?_ _ | with_reducible refine Below.drew ?_ | with_reducible refine kDrewN ?_ _ | with_reducible refine kTrans ?_ (by assumption))⟩
  | true =>
    by_cases h0 : f < 0
    · obtain ⟨rfl, rfl⟩ := Prod.mk.inj (show (A, C) = (0, 6) by rw [← hA2]; unfold pieceAtM; rw [if_pos rfl, if_pos h0])
      clear hA2
      go_enter Try.func26, Try.ntmps26
      go_wp2_with fail
      refine (Hx.out _ (by repeat (first | with_reducible exact Below.refl _ _ | (with_reducible refine kSet ?_ ?hB _; case hB => (simp; try omega)) | with_reducible refine kAlloc ?_ _ | with_reducible refine Below.drew ?_ | with_reducible refine kDrewN ?_ _ | with_reducible refine kTrans ?_ (by assumption)))).mono ?_
      rintro e w1 ⟨h1, _, hb1⟩
      obtain ⟨B, rfl, hm⟩ := h1 rfl
      have Hm := Lib.hid hm
      obtain ⟨hc1, hf1⟩ := bcell hb1
      have hz1 : w.heap.size + 1 + 1 ≤ w1.heap.size := by have := hb1.size; simp at this; omega
      have hlt1 : w.heap.size + 1 < w1.heap.size := by omega
      have x0 : w1.cell? ⟨w.heap.size + 1, 0, none⟩ = some (.int .i8 x) := (hc1 _ _ (by simp)).trans (by simp)
      have x1 : w1.cell? ⟨w.heap.size + 1, 1, none⟩ = some (.int .i8 y) := (hc1 _ _ (by simp)).trans (by simp)
      clear h1 hm hc1 hf1
      go_wp2_with fail
      refine (Hy.out _ B (MapAt.below Hm.out (by repeat (first | with_reducible exact Below.refl _ _ | (with_reducible refine kSet ?_ ?hB _; case hB => (simp; try omega)) | with_reducible refine kAlloc ?_ _ | with_reducible refine Below.drew ?_ | with_reducible refine kDrewN ?_ _ | with_reducible refine kTrans ?_ (by assumption))))).mono ?_
      rintro e w2 ⟨rfl, hb2⟩
      go_wp2
      exact bodyPost_ret (v := .tuple #[.int .i64 0, .int .i64 6]) (by simp [results, Try.results26, go_sem]) rfl ⟨rfl, by repeat (first | with_reducible exact Below.refl _ _ | (with_reducible refine kSet ?_ ?hB _; case hB => (simp; try omega)) | with_reducible refine kAlloc ?_ _ | with_reducible refine Below.drew ?_ | with_reducible refine kDrewN ?_ _ | with_reducible refine kTrans ?_ (by assumption))⟩
    · obtain ⟨rfl, rfl⟩ := Prod.mk.inj (show (A, C) = (f, 0) by rw [← hA2]; unfold pieceAtM; rw [if_pos rfl, if_neg h0])
      clear hA2
      go_enter Try.func26, Try.ntmps26
      go_wp2_with fail
      refine (Hx.out _ (by repeat (first | with_reducible exact Below.refl _ _ | (with_reducible refine kSet ?_ ?hB _; case hB => (simp; try omega)) | with_reducible refine kAlloc ?_ _ | with_reducible refine Below.drew ?_ | with_reducible refine kDrewN ?_ _ | with_reducible refine kTrans ?_ (by assumption)))).mono ?_
      rintro e w1 ⟨h1, _, hb1⟩
      obtain ⟨B, rfl, hm⟩ := h1 rfl
      have Hm := Lib.hid hm
      obtain ⟨hc1, hf1⟩ := bcell hb1
      have hz1 : w.heap.size + 1 + 1 ≤ w1.heap.size := by have := hb1.size; simp at this; omega
      have hlt1 : w.heap.size + 1 < w1.heap.size := by omega
      have x0 : w1.cell? ⟨w.heap.size + 1, 0, none⟩ = some (.int .i8 x) := (hc1 _ _ (by simp)).trans (by simp)
      have x1 : w1.cell? ⟨w.heap.size + 1, 1, none⟩ = some (.int .i8 y) := (hc1 _ _ (by simp)).trans (by simp)
      clear h1 hm hc1 hf1
      go_wp2_with fail
      refine (Hy.out _ B (MapAt.below Hm.out (by repeat (first | with_reducible exact Below.refl _ _ | (with_reducible refine kSet ?_ ?hB _; case hB => (simp; try omega)) | with_reducible refine kAlloc ?_ _ | with_reducible refine Below.drew ?_ | with_reducible refine kDrewN ?_ _ | with_reducible refine kTrans ?_ (by assumption))))).mono ?_
      rintro e w2 ⟨rfl, hb2⟩
      go_wp2
      exact bodyPost_ret (v := .tuple #[.int .i64 A, .int .i64 0]) (by simp [results, Try.results26, go_sem]) rfl ⟨rfl, by repeat (first | with_reducible exact Below.refl _ _ | (with_reducible refine kSet ?_ ?hB _; case hB => (simp; try omega)) | with_reducible refine kAlloc ?_ _ | with_reducible refine Below.drew ?_ | with_reducible refine kDrewN ?_ _ | with_reducible refine kTrans ?_ (by assumption))⟩
end Go.Proofs.Ythancdlkkfegnaa
