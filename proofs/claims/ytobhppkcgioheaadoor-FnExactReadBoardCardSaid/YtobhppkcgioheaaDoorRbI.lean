/- ReadBoard: the program. -/
import Derived.Test.YtobhppkcgioheaaDoorRbQ
import Derived.Test.YtobhppkcgioheaaDoorRbV
namespace Go.Proofs.YtobhppkcgioheaaDoor
open Go.ChangeShapes Go.WideShapes Go.ChangeAt Go.RowKit Go.Joins Go.Deep
set_option linter.unusedVariables false
set_option linter.unusedSimpArgs false

theorem implBoardText_sl (lo hh : Nat) (v : Value) (wd hi : Int) (l : List Pc) (w : World) (hs : SlW lo hh w l v) (h8 : All8 l) (hw8 : i8 wd) (hh8 : i8 hi) (hmax : l.length ≤ 1048576) (R : Bool) (hR : R = boardOk wd hi l) (S : ByteArray) (hS : bsT (btQ R wd hi l) = S) (hst : KindAt w) :
    Calls Tryd.prog 52 #[.agg #[.int .i8 wd, .int .i8 hi, v]] w fun e w' => e = .returned (.string S) ∧ Below w.heap.size w w' := by
  cases hs with
  | empty a cap h => subst h; exact implBoardText_nil cap a wd hi w hw8 hh8 R hR S hS hst
  | mk b o cap hc h1 h2 hb hf hl => exact implBoardTextC_any b o _ cap wd hi l w rfl hc hb h8 hw8 hh8 hmax R hR S hS hst hl
set_option maxRecDepth 100000 in
set_option maxHeartbeats 4000000 in
theorem implReadBoard_any (l : List UInt8) (w : World) (hl : l.length ≤ 1048576) (hE : ErrAt w) (hst : KindAt w) (Wr Hr : Int) (lr : List Pc) (C : Int) (hA : RbA l Wr Hr lr C) :
    Calls Tryd.prog 14 #[.string (bsT l)] w (BoardPost Wr Hr lr C w) := by
  obtain ⟨W0, hW⟩ : ∃ W0, w.alloc (.cells #[.int .i8 0, .int .i8 0, .slice none 0 0] 33) = W0 := ⟨_, rfl⟩
  have k0 : Below w.heap.size w W0 := by rw [← hW]; exact kAlloc (Below.refl _ _) _
  have bR : W0.heap[w.heap.size]? = some (.cells #[.int .i8 0, .int .i8 0, .slice none 0 0] 33 (0, 0)) := by rw [← hW]; exact heap_alloc_new _ _
  have lR := blk_lt bR
  obtain ⟨X, hX⟩ : ∃ X, w.heap.size = X := ⟨_, rfl⟩
  rw [hX] at bR lR
  have HBR := Lib.hid (fun W2 (h2 : Below W0.heap.size W0 W2) => blk_below bR h2)
  have HKW := Lib.hid (fun W2 (h2 : Below W0.heap.size W0 W2) => kTrans k0 h2)
  have HSI := Lib.hid (fun W2 (h2 : Below W0.heap.size W0 W2) => hst.below (kTrans k0 h2))
  have HPW := Lib.hid (parseBoard_any l W0 hl (hE.below k0) (hst.below k0))
  have hXw : w.heap.size ≤ X := by omega
  obtain ⟨S, hS⟩ : ∃ S, bsT l = S := ⟨_, rfl⟩
  rw [hS] at HPW ⊢
  have HW := Lib.hid hW
  have HX := Lib.hid hX
  have HA := Lib.hid hA
  have HS := Lib.hid hS
  clear hW k0 bR hX hE hst hl hA hS
  go_enter Tryd.func14, Tryd.ntmps14
  go_upto_region 1 with fail
  try rw [HW.out]
  try rw [HX.out]
  clear HW
  go_wp2_with fail
  refine HPW.out.mono ?_
  rintro e w1 ⟨sw, sh, A, v, ok, rfl, b0, b1, h8, hm, hs, hne, hq, hb1⟩
  obtain ⟨va, vc, rfl⟩ := hs.form
  obtain ⟨W1, hW1⟩ : ∃ z, w1.alloc (.cells #[.int .i8 sw, .int .i8 sh, .slice va A.length vc] 33) = z := ⟨_, rfl⟩
  have kA : Below w1.heap.size w1 W1 := by rw [← hW1]; exact kAlloc (Below.refl _ _) _
  have bQ : W1.heap[w1.heap.size]? = some (.cells #[.int .i8 sw, .int .i8 sh, .slice va A.length vc] 33 (0, 0)) := by rw [← hW1]; exact heap_alloc_new _ _
  obtain ⟨Q, hQ⟩ : ∃ Q, w1.heap.size = Q := ⟨_, rfl⟩
  have hs1 := hs.below kA
  have hw1s := kA.size
  rw [hQ] at bQ
  have K1 := Lib.hid (kTrans hb1 kA)
  have HNE := Lib.hid hne
  have HQQ := Lib.hid hq
  have H8 := Lib.hid h8
  have HSL := Lib.hid hs1
  have lQ := blk_lt bQ
  have n1 := K1.out.size
  have HBQ := Lib.hid (fun W2 (h2 : Below W1.heap.size W1 W2) => blk_below bQ h2)
  have HW1 := Lib.hid hW1
  have HQe := Lib.hid hQ
  have rs_ := HBR.out _ K1.out
  have HB := Lib.hid (HKW.out _ K1.out)
  clear HPW hb1 kA bQ hne hq hW1 hs hs1 h8
  go_upto_region 2 with fail
  try rw [HW1.out]
  try rw [HQe.out]
  clear HW1
  cases ok with
  | false =>
    obtain ⟨rfl, rfl, rfl, rfl⟩ := HA.out.no (fun a b r h1 h2 => by have h3 := (HQQ.out a b r h1 h2).1; cases h3)
    clear HA HQQ
    go_wp2_with (refine wpList_store_row rfl 33 _ _ rfl X #[.int .i8 0, .int .i8 0, .slice none 0 0] rfl rfl 33 _ rs_ (by kernel_rfl) (by kernel_rfl) (by kernel_rfl) ?_)
    refine bodyPost_ret (v := .tuple #[.agg #[.int .i8 0, .int .i8 0, .slice none 0 0], .int .i64 5]) (results_cell_tmp rfl _ _ X 33 #[.int .i8 0, .int .i8 0, .slice none 0 0] (0, 0) _ _ rfl rfl (setRow_heap _ _ _ _ _ _ rs_) Tryd.underlying33 rfl (by kernel_rfl)) rfl ?_
    exact ⟨_, rfl, .empty _ _ rfl, kRowW HB.out hXw _⟩
  | true =>
    have bQ := HBQ.out W1 (Below.refl _ _)
    have c0 : W1.cell? ⟨Q, 0, none⟩ = some (.int .i8 sw) := cell_of_row _ _ 0 _ _ _ bQ
    have c1 : W1.cell? ⟨Q, 1, none⟩ = some (.int .i8 sh) := cell_of_row _ _ 1 _ _ _ bQ
    have c2 : W1.cell? ⟨Q, 2, none⟩ = some (.slice va A.length vc) := cell_of_row _ _ 2 _ _ _ bQ
    obtain ⟨R, hR⟩ : ∃ R, R = boardOk sw sh A := ⟨_, rfl⟩
    obtain ⟨T, hT⟩ : ∃ T, bsT (btQ R sw sh A) = T := ⟨_, rfl⟩
    have HT := Lib.hid hT
    have HTX := Lib.hid (implBoardText_sl _ _ _ sw sh A W1 HSL.out H8.out b0 b1 hm R hR T hT (HSI.out _ K1.out))
    have HRR := Lib.hid hR
    clear bQ hT rs_ HB hR
    go_wp2_with fail
    refine HTX.out.mono ?_
    rintro e w2 ⟨rfl, hb2⟩
    have K2 := Lib.hid (kTrans K1.out hb2)
    have rs_ := HBR.out _ K2.out
    have HB := Lib.hid (HKW.out _ K2.out)
    have bQ2 := HBQ.out w2 hb2
    have HSL2 := Lib.hid (HSL.out.below hb2)
    have hw2s := hb2.size
    clear HTX hb2 c0 c1 c2
    by_cases he : btQ R sw sh A = l
    · have hR2 : R = true := by
        cases R with
        | true => rfl
        | false => exact absurd he.symm (HNE.out (by trivial))
      obtain ⟨rfl, rfl, rfl, rfl⟩ := HA.out.yes (by rw [← HRR.out]; exact hR2) (by unfold btQ at he; rw [if_pos hR2] at he; exact he)
      obtain ⟨e1, e2, e3⟩ := eqL HT.out HS.out he
      have d0 : w2.cell? ⟨Q, 0, none⟩ = some (.int .i8 Wr) := cell_of_row _ _ 0 _ _ _ bQ2
      have d1 : w2.cell? ⟨Q, 1, none⟩ = some (.int .i8 Hr) := cell_of_row _ _ 1 _ _ _ bQ2
      have d2 : w2.cell? ⟨Q, 2, none⟩ = some (.slice va lr.length vc) := cell_of_row _ _ 2 _ _ _ bQ2
      have lq2 := blk_lt bQ2
      clear bQ2 he
      go_wp2_with (refine wpList_store_row rfl 33 _ _ rfl X #[.int .i8 Wr, .int .i8 Hr, .slice va lr.length vc] rfl rfl 33 _ rs_ (by kernel_rfl) (by kernel_rfl) (by kernel_rfl) ?_)
      refine bodyPost_ret (v := .tuple #[.agg #[.int .i8 Wr, .int .i8 Hr, .slice va lr.length vc], .int .i64 0]) (results_cell_tmp rfl _ _ X 33 #[.int .i8 Wr, .int .i8 Hr, .slice va lr.length vc] (0, 0) _ _ rfl rfl (setRow_heap _ _ _ _ _ _ rs_) Tryd.underlying33 rfl (by kernel_rfl)) rfl ?_
      refine ⟨_, rfl, ?_, kRowW HB.out hXw _⟩
      exact (HSL2.out.row (by omega)).mono (by omega) (by simp [World.setRow]; have := HQe.out; omega)
    · obtain ⟨rfl, rfl, rfl, rfl⟩ := HA.out.no (fun a b r h1 h2 => by
        obtain ⟨_, f1, f2, f3⟩ := HQQ.out a b r h1 h2
        subst f1 f2 f3
        exact he (by rw [HRR.out, h1]; exact h2))
      obtain ⟨e1, e2, e3⟩ := neL HT.out HS.out he
      clear bQ2 he
      go_wp2_with (refine wpList_store_row rfl 33 _ _ rfl X #[.int .i8 0, .int .i8 0, .slice none 0 0] rfl rfl 33 _ rs_ (by kernel_rfl) (by kernel_rfl) (by kernel_rfl) ?_)
      refine bodyPost_ret (v := .tuple #[.agg #[.int .i8 0, .int .i8 0, .slice none 0 0], .int .i64 5]) (results_cell_tmp rfl _ _ X 33 #[.int .i8 0, .int .i8 0, .slice none 0 0] (0, 0) _ _ rfl rfl (setRow_heap _ _ _ _ _ _ rs_) Tryd.underlying33 rfl (by kernel_rfl)) rfl ?_
      exact ⟨_, rfl, .empty _ _ rfl, kRowW HB.out hXw _⟩
end Go.Proofs.YtobhppkcgioheaaDoor
