/- ReadWay: the model. -/
import Derived.Test.YtobhppkcgioheaaDoorRw0
import Derived.Deep.DeepCutAuto
namespace Go.Proofs.YtobhppkcgioheaaDoor
open Go.ChangeShapes Go.WideShapes Go.ChangeAt Go.RowKit Go.Joins Go.Deep
set_option linter.unusedVariables false
set_option linter.unusedSimpArgs false

set_option maxRecDepth 100000 in
set_option maxHeartbeats 8000000 in
theorem specReadWay_any (l : List UInt8) (w : World) (hl : l.length ≤ 1048576) (p : Wy) (C : Int) (hA : RwA l p C) :
    Calls Tryd.prog 10 #[.string (bsT l)] w fun e w' => e = .returned (.tuple #[.agg #[.int .i8 p.fx, .int .i8 p.fy, .int .i8 p.sd, .int .i8 p.tx, .int .i8 p.ty, .int .i8 p.ot], .int .i64 C]) ∧ Below w.heap.size w w' := by
  obtain ⟨W0, hW⟩ : ∃ W0, w.alloc (.cells #[.int .i8 0, .int .i8 0, .int .i8 0, .int .i8 0, .int .i8 0, .int .i8 0] 26) = W0 := ⟨_, rfl⟩
  have k0 : Below w.heap.size w W0 := by rw [← hW]; exact kAlloc (Below.refl _ _) _
  have bR : W0.heap[w.heap.size]? = some (.cells #[.int .i8 0, .int .i8 0, .int .i8 0, .int .i8 0, .int .i8 0, .int .i8 0] 26 (0, 0)) := by rw [← hW]; exact heap_alloc_new _ _
  have lR := blk_lt bR
  obtain ⟨X, hX⟩ : ∃ X, w.heap.size = X := ⟨_, rfl⟩
  rw [hX] at bR lR
  have HBR := Lib.hid (fun W2 (h2 : Below W0.heap.size W0 W2) => blk_below bR h2)
  have HKW := Lib.hid (fun W2 (h2 : Below W0.heap.size W0 W2) => kTrans k0 h2)
  have HSP := Lib.hid (l01Split_any l 32 W0 (by omega) 32 rfl)
  have HA := Lib.hid hA
  have HW := Lib.hid hW
  have HX := Lib.hid hX
  have HL := Lib.hid hl
  clear hA hW k0 bR hX hl
  go_enter Tryd.func10, Tryd.ntmps10
  go_upto_region 1 with fail
  try rw [HW.out]
  try rw [HX.out]
  clear HW
  go_wp2_with fail
  refine HSP.out.mono ?_
  rintro e w1 ⟨g, cap, rfl, hcap, hst, hg, _, hb1⟩
  have K1 := Lib.hid hb1
  have HST := Lib.hid (fun W2 (h2 : Below w1.heap.size w1 W2) => hst.below h2 hg)
  have n1 := hb1.size
  clear HSP hst hb1
  obtain ⟨n, hn⟩ : ∃ n, (spl 32 l).length = n := ⟨_, rfl⟩
  rw [hn] at hcap
  rw [hn]
  by_cases h6 : n = 6
  · subst h6
    obtain ⟨a0, a1, a2, a3, a4, a5, hws⟩ := six hn
    have HWS := Lib.hid hws
    have q0 : w1.cell? ⟨g, 0, none⟩ = some (.string (bsT a0)) := by have h := HST.out w1 (Below.refl _ _) 0 a0 (by rw [hws]; rfl); rwa [Nat.zero_add] at h
    have q1 : w1.cell? ⟨g, 1, none⟩ = some (.string (bsT a1)) := by have h := HST.out w1 (Below.refl _ _) 1 a1 (by rw [hws]; rfl); rwa [Nat.zero_add] at h
    have q2 : w1.cell? ⟨g, 2, none⟩ = some (.string (bsT a2)) := by have h := HST.out w1 (Below.refl _ _) 2 a2 (by rw [hws]; rfl); rwa [Nat.zero_add] at h
    have q3 : w1.cell? ⟨g, 3, none⟩ = some (.string (bsT a3)) := by have h := HST.out w1 (Below.refl _ _) 3 a3 (by rw [hws]; rfl); rwa [Nat.zero_add] at h
    have q4 : w1.cell? ⟨g, 4, none⟩ = some (.string (bsT a4)) := by have h := HST.out w1 (Below.refl _ _) 4 a4 (by rw [hws]; rfl); rwa [Nat.zero_add] at h
    have q5 : w1.cell? ⟨g, 5, none⟩ = some (.string (bsT a5)) := by have h := HST.out w1 (Below.refl _ _) 5 a5 (by rw [hws]; rfl); rwa [Nat.zero_add] at h
    obtain ⟨x0, hx0⟩ : ∃ x, smX a0 = x := ⟨_, rfl⟩
    obtain ⟨o0, ho0⟩ : ∃ x, smB a0 = x := ⟨_, rfl⟩
    have HS0 := Lib.hid (l01Small_any a0 w1 x0 o0 hx0 ho0)
    have HX0 := Lib.hid hx0
    have HO0 := Lib.hid ho0
    have r0 := (smQ_any a0).lo
    have s0 := (smQ_any a0).hi
    rw [hx0] at r0 s0
    clear hx0 ho0
    obtain ⟨x1, hx1⟩ : ∃ x, smX a1 = x := ⟨_, rfl⟩
    obtain ⟨o1, ho1⟩ : ∃ x, smB a1 = x := ⟨_, rfl⟩
    have HS1 := Lib.hid (l01Small_any a1 w1 x1 o1 hx1 ho1)
    have HX1 := Lib.hid hx1
    have HO1 := Lib.hid ho1
    have r1 := (smQ_any a1).lo
    have s1 := (smQ_any a1).hi
    rw [hx1] at r1 s1
    clear hx1 ho1
    obtain ⟨x3, hx3⟩ : ∃ x, smX a3 = x := ⟨_, rfl⟩
    obtain ⟨o3, ho3⟩ : ∃ x, smB a3 = x := ⟨_, rfl⟩
    have HS3 := Lib.hid (l01Small_any a3 w1 x3 o3 hx3 ho3)
    have HX3 := Lib.hid hx3
    have HO3 := Lib.hid ho3
    have r3 := (smQ_any a3).lo
    have s3 := (smQ_any a3).hi
    rw [hx3] at r3 s3
    clear hx3 ho3
    obtain ⟨x4, hx4⟩ : ∃ x, smX a4 = x := ⟨_, rfl⟩
    obtain ⟨o4, ho4⟩ : ∃ x, smB a4 = x := ⟨_, rfl⟩
    have HS4 := Lib.hid (l01Small_any a4 w1 x4 o4 hx4 ho4)
    have HX4 := Lib.hid hx4
    have HO4 := Lib.hid ho4
    have r4 := (smQ_any a4).lo
    have s4 := (smQ_any a4).hi
    rw [hx4] at r4 s4
    clear hx4 ho4
    clear hws hn
    go_wp2_with fail
    refine HS0.out.mono ?_
    rintro e w' ⟨rfl, h⟩
    obtain rfl : w1 = w' := h
    go_wp2_with fail
    refine HS1.out.mono ?_
    rintro e w' ⟨rfl, h⟩
    obtain rfl : w1 = w' := h
    go_wp2_with fail
    refine HS3.out.mono ?_
    rintro e w' ⟨rfl, h⟩
    obtain rfl : w1 = w' := h
    go_wp2_with fail
    refine HS4.out.mono ?_
    rintro e w' ⟨rfl, h⟩
    obtain rfl : w1 = w' := h
    go_upto_region 8 with fail
    clear q0 q1 q3 q4
    have Q2 := Lib.hid (fun W2 (h2 : Below w1.heap.size w1 W2) => (h2.cell (p := ⟨g, 2, none⟩) hg).trans q2)
    have Q5 := Lib.hid (fun W2 (h2 : Below w1.heap.size w1 W2) => (h2.cell (p := ⟨g, 5, none⟩) hg).trans q5)
    go_cut [13] (fun s13 wx => ∃ (gw : Nat) (k1 k2 : Int), s13 = .pointer (some ⟨gw, 0, none⟩) ∧ Hid (wx.heap[gw]? = some (.cells #[.int .i8 x0, .int .i8 x1, .int .i8 k1, .int .i8 x3, .int .i8 x4, .int .i8 k2] 26 (0, 0))) ∧ Hid (WdQ sideWL 4 a2 k1) ∧ Hid (WdQ sideWL 4 a5 k2) ∧ Hid (Below w1.heap.size w1 wx))
    case first =>
      clear q2 q5
      refine regionW_of_HR (fun W' => Below w1.heap.size w1 W') (by kernel_rfl) (Below.drew (Below.refl _ _)) (fun hHeld => ?_)
      refine wpAnyH_take (i := 0) (v := .int .i8 x0) rfl (by kernel_rfl) (by kernel_rfl) (by kernel_rfl) (fun _ _ _ h => absurd h.1 (by simp)) (Or.inl ⟨by rfl, fun w7 hSw => ?_⟩) (by assumption) ?_
      · clear hSw
        go_simp
      simp only [Act.put, List.getElem_toArray, List.getElem_cons_zero, List.getElem_cons_succ, List.setIfInBounds_toArray, List.set_cons_zero, List.set_cons_succ]
      refine wpAnyH_take (i := 1) (v := .int .i8 x1) rfl (by kernel_rfl) (by kernel_rfl) (by kernel_rfl) (fun _ _ _ h => absurd h.1 (by simp)) (Or.inl ⟨by rfl, fun w7 hSw => ?_⟩) (by assumption) ?_
      · clear hSw
        go_simp
      simp only [Act.put, List.getElem_toArray, List.getElem_cons_zero, List.getElem_cons_succ, List.setIfInBounds_toArray, List.set_cons_zero, List.set_cons_succ]
      refine wpAnyH_take (i := 2) (v := .agg #[.int .i8 x0, .int .i8 x1]) rfl (by kernel_rfl) (by kernel_rfl) (by kernel_rfl) (fun _ _ _ h => absurd h.1 (by simp)) (Or.inl ⟨by rfl, fun w7 hSw => ?_⟩) (by assumption) ?_
      · clear hSw
        go_simp
      simp only [Act.put, List.getElem_toArray, List.getElem_cons_zero, List.getElem_cons_succ, List.setIfInBounds_toArray, List.set_cons_zero, List.set_cons_succ]
      refine wpAnyH_take (i := 3) (v := .slice (some ⟨g, 0, none⟩) 6 cap) rfl (by kernel_rfl) (by kernel_rfl) (by kernel_rfl) (fun _ _ _ h => absurd h.1 (by simp)) (Or.inl ⟨by rfl, fun w7 hSw => ?_⟩) (by assumption) ?_
      · clear hSw
        go_simp
      simp only [Act.put, List.getElem_toArray, List.getElem_cons_zero, List.getElem_cons_succ, List.setIfInBounds_toArray, List.set_cons_zero, List.set_cons_succ]
      refine wpAnyH_take (i := 4) (v := .pointer (some ⟨g, 2, none⟩)) rfl (by kernel_rfl) (by kernel_rfl) (by kernel_rfl) (fun _ _ _ h => absurd h.1 (by simp)) (Or.inl ⟨by rfl, fun w7 hSw => ?_⟩) (by assumption) ?_
      · clear hSw
        go_simp
      simp only [Act.put, List.getElem_toArray, List.getElem_cons_zero, List.getElem_cons_succ, List.setIfInBounds_toArray, List.set_cons_zero, List.set_cons_succ]
      refine wpAnyH_take (i := 5) (v := .string (bsT a2)) rfl (by kernel_rfl) (by kernel_rfl) (by kernel_rfl) (fun _ _ _ h => absurd h.1 (by simp)) (Or.inl ⟨by rfl, fun w7 hSw => ?_⟩) (by assumption) ?_
      · have q7 := Q2.out _ hSw
        clear hSw
        go_simp
      simp only [Act.put, List.getElem_toArray, List.getElem_cons_zero, List.getElem_cons_succ, List.setIfInBounds_toArray, List.set_cons_zero, List.set_cons_succ]
      refine wpAnyH_take (i := 7) (v := .int .i8 x3) rfl (by kernel_rfl) (by kernel_rfl) (by kernel_rfl) (fun _ _ _ h => absurd h.1 (by simp)) (Or.inl ⟨by rfl, fun w7 hSw => ?_⟩) (by assumption) ?_
      · clear hSw
        go_simp
      simp only [Act.put, List.getElem_toArray, List.getElem_cons_zero, List.getElem_cons_succ, List.setIfInBounds_toArray, List.set_cons_zero, List.set_cons_succ]
      refine wpAnyH_take (i := 8) (v := .int .i8 x4) rfl (by kernel_rfl) (by kernel_rfl) (by kernel_rfl) (fun _ _ _ h => absurd h.1 (by simp)) (Or.inl ⟨by rfl, fun w7 hSw => ?_⟩) (by assumption) ?_
      · clear hSw
        go_simp
      simp only [Act.put, List.getElem_toArray, List.getElem_cons_zero, List.getElem_cons_succ, List.setIfInBounds_toArray, List.set_cons_zero, List.set_cons_succ]
      refine wpAnyH_take (i := 9) (v := .agg #[.int .i8 x3, .int .i8 x4]) rfl (by kernel_rfl) (by kernel_rfl) (by kernel_rfl) (fun _ _ _ h => absurd h.1 (by simp)) (Or.inl ⟨by rfl, fun w7 hSw => ?_⟩) (by assumption) ?_
      · clear hSw
        go_simp
      simp only [Act.put, List.getElem_toArray, List.getElem_cons_zero, List.getElem_cons_succ, List.setIfInBounds_toArray, List.set_cons_zero, List.set_cons_succ]
      refine wpAnyH_take (i := 10) (v := .slice (some ⟨g, 0, none⟩) 6 cap) rfl (by kernel_rfl) (by kernel_rfl) (by kernel_rfl) (fun _ _ _ h => absurd h.1 (by simp)) (Or.inl ⟨by rfl, fun w7 hSw => ?_⟩) (by assumption) ?_
      · clear hSw
        go_simp
      simp only [Act.put, List.getElem_toArray, List.getElem_cons_zero, List.getElem_cons_succ, List.setIfInBounds_toArray, List.set_cons_zero, List.set_cons_succ]
      refine wpAnyH_take (i := 11) (v := .pointer (some ⟨g, 5, none⟩)) rfl (by kernel_rfl) (by kernel_rfl) (by kernel_rfl) (fun _ _ _ h => absurd h.1 (by simp)) (Or.inl ⟨by rfl, fun w7 hSw => ?_⟩) (by assumption) ?_
      · clear hSw
        go_simp
      simp only [Act.put, List.getElem_toArray, List.getElem_cons_zero, List.getElem_cons_succ, List.setIfInBounds_toArray, List.set_cons_zero, List.set_cons_succ]
      refine wpAnyH_take (i := 12) (v := .string (bsT a5)) rfl (by kernel_rfl) (by kernel_rfl) (by kernel_rfl) (fun _ _ _ h => absurd h.1 (by simp)) (Or.inl ⟨by rfl, fun w7 hSw => ?_⟩) (by assumption) ?_
      · have q7 := Q5.out _ hSw
        clear hSw
        go_simp
      simp only [Act.put, List.getElem_toArray, List.getElem_cons_zero, List.getElem_cons_succ, List.setIfInBounds_toArray, List.set_cons_zero, List.set_cons_succ]
      have K0 := Lib.hid hHeld
      clear hHeld
      obtain ⟨xt0, hxt0⟩ : ∃ z, w1.drew = z := ⟨_, rfl⟩
      rw [hxt0] at K0 ⊢
      clear hxt0
      refine wpAnyH_ready (rs := [6, 15]) (by kernel_rfl) (by simp) ?_
      refine AllReadyH.cons rfl (fun K hK => ?_) (AllReadyH.cons rfl (fun K hK => ?_) AllReadyH.nil)
      · skip
        go_simp
        go_at_call 44
        refine (l05Word_any a2 xt0).mono ?_
        rintro e xt1 ⟨k1, rfl, hw1, hb1⟩
        have K1 := Lib.hid (kTrans K0.out hb1)
        have HW1 := Lib.hid hw1
        clear hw1
        refine hK.out _ _ K1.out (fun _ => ?_)
        clear hK K hb1
        refine wpAnyH_ready (rs := [13, 15]) (by kernel_rfl) (by simp) ?_
        refine AllReadyH.cons rfl (fun K hK => ?_) (AllReadyH.cons rfl (fun K hK => ?_) AllReadyH.nil)
        · skip
          go_simp
          go_at_call 44
          refine (l05Word_any a5 xt1).mono ?_
          rintro e xt2 ⟨k2, rfl, hw2, hb2⟩
          have K2 := Lib.hid (kTrans K1.out hb2)
          have HW2 := Lib.hid hw2
          clear hw2
          refine hK.out _ _ K2.out (fun _ => ?_)
          clear hK K hb2
          have hS_ : Below w1.heap.size w1 xt2 := K2.out
          refine wpAnyH_take (i := 14) (v := .agg #[.int .i8 x0, .int .i8 x1, .int .i8 k1, .int .i8 x3, .int .i8 x4, .int .i8 k2]) rfl (by kernel_rfl) (by kernel_rfl) (by kernel_rfl) (fun _ _ _ h => absurd h.1 (by simp)) (Or.inl ⟨by rfl, fun w7 hSw => ?_⟩) (by assumption) ?_
          · clear hSw
            go_simp
          simp only [Act.put, List.getElem_toArray, List.getElem_cons_zero, List.getElem_cons_succ, List.setIfInBounds_toArray, List.set_cons_zero, List.set_cons_succ]
          clear hS_
          refine wpAnyH_ready (rs := [15]) (by kernel_rfl) (by simp) ?_
          refine AllReadyH.cons rfl (fun K hK => ?_) AllReadyH.nil
          · skip
            go_simp
            obtain ⟨xt3, et3⟩ : ∃ z, xt2.alloc (.cells #[.int .i8 0, .int .i8 0, .int .i8 0, .int .i8 0, .int .i8 0, .int .i8 0] 26) = z := ⟨_, rfl⟩
            have kt3 : Below xt2.heap.size xt2 xt3 := by rw [← et3]; exact kAlloc (Below.refl _ _) _
            have bt3 : xt3.heap[xt2.heap.size]? = some (.cells #[.int .i8 0, .int .i8 0, .int .i8 0, .int .i8 0, .int .i8 0, .int .i8 0] 26 (0, 0)) := by rw [← et3]; exact heap_alloc_new _ _
            try rw [et3]
            obtain ⟨gt3, ft3⟩ : ∃ z, xt2.heap.size = z := ⟨_, rfl⟩
            have K3 := Lib.hid (kTrans K2.out kt3)
            have lt3 : w1.heap.size ≤ gt3 := by have := K2.out.size; omega
            rw [ft3] at bt3 ⊢
            have bw_3 := Lib.hid bt3
            refine hK.out _ _ K3.out (fun _ => ?_)
            clear hK K kt3 bt3 et3 ft3
            refine wpAnyH_ready (rs := [16]) (by kernel_rfl) (by simp) ?_
            refine AllReadyH.cons rfl (fun K hK => ?_) AllReadyH.nil
            · skip
              have q0 : xt3.cell? ⟨gt3, 0, none⟩ = some (.int .i8 0) := cell_of_row _ _ 0 _ _ _ bw_3.out
              have y0 : xt3.frozen? ⟨gt3, 0, none⟩ = false := frozen_of_row _ _ 0 _ _ bw_3.out
              have q1 : xt3.cell? ⟨gt3, 1, none⟩ = some (.int .i8 0) := cell_of_row _ _ 1 _ _ _ bw_3.out
              have y1 : xt3.frozen? ⟨gt3, 1, none⟩ = false := frozen_of_row _ _ 1 _ _ bw_3.out
              have q2 : xt3.cell? ⟨gt3, 2, none⟩ = some (.int .i8 0) := cell_of_row _ _ 2 _ _ _ bw_3.out
              have y2 : xt3.frozen? ⟨gt3, 2, none⟩ = false := frozen_of_row _ _ 2 _ _ bw_3.out
              have q3 : xt3.cell? ⟨gt3, 3, none⟩ = some (.int .i8 0) := cell_of_row _ _ 3 _ _ _ bw_3.out
              have y3 : xt3.frozen? ⟨gt3, 3, none⟩ = false := frozen_of_row _ _ 3 _ _ bw_3.out
              have q4 : xt3.cell? ⟨gt3, 4, none⟩ = some (.int .i8 0) := cell_of_row _ _ 4 _ _ _ bw_3.out
              have y4 : xt3.frozen? ⟨gt3, 4, none⟩ = false := frozen_of_row _ _ 4 _ _ bw_3.out
              have q5 : xt3.cell? ⟨gt3, 5, none⟩ = some (.int .i8 0) := cell_of_row _ _ 5 _ _ _ bw_3.out
              have y5 : xt3.frozen? ⟨gt3, 5, none⟩ = false := frozen_of_row _ _ 5 _ _ bw_3.out
              have lz := blk_lt bw_3.out
              go_simp
              have K4 : Hid (Below w1.heap.size w1 ((((((xt3.setCell ⟨gt3, 0, none⟩ (.int .i8 x0)).setCell ⟨gt3, 1, none⟩ (.int .i8 x1)).setCell ⟨gt3, 2, none⟩ (.int .i8 k1)).setCell ⟨gt3, 3, none⟩ (.int .i8 x3)).setCell ⟨gt3, 4, none⟩ (.int .i8 x4)).setCell ⟨gt3, 5, none⟩ (.int .i8 k2))) := Lib.hid (kSet (kSet (kSet (kSet (kSet (kSet K3.out lt3 _) lt3 _) lt3 _) lt3 _) lt3 _) lt3 _)
              have bw_4 : Hid (((((((xt3.setCell ⟨gt3, 0, none⟩ (.int .i8 x0)).setCell ⟨gt3, 1, none⟩ (.int .i8 x1)).setCell ⟨gt3, 2, none⟩ (.int .i8 k1)).setCell ⟨gt3, 3, none⟩ (.int .i8 x3)).setCell ⟨gt3, 4, none⟩ (.int .i8 x4)).setCell ⟨gt3, 5, none⟩ (.int .i8 k2)).heap[gt3]? = some (.cells #[.int .i8 x0, .int .i8 x1, .int .i8 k1, .int .i8 x3, .int .i8 x4, .int .i8 k2] 26 (0, 0))) := Lib.hid (blk_set_same' (blk_set_same' (blk_set_same' (blk_set_same' (blk_set_same' (blk_set_same' bw_3.out))))))
              refine hK.out _ _ K4.out (fun _ => ?_)
              clear hK K lz q0 y0 q1 y1 q2 y2 q3 y3 q4 y4 q5 y5
              generalize ((((((xt3.setCell ⟨gt3, 0, none⟩ (.int .i8 x0)).setCell ⟨gt3, 1, none⟩ (.int .i8 x1)).setCell ⟨gt3, 2, none⟩ (.int .i8 k1)).setCell ⟨gt3, 3, none⟩ (.int .i8 x3)).setCell ⟨gt3, 4, none⟩ (.int .i8 x4)).setCell ⟨gt3, 5, none⟩ (.int .i8 k2)) = xt4 at K4 bw_4 ⊢
              refine wpAnyH_done (by kernel_rfl) ?_ _
              refine ⟨rfl, ?_⟩
              go_wp2_with fail
              go_meet
              exact ⟨gt3, k1, k2, rfl, bw_4, HW1, HW2, K4⟩
        · skip
          go_simp
          obtain ⟨xt2, et2⟩ : ∃ z, xt1.alloc (.cells #[.int .i8 0, .int .i8 0, .int .i8 0, .int .i8 0, .int .i8 0, .int .i8 0] 26) = z := ⟨_, rfl⟩
          have kt2 : Below xt1.heap.size xt1 xt2 := by rw [← et2]; exact kAlloc (Below.refl _ _) _
          have bt2 : xt2.heap[xt1.heap.size]? = some (.cells #[.int .i8 0, .int .i8 0, .int .i8 0, .int .i8 0, .int .i8 0, .int .i8 0] 26 (0, 0)) := by rw [← et2]; exact heap_alloc_new _ _
          try rw [et2]
          obtain ⟨gt2, ft2⟩ : ∃ z, xt1.heap.size = z := ⟨_, rfl⟩
          have K2 := Lib.hid (kTrans K1.out kt2)
          have lt2 : w1.heap.size ≤ gt2 := by have := K1.out.size; omega
          rw [ft2] at bt2 ⊢
          have bw_2 := Lib.hid bt2
          refine hK.out _ _ K2.out (fun _ => ?_)
          clear hK K kt2 bt2 et2 ft2
          refine wpAnyH_ready (rs := [13]) (by kernel_rfl) (by simp) ?_
          refine AllReadyH.cons rfl (fun K hK => ?_) AllReadyH.nil
          · skip
            go_simp
            go_at_call 44
            refine (l05Word_any a5 xt2).mono ?_
            rintro e xt3 ⟨k2, rfl, hw3, hb3⟩
            have K3 := Lib.hid (kTrans K2.out hb3)
            have bw_3 := Lib.hid (blk_below bw_2.out hb3)
            have HW3 := Lib.hid hw3
            clear hw3
            refine hK.out _ _ K3.out (fun _ => ?_)
            clear hK K hb3
            have hS_ : Below w1.heap.size w1 xt3 := K3.out
            refine wpAnyH_take (i := 14) (v := .agg #[.int .i8 x0, .int .i8 x1, .int .i8 k1, .int .i8 x3, .int .i8 x4, .int .i8 k2]) rfl (by kernel_rfl) (by kernel_rfl) (by kernel_rfl) (fun _ _ _ h => absurd h.1 (by simp)) (Or.inl ⟨by rfl, fun w7 hSw => ?_⟩) (by assumption) ?_
            · clear hSw
              go_simp
            simp only [Act.put, List.getElem_toArray, List.getElem_cons_zero, List.getElem_cons_succ, List.setIfInBounds_toArray, List.set_cons_zero, List.set_cons_succ]
            clear hS_
            refine wpAnyH_ready (rs := [16]) (by kernel_rfl) (by simp) ?_
            refine AllReadyH.cons rfl (fun K hK => ?_) AllReadyH.nil
            · skip
              have q0 : xt3.cell? ⟨gt2, 0, none⟩ = some (.int .i8 0) := cell_of_row _ _ 0 _ _ _ bw_3.out
              have y0 : xt3.frozen? ⟨gt2, 0, none⟩ = false := frozen_of_row _ _ 0 _ _ bw_3.out
              have q1 : xt3.cell? ⟨gt2, 1, none⟩ = some (.int .i8 0) := cell_of_row _ _ 1 _ _ _ bw_3.out
              have y1 : xt3.frozen? ⟨gt2, 1, none⟩ = false := frozen_of_row _ _ 1 _ _ bw_3.out
              have q2 : xt3.cell? ⟨gt2, 2, none⟩ = some (.int .i8 0) := cell_of_row _ _ 2 _ _ _ bw_3.out
              have y2 : xt3.frozen? ⟨gt2, 2, none⟩ = false := frozen_of_row _ _ 2 _ _ bw_3.out
              have q3 : xt3.cell? ⟨gt2, 3, none⟩ = some (.int .i8 0) := cell_of_row _ _ 3 _ _ _ bw_3.out
              have y3 : xt3.frozen? ⟨gt2, 3, none⟩ = false := frozen_of_row _ _ 3 _ _ bw_3.out
              have q4 : xt3.cell? ⟨gt2, 4, none⟩ = some (.int .i8 0) := cell_of_row _ _ 4 _ _ _ bw_3.out
              have y4 : xt3.frozen? ⟨gt2, 4, none⟩ = false := frozen_of_row _ _ 4 _ _ bw_3.out
              have q5 : xt3.cell? ⟨gt2, 5, none⟩ = some (.int .i8 0) := cell_of_row _ _ 5 _ _ _ bw_3.out
              have y5 : xt3.frozen? ⟨gt2, 5, none⟩ = false := frozen_of_row _ _ 5 _ _ bw_3.out
              have lz := blk_lt bw_3.out
              go_simp
              have K4 : Hid (Below w1.heap.size w1 ((((((xt3.setCell ⟨gt2, 0, none⟩ (.int .i8 x0)).setCell ⟨gt2, 1, none⟩ (.int .i8 x1)).setCell ⟨gt2, 2, none⟩ (.int .i8 k1)).setCell ⟨gt2, 3, none⟩ (.int .i8 x3)).setCell ⟨gt2, 4, none⟩ (.int .i8 x4)).setCell ⟨gt2, 5, none⟩ (.int .i8 k2))) := Lib.hid (kSet (kSet (kSet (kSet (kSet (kSet K3.out lt2 _) lt2 _) lt2 _) lt2 _) lt2 _) lt2 _)
              have bw_4 : Hid (((((((xt3.setCell ⟨gt2, 0, none⟩ (.int .i8 x0)).setCell ⟨gt2, 1, none⟩ (.int .i8 x1)).setCell ⟨gt2, 2, none⟩ (.int .i8 k1)).setCell ⟨gt2, 3, none⟩ (.int .i8 x3)).setCell ⟨gt2, 4, none⟩ (.int .i8 x4)).setCell ⟨gt2, 5, none⟩ (.int .i8 k2)).heap[gt2]? = some (.cells #[.int .i8 x0, .int .i8 x1, .int .i8 k1, .int .i8 x3, .int .i8 x4, .int .i8 k2] 26 (0, 0))) := Lib.hid (blk_set_same' (blk_set_same' (blk_set_same' (blk_set_same' (blk_set_same' (blk_set_same' bw_3.out))))))
              refine hK.out _ _ K4.out (fun _ => ?_)
              clear hK K lz q0 y0 q1 y1 q2 y2 q3 y3 q4 y4 q5 y5
              generalize ((((((xt3.setCell ⟨gt2, 0, none⟩ (.int .i8 x0)).setCell ⟨gt2, 1, none⟩ (.int .i8 x1)).setCell ⟨gt2, 2, none⟩ (.int .i8 k1)).setCell ⟨gt2, 3, none⟩ (.int .i8 x3)).setCell ⟨gt2, 4, none⟩ (.int .i8 x4)).setCell ⟨gt2, 5, none⟩ (.int .i8 k2)) = xt4 at K4 bw_4 ⊢
              refine wpAnyH_done (by kernel_rfl) ?_ _
              refine ⟨rfl, ?_⟩
              go_wp2_with fail
              go_meet
              exact ⟨gt2, k1, k2, rfl, bw_4, HW1, HW3, K4⟩
      · skip
        go_simp
        obtain ⟨xt1, et1⟩ : ∃ z, xt0.alloc (.cells #[.int .i8 0, .int .i8 0, .int .i8 0, .int .i8 0, .int .i8 0, .int .i8 0] 26) = z := ⟨_, rfl⟩
        have kt1 : Below xt0.heap.size xt0 xt1 := by rw [← et1]; exact kAlloc (Below.refl _ _) _
        have bt1 : xt1.heap[xt0.heap.size]? = some (.cells #[.int .i8 0, .int .i8 0, .int .i8 0, .int .i8 0, .int .i8 0, .int .i8 0] 26 (0, 0)) := by rw [← et1]; exact heap_alloc_new _ _
        try rw [et1]
        obtain ⟨gt1, ft1⟩ : ∃ z, xt0.heap.size = z := ⟨_, rfl⟩
        have K1 := Lib.hid (kTrans K0.out kt1)
        have lt1 : w1.heap.size ≤ gt1 := by have := K0.out.size; omega
        rw [ft1] at bt1 ⊢
        have bw_1 := Lib.hid bt1
        refine hK.out _ _ K1.out (fun _ => ?_)
        clear hK K kt1 bt1 et1 ft1
        refine wpAnyH_ready (rs := [6]) (by kernel_rfl) (by simp) ?_
        refine AllReadyH.cons rfl (fun K hK => ?_) AllReadyH.nil
        · skip
          go_simp
          go_at_call 44
          refine (l05Word_any a2 xt1).mono ?_
          rintro e xt2 ⟨k1, rfl, hw2, hb2⟩
          have K2 := Lib.hid (kTrans K1.out hb2)
          have bw_2 := Lib.hid (blk_below bw_1.out hb2)
          have HW2 := Lib.hid hw2
          clear hw2
          refine hK.out _ _ K2.out (fun _ => ?_)
          clear hK K hb2
          refine wpAnyH_ready (rs := [13]) (by kernel_rfl) (by simp) ?_
          refine AllReadyH.cons rfl (fun K hK => ?_) AllReadyH.nil
          · skip
            go_simp
            go_at_call 44
            refine (l05Word_any a5 xt2).mono ?_
            rintro e xt3 ⟨k2, rfl, hw3, hb3⟩
            have K3 := Lib.hid (kTrans K2.out hb3)
            have bw_3 := Lib.hid (blk_below bw_2.out hb3)
            have HW3 := Lib.hid hw3
            clear hw3
            refine hK.out _ _ K3.out (fun _ => ?_)
            clear hK K hb3
            have hS_ : Below w1.heap.size w1 xt3 := K3.out
            refine wpAnyH_take (i := 14) (v := .agg #[.int .i8 x0, .int .i8 x1, .int .i8 k1, .int .i8 x3, .int .i8 x4, .int .i8 k2]) rfl (by kernel_rfl) (by kernel_rfl) (by kernel_rfl) (fun _ _ _ h => absurd h.1 (by simp)) (Or.inl ⟨by rfl, fun w7 hSw => ?_⟩) (by assumption) ?_
            · clear hSw
              go_simp
            simp only [Act.put, List.getElem_toArray, List.getElem_cons_zero, List.getElem_cons_succ, List.setIfInBounds_toArray, List.set_cons_zero, List.set_cons_succ]
            clear hS_
            refine wpAnyH_ready (rs := [16]) (by kernel_rfl) (by simp) ?_
            refine AllReadyH.cons rfl (fun K hK => ?_) AllReadyH.nil
            · skip
              have q0 : xt3.cell? ⟨gt1, 0, none⟩ = some (.int .i8 0) := cell_of_row _ _ 0 _ _ _ bw_3.out
              have y0 : xt3.frozen? ⟨gt1, 0, none⟩ = false := frozen_of_row _ _ 0 _ _ bw_3.out
              have q1 : xt3.cell? ⟨gt1, 1, none⟩ = some (.int .i8 0) := cell_of_row _ _ 1 _ _ _ bw_3.out
              have y1 : xt3.frozen? ⟨gt1, 1, none⟩ = false := frozen_of_row _ _ 1 _ _ bw_3.out
              have q2 : xt3.cell? ⟨gt1, 2, none⟩ = some (.int .i8 0) := cell_of_row _ _ 2 _ _ _ bw_3.out
              have y2 : xt3.frozen? ⟨gt1, 2, none⟩ = false := frozen_of_row _ _ 2 _ _ bw_3.out
              have q3 : xt3.cell? ⟨gt1, 3, none⟩ = some (.int .i8 0) := cell_of_row _ _ 3 _ _ _ bw_3.out
              have y3 : xt3.frozen? ⟨gt1, 3, none⟩ = false := frozen_of_row _ _ 3 _ _ bw_3.out
              have q4 : xt3.cell? ⟨gt1, 4, none⟩ = some (.int .i8 0) := cell_of_row _ _ 4 _ _ _ bw_3.out
              have y4 : xt3.frozen? ⟨gt1, 4, none⟩ = false := frozen_of_row _ _ 4 _ _ bw_3.out
              have q5 : xt3.cell? ⟨gt1, 5, none⟩ = some (.int .i8 0) := cell_of_row _ _ 5 _ _ _ bw_3.out
              have y5 : xt3.frozen? ⟨gt1, 5, none⟩ = false := frozen_of_row _ _ 5 _ _ bw_3.out
              have lz := blk_lt bw_3.out
              go_simp
              have K4 : Hid (Below w1.heap.size w1 ((((((xt3.setCell ⟨gt1, 0, none⟩ (.int .i8 x0)).setCell ⟨gt1, 1, none⟩ (.int .i8 x1)).setCell ⟨gt1, 2, none⟩ (.int .i8 k1)).setCell ⟨gt1, 3, none⟩ (.int .i8 x3)).setCell ⟨gt1, 4, none⟩ (.int .i8 x4)).setCell ⟨gt1, 5, none⟩ (.int .i8 k2))) := Lib.hid (kSet (kSet (kSet (kSet (kSet (kSet K3.out lt1 _) lt1 _) lt1 _) lt1 _) lt1 _) lt1 _)
              have bw_4 : Hid (((((((xt3.setCell ⟨gt1, 0, none⟩ (.int .i8 x0)).setCell ⟨gt1, 1, none⟩ (.int .i8 x1)).setCell ⟨gt1, 2, none⟩ (.int .i8 k1)).setCell ⟨gt1, 3, none⟩ (.int .i8 x3)).setCell ⟨gt1, 4, none⟩ (.int .i8 x4)).setCell ⟨gt1, 5, none⟩ (.int .i8 k2)).heap[gt1]? = some (.cells #[.int .i8 x0, .int .i8 x1, .int .i8 k1, .int .i8 x3, .int .i8 x4, .int .i8 k2] 26 (0, 0))) := Lib.hid (blk_set_same' (blk_set_same' (blk_set_same' (blk_set_same' (blk_set_same' (blk_set_same' bw_3.out))))))
              refine hK.out _ _ K4.out (fun _ => ?_)
              clear hK K lz q0 y0 q1 y1 q2 y2 q3 y3 q4 y4 q5 y5
              generalize ((((((xt3.setCell ⟨gt1, 0, none⟩ (.int .i8 x0)).setCell ⟨gt1, 1, none⟩ (.int .i8 x1)).setCell ⟨gt1, 2, none⟩ (.int .i8 k1)).setCell ⟨gt1, 3, none⟩ (.int .i8 x3)).setCell ⟨gt1, 4, none⟩ (.int .i8 x4)).setCell ⟨gt1, 5, none⟩ (.int .i8 k2)) = xt4 at K4 bw_4 ⊢
              refine wpAnyH_done (by kernel_rfl) ?_ _
              refine ⟨rfl, ?_⟩
              go_wp2_with fail
              go_meet
              exact ⟨gt1, k1, k2, rfl, bw_4, HW2, HW3, K4⟩
    case rest =>
      obtain ⟨gw, k1, k2, rfl, bW, H1, H2, K2⟩ := hcut
      rename World => wc
      have b1_ := H1.out.ran
      have b2_ := H2.out.ran
      have K02 := Lib.hid (kTrans K1.out K2.out)
      have nc := K2.out.size
      have lW := blk_lt bW.out
      have h8 : Wy.in8 ⟨x0, x1, k1, x3, x4, k2⟩ := by unfold Wy.in8 i8; simp only; omega
      obtain ⟨pl, hpl⟩ : ∃ pl, wyPlain ⟨x0, x1, k1, x3, x4, k2⟩ = pl := ⟨_, rfl⟩
      have HPL := Lib.hid (by have h := l05Plain_any gw x0 x1 k1 x3 x4 k2 wc h8 (WyAt.of (p := ⟨x0, x1, k1, x3, x4, k2⟩) bW.out) lW; rw [hpl] at h; exact h)
      have HN := Lib.hid (fun (h : ¬ (o0 = true ∧ o1 = true ∧ o3 = true ∧ o4 = true ∧ pl = true)) => rw_no HWS.out H1.out H2.out HA.out (by rw [HX0.out, HX1.out, HX3.out, HX4.out, HO0.out, HO1.out, HO3.out, HO4.out, hpl]; exact h))
      have HY := Lib.hid (fun (h : o0 = true ∧ o1 = true ∧ o3 = true ∧ o4 = true ∧ pl = true) => (by
        have h2 := rw_yes HWS.out H1.out H2.out HA.out (HO0.out.trans h.1) (HO1.out.trans h.2.1) (HO3.out.trans h.2.2.1) (HO4.out.trans h.2.2.2.1) (by rw [HX0.out, HX1.out, HX3.out, HX4.out, hpl]; exact h.2.2.2.2)
        rw [HX0.out, HX1.out, HX3.out, HX4.out] at h2; exact h2 : p = ⟨x0, x1, k1, x3, x4, k2⟩ ∧ C = 0))
      clear hpl
      by_cases hall : o0 = true ∧ o1 = true ∧ o3 = true ∧ o4 = true
      · obtain ⟨rfl, rfl, rfl, rfl⟩ := hall
        have c0 : wc.cell? ⟨gw, 0, none⟩ = some (.int .i8 x0) := cell_of_row _ _ 0 _ _ _ bW.out
        go_wp2_with fail
        refine HPL.out.mono ?_
        rintro e w9 ⟨rfl, hb9⟩
        have rs_ := HBR.out _ (kTrans K02.out hb9)
        have HB := Lib.hid (HKW.out _ (kTrans K02.out hb9))
        have bW9 := blk_below bW.out hb9
        have l9 := blk_lt bW9
        cases pl with
        | false =>
          obtain ⟨rfl, rfl⟩ := HN.out (fun h => by cases h.2.2.2.2)
          clear HN HY HPL hb9 c0 bW9
          go_wp2_with (refine wpList_store_row rfl 26 _ _ rfl X #[.int .i8 0, .int .i8 0, .int .i8 0, .int .i8 0, .int .i8 0, .int .i8 0] rfl rfl 26 _ rs_ (by kernel_rfl) (by kernel_rfl) (by kernel_rfl) ?_)
          refine bodyPost_ret (v := .tuple #[.agg #[.int .i8 0, .int .i8 0, .int .i8 0, .int .i8 0, .int .i8 0, .int .i8 0], .int .i64 5]) (results_cell_tmp rfl _ _ X 26 #[.int .i8 0, .int .i8 0, .int .i8 0, .int .i8 0, .int .i8 0, .int .i8 0] (0, 0) _ _ rfl rfl (setRow_heap _ _ _ _ _ _ rs_) Tryd.underlying26 rfl (by kernel_rfl)) rfl ?_
          exact ⟨rfl, kRowW HB.out (by have := HX.out; omega) _⟩
        | true =>
          obtain ⟨rfl, rfl⟩ := HY.out (by refine ⟨?_, ?_, ?_, ?_, ?_⟩ <;> trivial)
          have d0 : w9.cell? ⟨gw, 0, none⟩ = some (.int .i8 x0) := cell_of_row _ _ 0 _ _ _ bW9
          have d1 : w9.cell? ⟨gw, 1, none⟩ = some (.int .i8 x1) := cell_of_row _ _ 1 _ _ _ bW9
          have d2 : w9.cell? ⟨gw, 2, none⟩ = some (.int .i8 k1) := cell_of_row _ _ 2 _ _ _ bW9
          have d3 : w9.cell? ⟨gw, 3, none⟩ = some (.int .i8 x3) := cell_of_row _ _ 3 _ _ _ bW9
          have d4 : w9.cell? ⟨gw, 4, none⟩ = some (.int .i8 x4) := cell_of_row _ _ 4 _ _ _ bW9
          have d5 : w9.cell? ⟨gw, 5, none⟩ = some (.int .i8 k2) := cell_of_row _ _ 5 _ _ _ bW9
          clear HN HY HPL hb9 c0 bW9
          go_wp2_with (refine wpList_store_row rfl 26 _ _ rfl X #[.int .i8 x0, .int .i8 x1, .int .i8 k1, .int .i8 x3, .int .i8 x4, .int .i8 k2] rfl rfl 26 _ rs_ (by kernel_rfl) (by kernel_rfl) (by kernel_rfl) ?_)
          refine bodyPost_ret (v := .tuple #[.agg #[.int .i8 x0, .int .i8 x1, .int .i8 k1, .int .i8 x3, .int .i8 x4, .int .i8 k2], .int .i64 0]) (results_cell_tmp rfl _ _ X 26 #[.int .i8 x0, .int .i8 x1, .int .i8 k1, .int .i8 x3, .int .i8 x4, .int .i8 k2] (0, 0) _ _ rfl rfl (setRow_heap _ _ _ _ _ _ rs_) Tryd.underlying26 rfl (by kernel_rfl)) rfl ?_
          exact ⟨rfl, kRowW HB.out (by have := HX.out; omega) _⟩
      · obtain ⟨rfl, rfl⟩ := HN.out (fun h => hall ⟨h.1, h.2.1, h.2.2.1, h.2.2.2.1⟩)
        have rs_ := HBR.out _ K02.out
        have HB := Lib.hid (HKW.out _ K02.out)
        clear HN HY HPL
        by_cases g0 : o0 = true
        · by_cases g1 : o1 = true
          · by_cases g3 : o3 = true
            · have g4 : ¬ o4 = true := fun h => hall ⟨g0, g1, g3, h⟩
              obtain rfl : o4 = false := by simpa using g4
              subst g0 g1 g3
              clear hall g4
              go_wp2_with (refine wpList_store_row rfl 26 _ _ rfl X #[.int .i8 0, .int .i8 0, .int .i8 0, .int .i8 0, .int .i8 0, .int .i8 0] rfl rfl 26 _ rs_ (by kernel_rfl) (by kernel_rfl) (by kernel_rfl) ?_)
              refine bodyPost_ret (v := .tuple #[.agg #[.int .i8 0, .int .i8 0, .int .i8 0, .int .i8 0, .int .i8 0, .int .i8 0], .int .i64 5]) (results_cell_tmp rfl _ _ X 26 #[.int .i8 0, .int .i8 0, .int .i8 0, .int .i8 0, .int .i8 0, .int .i8 0] (0, 0) _ _ rfl rfl (setRow_heap _ _ _ _ _ _ rs_) Tryd.underlying26 rfl (by kernel_rfl)) rfl ?_
              exact ⟨rfl, kRowW HB.out (by have := HX.out; omega) _⟩
            · obtain rfl : o3 = false := by simpa using g3
              subst g0 g1
              clear hall g3
              go_wp2_with (refine wpList_store_row rfl 26 _ _ rfl X #[.int .i8 0, .int .i8 0, .int .i8 0, .int .i8 0, .int .i8 0, .int .i8 0] rfl rfl 26 _ rs_ (by kernel_rfl) (by kernel_rfl) (by kernel_rfl) ?_)
              refine bodyPost_ret (v := .tuple #[.agg #[.int .i8 0, .int .i8 0, .int .i8 0, .int .i8 0, .int .i8 0, .int .i8 0], .int .i64 5]) (results_cell_tmp rfl _ _ X 26 #[.int .i8 0, .int .i8 0, .int .i8 0, .int .i8 0, .int .i8 0, .int .i8 0] (0, 0) _ _ rfl rfl (setRow_heap _ _ _ _ _ _ rs_) Tryd.underlying26 rfl (by kernel_rfl)) rfl ?_
              exact ⟨rfl, kRowW HB.out (by have := HX.out; omega) _⟩
          · obtain rfl : o1 = false := by simpa using g1
            subst g0
            clear hall g1
            go_wp2_with (refine wpList_store_row rfl 26 _ _ rfl X #[.int .i8 0, .int .i8 0, .int .i8 0, .int .i8 0, .int .i8 0, .int .i8 0] rfl rfl 26 _ rs_ (by kernel_rfl) (by kernel_rfl) (by kernel_rfl) ?_)
            refine bodyPost_ret (v := .tuple #[.agg #[.int .i8 0, .int .i8 0, .int .i8 0, .int .i8 0, .int .i8 0, .int .i8 0], .int .i64 5]) (results_cell_tmp rfl _ _ X 26 #[.int .i8 0, .int .i8 0, .int .i8 0, .int .i8 0, .int .i8 0, .int .i8 0] (0, 0) _ _ rfl rfl (setRow_heap _ _ _ _ _ _ rs_) Tryd.underlying26 rfl (by kernel_rfl)) rfl ?_
            exact ⟨rfl, kRowW HB.out (by have := HX.out; omega) _⟩
        · obtain rfl : o0 = false := by simpa using g0
          clear hall g0
          go_wp2_with (refine wpList_store_row rfl 26 _ _ rfl X #[.int .i8 0, .int .i8 0, .int .i8 0, .int .i8 0, .int .i8 0, .int .i8 0] rfl rfl 26 _ rs_ (by kernel_rfl) (by kernel_rfl) (by kernel_rfl) ?_)
          refine bodyPost_ret (v := .tuple #[.agg #[.int .i8 0, .int .i8 0, .int .i8 0, .int .i8 0, .int .i8 0, .int .i8 0], .int .i64 5]) (results_cell_tmp rfl _ _ X 26 #[.int .i8 0, .int .i8 0, .int .i8 0, .int .i8 0, .int .i8 0, .int .i8 0] (0, 0) _ _ rfl rfl (setRow_heap _ _ _ _ _ _ rs_) Tryd.underlying26 rfl (by kernel_rfl)) rfl ?_
          exact ⟨rfl, kRowW HB.out (by have := HX.out; omega) _⟩
  · have hno := HA.out.no (rw_len (by rw [hn]; exact h6))
    obtain ⟨rfl, rfl⟩ := hno
    have e6 : ¬ ((n : Nat) : Int) = 6 := by omega
    have rs_ := HBR.out _ K1.out
    have HB := Lib.hid (HKW.out _ K1.out)
    clear hn HA HL
    go_wp2_with (refine wpList_store_row rfl 26 _ _ rfl X #[.int .i8 0, .int .i8 0, .int .i8 0, .int .i8 0, .int .i8 0, .int .i8 0] rfl rfl 26 _ rs_ (by kernel_rfl) (by kernel_rfl) (by kernel_rfl) ?_)
    refine bodyPost_ret (v := .tuple #[.agg #[.int .i8 0, .int .i8 0, .int .i8 0, .int .i8 0, .int .i8 0, .int .i8 0], .int .i64 5]) (results_cell_tmp rfl _ _ X 26 #[.int .i8 0, .int .i8 0, .int .i8 0, .int .i8 0, .int .i8 0, .int .i8 0] (0, 0) _ _ rfl rfl (setRow_heap _ _ _ _ _ _ rs_) Tryd.underlying26 rfl (by kernel_rfl)) rfl ?_
    exact ⟨rfl, kRowW HB.out (by have := HX.out; omega) _⟩
end Go.Proofs.YtobhppkcgioheaaDoor
