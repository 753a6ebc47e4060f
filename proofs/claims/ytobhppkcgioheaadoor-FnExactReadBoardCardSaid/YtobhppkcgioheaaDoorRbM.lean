/- ReadBoard: the model's piece. -/
import Derived.Test.YtobhppkcgioheaaDoorRb1
import Derived.Deep.DeepCutAuto
namespace Go.Proofs.YtobhppkcgioheaaDoor
open Go.ChangeShapes Go.WideShapes Go.ChangeAt Go.RowKit Go.Joins Go.Deep
set_option linter.unusedVariables false
set_option linter.unusedSimpArgs false

def KdI (s : List UInt8) (j : Nat) (k : Int) : Prop := (k = -1 ∧ ∀ i : Nat, i < j → s ≠ kindWL i) ∨ (∃ i : Nat, i < j ∧ k = i ∧ s = kindWL i)
/-- what the model's reading of a line leaves -/
def RpP (s : List UInt8) (w : World) (e : Ending) (w' : World) : Prop := ∃ p ok, e = .returned (.tuple #[.agg #[.int .i8 p.x, .int .i8 p.y, .int .i8 p.kind, .int .i8 p.turn, .int .i8 p.delay], .bool ok]) ∧ MpQ s p ok ∧ Below w.heap.size w w'
set_option maxRecDepth 100000 in
set_option maxHeartbeats 8000000 in
theorem l01ReadPiece_any (l : List UInt8) (w : World) (hl : l.length ≤ 1048576) :
    Calls Tryd.prog 49 #[.string (bsT l)] w (RpP l w) := by
  obtain ⟨W0, hW⟩ : ∃ W0, w.alloc (.cells #[.int .i8 0, .int .i8 0, .int .i8 0, .int .i8 0, .int .i8 0] 80) = W0 := ⟨_, rfl⟩
  have k0 : Below w.heap.size w W0 := by rw [← hW]; exact kAlloc (Below.refl _ _) _
  have bR : W0.heap[w.heap.size]? = some (.cells #[.int .i8 0, .int .i8 0, .int .i8 0, .int .i8 0, .int .i8 0] 80 (0, 0)) := by rw [← hW]; exact heap_alloc_new _ _
  have lR := blk_lt bR
  obtain ⟨X, hX⟩ : ∃ X, w.heap.size = X := ⟨_, rfl⟩
  rw [hX] at bR lR
  have HBR := Lib.hid (fun W2 (h2 : Below W0.heap.size W0 W2) => blk_below bR h2)
  have HKW := Lib.hid (fun W2 (h2 : Below W0.heap.size W0 W2) => kTrans k0 h2)
  have HSP := Lib.hid (l01Split_any l 32 W0 (by omega) 32 rfl)
  have hXw : w.heap.size ≤ X := by omega
  have HW := Lib.hid hW
  have HX := Lib.hid hX
  clear hW k0 bR hX hl
  go_enter Tryd.func49, Tryd.ntmps49
  go_upto_region 1 with fail
  try rw [HW.out]
  try rw [HX.out]
  clear HW HX
  go_wp2_with fail
  refine HSP.out.mono ?_
  rintro e w1 ⟨g, cap, rfl, hcap, hst, hg, _, hb1⟩
  have K1 := Lib.hid hb1
  have HST := Lib.hid (fun W2 (h2 : Below w1.heap.size w1 W2) => hst.below h2 hg)
  have n1 := hb1.size
  clear HSP hst hb1
  obtain ⟨n, hn⟩ : ∃ n, (spl 32 l).length = n := ⟨_, rfl⟩
  rw [hn] at hcap
  rw [hn]
  by_cases h5 : n = 5
  · subst h5
    obtain ⟨a0, a1, a2, a3, a4, hws⟩ := five hn
    have HWS := Lib.hid hws
    have q0 : w1.cell? ⟨g, 0, none⟩ = some (.string (bsT a0)) := by have h := HST.out w1 (Below.refl _ _) 0 a0 (by rw [hws]; rfl); rwa [Nat.zero_add] at h
    have q1 : w1.cell? ⟨g, 1, none⟩ = some (.string (bsT a1)) := by have h := HST.out w1 (Below.refl _ _) 1 a1 (by rw [hws]; rfl); rwa [Nat.zero_add] at h
    have q2 : w1.cell? ⟨g, 2, none⟩ = some (.string (bsT a2)) := by have h := HST.out w1 (Below.refl _ _) 2 a2 (by rw [hws]; rfl); rwa [Nat.zero_add] at h
    have q3 : w1.cell? ⟨g, 3, none⟩ = some (.string (bsT a3)) := by have h := HST.out w1 (Below.refl _ _) 3 a3 (by rw [hws]; rfl); rwa [Nat.zero_add] at h
    have q4 : w1.cell? ⟨g, 4, none⟩ = some (.string (bsT a4)) := by have h := HST.out w1 (Below.refl _ _) 4 a4 (by rw [hws]; rfl); rwa [Nat.zero_add] at h
    obtain ⟨x0, hx0⟩ : ∃ x, smX a0 = x := ⟨_, rfl⟩
    obtain ⟨o0, ho0⟩ : ∃ x, smB a0 = x := ⟨_, rfl⟩
    have HS0 := Lib.hid (l01Small_any a0 w1 x0 o0 hx0 ho0)
    have HX0 := Lib.hid hx0
    have HO0 := Lib.hid ho0
    have r0 := (smQ_any a0).lo
    have s0 := (smQ_any a0).hi
    rw [hx0] at r0 s0
    clear hx0 ho0
    obtain ⟨x1, hx1⟩ : ∃ x, smX a1 = x := ⟨_, rfl⟩
    obtain ⟨o1, ho1⟩ : ∃ x, smB a1 = x := ⟨_, rfl⟩
    have HS1 := Lib.hid (l01Small_any a1 w1 x1 o1 hx1 ho1)
    have HX1 := Lib.hid hx1
    have HO1 := Lib.hid ho1
    have r1 := (smQ_any a1).lo
    have s1 := (smQ_any a1).hi
    rw [hx1] at r1 s1
    clear hx1 ho1
    obtain ⟨x3, hx3⟩ : ∃ x, smX a3 = x := ⟨_, rfl⟩
    obtain ⟨o3, ho3⟩ : ∃ x, smB a3 = x := ⟨_, rfl⟩
    have HS3 := Lib.hid (l01Small_any a3 w1 x3 o3 hx3 ho3)
    have HX3 := Lib.hid hx3
    have HO3 := Lib.hid ho3
    have r3 := (smQ_any a3).lo
    have s3 := (smQ_any a3).hi
    rw [hx3] at r3 s3
    clear hx3 ho3
    obtain ⟨x4, hx4⟩ : ∃ x, smX a4 = x := ⟨_, rfl⟩
    obtain ⟨o4, ho4⟩ : ∃ x, smB a4 = x := ⟨_, rfl⟩
    have HS4 := Lib.hid (l01Small_any a4 w1 x4 o4 hx4 ho4)
    have HX4 := Lib.hid hx4
    have HO4 := Lib.hid ho4
    have r4 := (smQ_any a4).lo
    have s4 := (smQ_any a4).hi
    rw [hx4] at r4 s4
    clear hx4 ho4
    clear hws hn
    go_wp2_with fail
    refine HS0.out.mono ?_
    rintro e w' ⟨rfl, h⟩
    obtain rfl : w1 = w' := h
    go_wp2_with fail
    refine HS1.out.mono ?_
    rintro e w' ⟨rfl, h⟩
    obtain rfl : w1 = w' := h
    go_wp2_with fail
    refine HS3.out.mono ?_
    rintro e w' ⟨rfl, h⟩
    obtain rfl : w1 = w' := h
    go_wp2_with fail
    refine HS4.out.mono ?_
    rintro e w' ⟨rfl, h⟩
    obtain rfl : w1 = w' := h
    obtain ⟨A2, hA2⟩ : ∃ A, bsT a2 = A := ⟨_, rfl⟩
    rw [hA2] at q2
    have HA2 := Lib.hid hA2
    have Q2 := Lib.hid (fun W2 (h2 : Below w1.heap.size w1 W2) => (h2.cell (p := ⟨g, 2, none⟩) hg).trans q2)
    obtain ⟨w2, hw2⟩ : ∃ z, w1.alloc (.cells #[.int .i8 x0, .int .i8 x1, .int .i8 (-1), .int .i8 x3, .int .i8 x4] 80) = z := ⟨_, rfl⟩
    have k2 : Below w1.heap.size w1 w2 := by rw [← hw2]; exact kAlloc (Below.refl _ _) _
    have b2 : w2.heap[w1.heap.size]? = some (.cells #[.int .i8 x0, .int .i8 x1, .int .i8 (-1), .int .i8 x3, .int .i8 x4] 80 (0, 0)) := by rw [← hw2]; exact heap_alloc_new _ _
    obtain ⟨G, hG⟩ : ∃ G, w1.heap.size = G := ⟨_, rfl⟩
    have hG1 : w1.heap.size ≤ G := by omega
    rw [hG] at b2
    have HG0 := Lib.hid b2
    have HK0 := Lib.hid k2
    have HKD := Lib.hid (show KdI a2 0 (-1) from .inl ⟨rfl, fun i h => by omega⟩)
    have Hw2 := Lib.hid hw2
    have HG := Lib.hid hG
    clear hA2 b2 k2 hw2 hG q0 q1 q2 q3 q4
    go_upto_region 9 with fail
    try rw [Hw2.out]
    try rw [HG.out]
    clear Hw2 HG
    go_wp2
    go_loopw [14] (fun vi wr => ∃ (j : Nat) (kk : Int), j ≤ 6 ∧ vi = .int .i64 j ∧ Hid (KdI a2 j kk) ∧ Hid (wr.heap[G]? = some (.cells #[.int .i8 x0, .int .i8 x1, .int .i8 kk, .int .i8 x3, .int .i8 x4] 80 (0, 0))) ∧ Hid (Below w1.heap.size w1 wr)) (fun vi _ => 6 - (intOf vi).toNat)
    case atStart => exact ⟨0, -1, by omega, rfl, HKD, HG0, HK0⟩
    case round =>
      clear HKD HG0 HK0
      obtain ⟨j, kk, hj, rfl, HKD, HGK, hB⟩ := hrel
      by_cases hlt : j < 6
      · have hjZ : (j : Int) < 6 := by omega
        have hgr := Nat.lt_of_lt_of_le hg hB.out.size
        obtain ⟨V, hV⟩ : ∃ V, bsT (kindWL (j : Int)) = V := ⟨_, rfl⟩
        have HVV := Lib.hid hV
        by_cases he : a2 = kindWL j
        · have e2 : V.toList = A2.toList := by rw [← hV, ← HA2.out, toL_bsT, toL_bsT, he]
          have e1 : (V.toList == A2.toList) = true := by rw [e2]; exact beq_self_eq_true _
          have wj : IntKind.i8.wrap (j : Int) = j := IntWalk.i8_in _ (by omega)
          have HN := Lib.hid (show KdI a2 (j + 1) j from .inr ⟨j, by omega, rfl, he⟩)
          clear he hV HKD
          go_upto_region 12 with fail
          refine regionW_of_HR (fun W' => Below wr.heap.size wr W') (by kernel_rfl) (Below.drew (Below.refl _ _)) (fun hHeld => ?_)
          have K0 := Lib.hid hHeld
          clear hHeld
          obtain ⟨xt0, hxt0⟩ : ∃ z, wr.drew = z := ⟨_, rfl⟩
          rw [hxt0] at K0 ⊢
          clear hxt0
          have hS_ : Below wr.heap.size wr xt0 := K0.out
          refine wpAnyH_take (i := 1) (v := .int .i64 j) rfl (by kernel_rfl) (by kernel_rfl) (by kernel_rfl) (fun _ _ _ h => absurd h.1 (by simp)) (Or.inl ⟨by rfl, fun w7 hSw => ?_⟩) (by assumption) ?_
          · clear hSw
            go_simp
          simp only [Act.put, List.getElem_toArray, List.getElem_cons_zero, List.getElem_cons_succ, List.setIfInBounds_toArray, List.set_cons_zero, List.set_cons_succ]
          refine wpAnyH_take (i := 4) (v := .slice (some ⟨g, 0, none⟩) 5 cap) rfl (by kernel_rfl) (by kernel_rfl) (by kernel_rfl) (fun _ _ _ h => absurd h.1 (by simp)) (Or.inl ⟨by rfl, fun w7 hSw => ?_⟩) (by assumption) ?_
          · clear hSw
            go_simp
          simp only [Act.put, List.getElem_toArray, List.getElem_cons_zero, List.getElem_cons_succ, List.setIfInBounds_toArray, List.set_cons_zero, List.set_cons_succ]
          refine wpAnyH_take (i := 5) (v := .pointer (some ⟨g, 2, none⟩)) rfl (by kernel_rfl) (by kernel_rfl) (by kernel_rfl) (fun _ _ _ h => absurd h.1 (by simp)) (Or.inl ⟨by rfl, fun w7 hSw => ?_⟩) (by assumption) ?_
          · clear hSw
            go_simp
          simp only [Act.put, List.getElem_toArray, List.getElem_cons_zero, List.getElem_cons_succ, List.setIfInBounds_toArray, List.set_cons_zero, List.set_cons_succ]
          refine wpAnyH_take (i := 6) (v := .string A2) rfl (by kernel_rfl) (by kernel_rfl) (by kernel_rfl) (fun _ _ _ h => absurd h.1 (by simp)) (Or.inl ⟨by rfl, fun w7 hSw => ?_⟩) (by assumption) ?_
          · have q7 := Q2.out _ (kTrans hB.out hSw)
            have lq7 := Nat.lt_of_lt_of_le hgr hSw.size
            clear hSw
            go_simp
          simp only [Act.put, List.getElem_toArray, List.getElem_cons_zero, List.getElem_cons_succ, List.setIfInBounds_toArray, List.set_cons_zero, List.set_cons_succ]
          clear hS_
          refine wpAnyH_ready (rs := [0]) (by kernel_rfl) (by simp) ?_
          refine AllReadyH.cons rfl (fun K hK => ?_) AllReadyH.nil
          go_simp
          go_at_call 100
          refine (l01Words_any xt0).mono ?_
          rintro e xt1 ⟨g6, rfl, hw6, hb6⟩
          have K1x := Lib.hid (kTrans K0.out hb6)
          have cw := hw6.1 j (by omega)
          have lw := hw6.2
          rw [HVV.out] at cw
          refine hK.out _ _ K1x.out (fun _ => ?_)
          clear hK K hw6 hb6
          have hS_ : Below wr.heap.size wr xt1 := K1x.out
          refine wpAnyH_take (i := 2) (v := .pointer (some ⟨g6, j, none⟩)) rfl (by kernel_rfl) (by kernel_rfl) (by kernel_rfl) (fun _ _ _ h => absurd h.1 (by simp)) (Or.inl ⟨by rfl, fun w7 hSw => ?_⟩) (by assumption) ?_
          · clear hSw
            go_simp
          simp only [Act.put, List.getElem_toArray, List.getElem_cons_zero, List.getElem_cons_succ, List.setIfInBounds_toArray, List.set_cons_zero, List.set_cons_succ]
          clear hS_
          refine wpAnyH_ready (rs := [3]) (by kernel_rfl) (by simp) ?_
          refine AllReadyH.cons rfl (fun K hK => ?_) AllReadyH.nil
          go_simp
          refine hK.out _ _ K1x.out (fun _ => ?_)
          clear hK K cw lw
          refine wpAnyH_ready (rs := [7]) (by kernel_rfl) (by simp) ?_
          refine AllReadyH.cons rfl (fun K hK => ?_) AllReadyH.nil
          go_simp
          refine hK.out _ _ K1x.out (fun _ => ?_)
          clear hK K
          refine wpAnyH_done (by kernel_rfl) ?_ _
          refine ⟨rfl, ?_⟩
          have bG := blk_below HGK.out K1x.out
          have c2 : xt1.cell? ⟨G, 2, none⟩ = some (.int .i8 kk) := cell_of_row _ _ 2 _ _ _ bG
          have y2 : xt1.frozen? ⟨G, 2, none⟩ = false := frozen_of_row _ _ 2 _ _ bG
          have lG := blk_lt bG
          have HGN := Lib.hid (blk_set_same' (i := 2) (v := .int .i8 (j : Int)) bG)
          have HBN := Lib.hid (kSet (p := ⟨G, 2, none⟩) (kTrans hB.out K1x.out) hG1 (.int .i8 (j : Int)))
          clear bG HGK hB
          go_wp2
          exact ⟨⟨j + 1, j, by omega, by go_num, HN, HGN, HBN⟩, by simp [intOf]; omega⟩
        · have e2 : ¬ V.toList = A2.toList := by rw [← hV, ← HA2.out, toL_bsT, toL_bsT]; exact fun h => he h.symm
          have e1 : (V.toList == A2.toList) = false := beq_eq_false_iff_ne.2 e2
          have HN := Lib.hid (show KdI a2 (j + 1) kk from by
            rcases HKD.out with ⟨h1, h2⟩ | ⟨i, h1, h2, h3⟩
            · exact .inl ⟨h1, fun i hi => by
                by_cases h : i = j
                · rw [h]; exact he
                · exact h2 i (by omega)⟩
            · exact .inr ⟨i, by omega, h2, h3⟩)
          clear he hV HKD
          go_upto_region 12 with fail
          refine regionW_of_HR (fun W' => Below wr.heap.size wr W') (by kernel_rfl) (Below.drew (Below.refl _ _)) (fun hHeld => ?_)
          have K0 := Lib.hid hHeld
          clear hHeld
          obtain ⟨xt0, hxt0⟩ : ∃ z, wr.drew = z := ⟨_, rfl⟩
          rw [hxt0] at K0 ⊢
          clear hxt0
          have hS_ : Below wr.heap.size wr xt0 := K0.out
          refine wpAnyH_take (i := 1) (v := .int .i64 j) rfl (by kernel_rfl) (by kernel_rfl) (by kernel_rfl) (fun _ _ _ h => absurd h.1 (by simp)) (Or.inl ⟨by rfl, fun w7 hSw => ?_⟩) (by assumption) ?_
          · clear hSw
            go_simp
          simp only [Act.put, List.getElem_toArray, List.getElem_cons_zero, List.getElem_cons_succ, List.setIfInBounds_toArray, List.set_cons_zero, List.set_cons_succ]
          refine wpAnyH_take (i := 4) (v := .slice (some ⟨g, 0, none⟩) 5 cap) rfl (by kernel_rfl) (by kernel_rfl) (by kernel_rfl) (fun _ _ _ h => absurd h.1 (by simp)) (Or.inl ⟨by rfl, fun w7 hSw => ?_⟩) (by assumption) ?_
          · clear hSw
            go_simp
          simp only [Act.put, List.getElem_toArray, List.getElem_cons_zero, List.getElem_cons_succ, List.setIfInBounds_toArray, List.set_cons_zero, List.set_cons_succ]
          refine wpAnyH_take (i := 5) (v := .pointer (some ⟨g, 2, none⟩)) rfl (by kernel_rfl) (by kernel_rfl) (by kernel_rfl) (fun _ _ _ h => absurd h.1 (by simp)) (Or.inl ⟨by rfl, fun w7 hSw => ?_⟩) (by assumption) ?_
          · clear hSw
            go_simp
          simp only [Act.put, List.getElem_toArray, List.getElem_cons_zero, List.getElem_cons_succ, List.setIfInBounds_toArray, List.set_cons_zero, List.set_cons_succ]
          refine wpAnyH_take (i := 6) (v := .string A2) rfl (by kernel_rfl) (by kernel_rfl) (by kernel_rfl) (fun _ _ _ h => absurd h.1 (by simp)) (Or.inl ⟨by rfl, fun w7 hSw => ?_⟩) (by assumption) ?_
          · have q7 := Q2.out _ (kTrans hB.out hSw)
            have lq7 := Nat.lt_of_lt_of_le hgr hSw.size
            clear hSw
            go_simp
          simp only [Act.put, List.getElem_toArray, List.getElem_cons_zero, List.getElem_cons_succ, List.setIfInBounds_toArray, List.set_cons_zero, List.set_cons_succ]
          clear hS_
          refine wpAnyH_ready (rs := [0]) (by kernel_rfl) (by simp) ?_
          refine AllReadyH.cons rfl (fun K hK => ?_) AllReadyH.nil
          go_simp
          go_at_call 100
          refine (l01Words_any xt0).mono ?_
          rintro e xt1 ⟨g6, rfl, hw6, hb6⟩
          have K1x := Lib.hid (kTrans K0.out hb6)
          have cw := hw6.1 j (by omega)
          have lw := hw6.2
          rw [HVV.out] at cw
          refine hK.out _ _ K1x.out (fun _ => ?_)
          clear hK K hw6 hb6
          have hS_ : Below wr.heap.size wr xt1 := K1x.out
          refine wpAnyH_take (i := 2) (v := .pointer (some ⟨g6, j, none⟩)) rfl (by kernel_rfl) (by kernel_rfl) (by kernel_rfl) (fun _ _ _ h => absurd h.1 (by simp)) (Or.inl ⟨by rfl, fun w7 hSw => ?_⟩) (by assumption) ?_
          · clear hSw
            go_simp
          simp only [Act.put, List.getElem_toArray, List.getElem_cons_zero, List.getElem_cons_succ, List.setIfInBounds_toArray, List.set_cons_zero, List.set_cons_succ]
          clear hS_
          refine wpAnyH_ready (rs := [3]) (by kernel_rfl) (by simp) ?_
          refine AllReadyH.cons rfl (fun K hK => ?_) AllReadyH.nil
          go_simp
          refine hK.out _ _ K1x.out (fun _ => ?_)
          clear hK K cw lw
          refine wpAnyH_ready (rs := [7]) (by kernel_rfl) (by simp) ?_
          refine AllReadyH.cons rfl (fun K hK => ?_) AllReadyH.nil
          go_simp
          refine hK.out _ _ K1x.out (fun _ => ?_)
          clear hK K
          refine wpAnyH_done (by kernel_rfl) ?_ _
          refine ⟨rfl, ?_⟩
          have HGN := Lib.hid (blk_below HGK.out K1x.out)
          have HBN := Lib.hid (kTrans hB.out K1x.out)
          clear HGK hB
          go_wp2
          exact ⟨⟨j + 1, kk, by omega, by go_num, HN, HGN, HBN⟩, by simp [intOf]; omega⟩
      · obtain rfl : j = 6 := by omega
        have HWD := Lib.hid (show WdQ kindWL 6 a2 kk from by
          rcases HKD.out with ⟨h1, h2⟩ | ⟨i, h1, h2, h3⟩
          · exact ⟨by omega, fun h => by omega, fun _ => h2⟩
          · exact ⟨by omega, fun _ => by rw [h2]; exact h3, fun h => by omega⟩)
        have HQ := Lib.hid (by have h := mp_five HWS.out HWD.out; rw [HX0.out, HX1.out, HX3.out, HX4.out, HO0.out, HO1.out, HO3.out, HO4.out] at h; exact h)
        have bG := HGK.out
        have d0 : wr.cell? ⟨G, 0, none⟩ = some (.int .i8 x0) := cell_of_row _ _ 0 _ _ _ bG
        have d1 : wr.cell? ⟨G, 1, none⟩ = some (.int .i8 x1) := cell_of_row _ _ 1 _ _ _ bG
        have d2 : wr.cell? ⟨G, 2, none⟩ = some (.int .i8 kk) := cell_of_row _ _ 2 _ _ _ bG
        have d3 : wr.cell? ⟨G, 3, none⟩ = some (.int .i8 x3) := cell_of_row _ _ 3 _ _ _ bG
        have d4 : wr.cell? ⟨G, 4, none⟩ = some (.int .i8 x4) := cell_of_row _ _ 4 _ _ _ bG
        have lG := blk_lt bG
        have KK := Lib.hid (kTrans K1.out hB.out)
        have rs_ := HBR.out _ KK.out
        have HB := Lib.hid (HKW.out _ KK.out)
        clear HKD HGK bG hB HWD HX0 HX1 HX3 HX4 HO0 HO1 HO3 HO4 HS0 HS1 HS3 HS4 HWS
        cases o0 with
        | false =>
          go_wp2_with (refine wpList_store_row rfl 80 _ _ rfl X #[.int .i8 x0, .int .i8 x1, .int .i8 kk, .int .i8 x3, .int .i8 x4] rfl rfl 80 _ rs_ (by kernel_rfl) (by kernel_rfl) (by kernel_rfl) ?_)
          refine bodyPost_ret (v := .tuple #[.agg #[.int .i8 x0, .int .i8 x1, .int .i8 kk, .int .i8 x3, .int .i8 x4], .bool false]) (results_cell_tmp rfl _ _ X 80 #[.int .i8 x0, .int .i8 x1, .int .i8 kk, .int .i8 x3, .int .i8 x4] (0, 0) _ _ rfl rfl (setRow_heap _ _ _ _ _ _ rs_) Tryd.underlying80 rfl (by kernel_rfl)) rfl ?_
          exact ⟨_, _, rfl, HQ.out, kRowW HB.out hXw _⟩
        | true =>
          cases o1 with
          | false =>
            go_wp2_with (refine wpList_store_row rfl 80 _ _ rfl X #[.int .i8 x0, .int .i8 x1, .int .i8 kk, .int .i8 x3, .int .i8 x4] rfl rfl 80 _ rs_ (by kernel_rfl) (by kernel_rfl) (by kernel_rfl) ?_)
            refine bodyPost_ret (v := .tuple #[.agg #[.int .i8 x0, .int .i8 x1, .int .i8 kk, .int .i8 x3, .int .i8 x4], .bool false]) (results_cell_tmp rfl _ _ X 80 #[.int .i8 x0, .int .i8 x1, .int .i8 kk, .int .i8 x3, .int .i8 x4] (0, 0) _ _ rfl rfl (setRow_heap _ _ _ _ _ _ rs_) Tryd.underlying80 rfl (by kernel_rfl)) rfl ?_
            exact ⟨_, _, rfl, HQ.out, kRowW HB.out hXw _⟩
          | true =>
            cases o3 with
            | false =>
              go_wp2_with (refine wpList_store_row rfl 80 _ _ rfl X #[.int .i8 x0, .int .i8 x1, .int .i8 kk, .int .i8 x3, .int .i8 x4] rfl rfl 80 _ rs_ (by kernel_rfl) (by kernel_rfl) (by kernel_rfl) ?_)
              refine bodyPost_ret (v := .tuple #[.agg #[.int .i8 x0, .int .i8 x1, .int .i8 kk, .int .i8 x3, .int .i8 x4], .bool false]) (results_cell_tmp rfl _ _ X 80 #[.int .i8 x0, .int .i8 x1, .int .i8 kk, .int .i8 x3, .int .i8 x4] (0, 0) _ _ rfl rfl (setRow_heap _ _ _ _ _ _ rs_) Tryd.underlying80 rfl (by kernel_rfl)) rfl ?_
              exact ⟨_, _, rfl, HQ.out, kRowW HB.out hXw _⟩
            | true =>
              cases o4 with
              | false =>
                go_wp2_with (refine wpList_store_row rfl 80 _ _ rfl X #[.int .i8 x0, .int .i8 x1, .int .i8 kk, .int .i8 x3, .int .i8 x4] rfl rfl 80 _ rs_ (by kernel_rfl) (by kernel_rfl) (by kernel_rfl) ?_)
                refine bodyPost_ret (v := .tuple #[.agg #[.int .i8 x0, .int .i8 x1, .int .i8 kk, .int .i8 x3, .int .i8 x4], .bool false]) (results_cell_tmp rfl _ _ X 80 #[.int .i8 x0, .int .i8 x1, .int .i8 kk, .int .i8 x3, .int .i8 x4] (0, 0) _ _ rfl rfl (setRow_heap _ _ _ _ _ _ rs_) Tryd.underlying80 rfl (by kernel_rfl)) rfl ?_
                exact ⟨_, _, rfl, HQ.out, kRowW HB.out hXw _⟩
              | true =>
                go_wp2_with (refine wpList_store_row rfl 80 _ _ rfl X #[.int .i8 x0, .int .i8 x1, .int .i8 kk, .int .i8 x3, .int .i8 x4] rfl rfl 80 _ rs_ (by kernel_rfl) (by kernel_rfl) (by kernel_rfl) ?_)
                refine bodyPost_ret (v := .tuple #[.agg #[.int .i8 x0, .int .i8 x1, .int .i8 kk, .int .i8 x3, .int .i8 x4], .bool true]) (results_cell_tmp rfl _ _ X 80 #[.int .i8 x0, .int .i8 x1, .int .i8 kk, .int .i8 x3, .int .i8 x4] (0, 0) _ _ rfl rfl (setRow_heap _ _ _ _ _ _ rs_) Tryd.underlying80 rfl (by kernel_rfl)) rfl ?_
                exact ⟨_, _, rfl, HQ.out, kRowW HB.out hXw _⟩
  · have HF := Lib.hid (mp_len (s := l) (by rw [hn]; exact h5))
    have e6 : ¬ ((n : Nat) : Int) = 5 := by omega
    have rs_ := HBR.out _ K1.out
    have HB := Lib.hid (HKW.out _ K1.out)
    clear hn
    go_wp2_with (refine wpList_store_row rfl 80 _ _ rfl X #[.int .i8 0, .int .i8 0, .int .i8 0, .int .i8 0, .int .i8 0] rfl rfl 80 _ rs_ (by kernel_rfl) (by kernel_rfl) (by kernel_rfl) ?_)
    refine bodyPost_ret (v := .tuple #[.agg #[.int .i8 0, .int .i8 0, .int .i8 0, .int .i8 0, .int .i8 0], .bool false]) (results_cell_tmp rfl _ _ X 80 #[.int .i8 0, .int .i8 0, .int .i8 0, .int .i8 0, .int .i8 0] (0, 0) _ _ rfl rfl (setRow_heap _ _ _ _ _ _ rs_) Tryd.underlying80 rfl (by kernel_rfl)) rfl ?_
    exact ⟨pcZ, false, rfl, HF.out, kRowW HB.out hXw _⟩
end Go.Proofs.YtobhppkcgioheaaDoor
