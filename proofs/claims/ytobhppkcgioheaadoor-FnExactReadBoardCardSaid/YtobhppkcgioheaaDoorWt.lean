/- WayText: both sides. -/
import Derived.Test.YtobhppkcgioheaaDoorTx2
import Derived.Test.YtobhppkcgioheaaDoorTw
import Derived.Test.YtobhppkcgioheaaDoorVw
import Derived.StillTailTactics
namespace Go.Proofs.YtobhppkcgioheaaDoor
open Go.ChangeShapes Go.WideShapes Go.ChangeAt Go.RowKit Go.Joins Go.Deep
set_option linter.unusedVariables false
set_option linter.unusedSimpArgs false

def wyPlain (p : Wy) : Bool := decide (0 ≤ p.fx ∧ p.fx ≤ 23 ∧ 0 ≤ p.fy ∧ p.fy ≤ 23) && decide (0 ≤ p.tx ∧ p.tx ≤ 23 ∧ 0 ≤ p.ty ∧ p.ty ≤ 23) && decide (0 ≤ p.sd ∧ p.sd ≤ 3) && decide (0 ≤ p.ot ∧ p.ot ≤ 3)
def wyL (p : Wy) : List UInt8 := Lib.join [decL p.fx, decL p.fy, sideWL p.sd, decL p.tx, decL p.ty, sideWL p.ot] [32]
def wyQ (p : Wy) : List UInt8 := if wyPlain p = true then wyL p else []
set_option maxRecDepth 100000 in
set_option maxHeartbeats 8000000 in
theorem implWayText_any (fx fy sd tx ty ot : Int) (w : World) (h8 : Wy.in8 ⟨fx, fy, sd, tx, ty, ot⟩) (S : ByteArray) (hS : bsT (wyQ ⟨fx, fy, sd, tx, ty, ot⟩) = S) (hst : SideAt w) :
    Calls Tryd.prog 47 #[.agg #[.int .i8 fx, .int .i8 fy, .int .i8 sd, .int .i8 tx, .int .i8 ty, .int .i8 ot]] w fun e w' => e = .returned (.string S) ∧ Below w.heap.size w w' := by
  obtain ⟨W0, hW⟩ : ∃ W0, (w.alloc (.cells #[.int .i8 fx, .int .i8 fy, .int .i8 sd, .int .i8 tx, .int .i8 ty, .int .i8 ot] 26)).alloc (.cells #[.int .i8 24, .int .i8 24] 156) = W0 := ⟨_, rfl⟩
  have k0 : Below w.heap.size w W0 := by rw [← hW]; exact kAlloc (kAlloc (Below.refl _ _) _) _
  have bX : W0.heap[w.heap.size]? = some (.cells #[.int .i8 fx, .int .i8 fy, .int .i8 sd, .int .i8 tx, .int .i8 ty, .int .i8 ot] 26 (0, 0)) := by rw [← hW]; exact (Below.heap_alloc _ _ _ (by simp)).trans (heap_alloc_new _ _)
  have bY : W0.heap[w.heap.size + 1]? = some (.cells #[.int .i8 24, .int .i8 24] 156 (0, 0)) := by rw [← hW]; exact heap_two _ _ _
  have hwl := blk_lt bX
  have hsl := blk_lt bY
  have HWY := Lib.hid (fun W2 (h2 : Below W0.heap.size W0 W2) => (WyAt.of (p := ⟨fx, fy, sd, tx, ty, ot⟩) bX).below h2 hwl)
  have HSZ := Lib.hid (fun W2 (h2 : Below W0.heap.size W0 W2) => (show W2.cell? ⟨w.heap.size + 1, 0, none⟩ = some (.int .i8 24) ∧ W2.cell? ⟨w.heap.size + 1, 1, none⟩ = some (.int .i8 24) from ⟨cell_of_row _ _ 0 _ _ _ (blkX bY h2), cell_of_row _ _ 1 _ _ _ (blkX bY h2)⟩))
  have HST := Lib.hid (fun W2 (h2 : Below W0.heap.size W0 W2) => hst.below (kTrans k0 h2))
  have HK0 := Lib.hid k0
  have HW := Lib.hid hW
  have HS := Lib.hid hS
  have HKs := Lib.hid (Below.refl W0.heap.size W0)
  obtain ⟨r1, h1⟩ : ∃ r, r = decide (0 ≤ fx ∧ fx < 24 ∧ 0 ≤ fy ∧ fy < 24) := ⟨_, rfl⟩
  obtain ⟨r2, h2⟩ : ∃ r, r = decide (0 ≤ tx ∧ tx < 24 ∧ 0 ≤ ty ∧ ty < 24) := ⟨_, rfl⟩
  obtain ⟨r3, h3⟩ : ∃ r, r = decide (0 ≤ sd ∧ sd ≤ 3) := ⟨_, rfl⟩
  obtain ⟨r4, h4⟩ : ∃ r, r = decide (0 ≤ ot ∧ ot ≤ 3) := ⟨_, rfl⟩
  have d1 : -128 ≤ sd ∧ sd ≤ 127 := h8.2.2.1
  have d2 : -128 ≤ ot ∧ ot ≤ 127 := h8.2.2.2.2.2
  have iw1 : IntKind.i64.wrap sd = sd := IntWalk.i64_in _ (by omega)
  have iw2 : IntKind.i64.wrap ot = ot := IntWalk.i64_in _ (by omega)
  have HQ := Lib.hid (show wyPlain ⟨fx, fy, sd, tx, ty, ot⟩ = (r1 && r2 && r3 && r4) by
    rw [h1, h2, h3, h4, Bool.eq_iff_iff]
    simp only [wyPlain, Bool.and_eq_true, decide_eq_true_eq]
    omega)
  have H1 := Lib.hid h1
  have H2 := Lib.hid h2
  have H3 := Lib.hid h3
  have H4 := Lib.hid h4
  clear hst hW bX bY k0 hS h1 h2 h3 h4
  go_enter Tryd.func47, Tryd.ntmps47
  go_upto_region 2 with fail
  try rw [HW.out]
  clear HW
  obtain ⟨c0, c1, c2, c3, c4, c5⟩ := HWY.out _ HKs.out
  have lw := Nat.lt_of_lt_of_le hwl (Below.size HKs.out)
  obtain ⟨s0, s1⟩ := HSZ.out _ HKs.out
  have ls := Nat.lt_of_lt_of_le hsl (Below.size HKs.out)
  go_wp2_with fail
  refine (holds_any fx fy 24 24 _ h8.1 h8.2.1 (by unfold i8; omega) (by unfold i8; omega) r1 H1.out).mono ?_
  rintro e w_0 ⟨rfl, hb_0⟩
  have HK_0 := Lib.hid (kTrans HKs.out hb_0)
  clear hb_0
  clear c0 c1 c2 c3 c4 c5 lw s0 s1 ls
  cases r1 with
  | false =>
    obtain rfl : (⟨#[]⟩ : ByteArray) = S := by rw [← HS.out]; unfold wyQ; rw [if_neg (by rw [HQ.out]; simp)]; rfl
    clear HS HQ
    go_wp2
    go_ret
    exact ⟨rfl, kTrans HK0.out HK_0.out⟩
  | true =>
    obtain ⟨c0, c1, c2, c3, c4, c5⟩ := HWY.out _ HK_0.out
    have lw := Nat.lt_of_lt_of_le hwl (Below.size HK_0.out)
    obtain ⟨s0, s1⟩ := HSZ.out _ HK_0.out
    have ls := Nat.lt_of_lt_of_le hsl (Below.size HK_0.out)
    go_wp2_with fail
    refine (holds_any tx ty 24 24 _ h8.2.2.2.1 h8.2.2.2.2.1 (by unfold i8; omega) (by unfold i8; omega) r2 H2.out).mono ?_
    rintro e w_1 ⟨rfl, hb_1⟩
    have HK_1 := Lib.hid (kTrans HK_0.out hb_1)
    clear hb_1
    clear c0 c1 c2 c3 c4 c5 lw s0 s1 ls
    cases r2 with
    | false =>
      obtain rfl : (⟨#[]⟩ : ByteArray) = S := by rw [← HS.out]; unfold wyQ; rw [if_neg (by rw [HQ.out]; simp)]; rfl
      clear HS HQ
      go_wp2
      go_ret
      exact ⟨rfl, kTrans HK0.out HK_1.out⟩
    | true =>
      obtain ⟨c0, c1, c2, c3, c4, c5⟩ := HWY.out _ HK_1.out
      have lw := Nat.lt_of_lt_of_le hwl (Below.size HK_1.out)
      obtain ⟨s0, s1⟩ := HSZ.out _ HK_1.out
      have ls := Nat.lt_of_lt_of_le hsl (Below.size HK_1.out)
      go_wp2_with fail
      refine (isSide_any sd _ r3 H3.out).mono ?_
      rintro e w_2 ⟨rfl, h_2⟩
      subst h_2
      clear c0 c1 c2 c3 c4 c5 lw s0 s1 ls
      cases r3 with
      | false =>
        obtain rfl : (⟨#[]⟩ : ByteArray) = S := by rw [← HS.out]; unfold wyQ; rw [if_neg (by rw [HQ.out]; simp)]; rfl
        clear HS HQ
        go_wp2
        go_ret
        exact ⟨rfl, kTrans HK0.out HK_1.out⟩
      | true =>
        obtain ⟨c0, c1, c2, c3, c4, c5⟩ := HWY.out _ HK_1.out
        have lw := Nat.lt_of_lt_of_le hwl (Below.size HK_1.out)
        obtain ⟨s0, s1⟩ := HSZ.out _ HK_1.out
        have ls := Nat.lt_of_lt_of_le hsl (Below.size HK_1.out)
        go_wp2_with fail
        refine (isSide_any ot _ r4 H4.out).mono ?_
        rintro e w_3 ⟨rfl, h_3⟩
        subst h_3
        clear c0 c1 c2 c3 c4 c5 lw s0 s1 ls
        cases r4 with
        | false =>
          obtain rfl : (⟨#[]⟩ : ByteArray) = S := by rw [← HS.out]; unfold wyQ; rw [if_neg (by rw [HQ.out]; simp)]; rfl
          clear HS HQ
          go_wp2
          go_ret
          exact ⟨rfl, kTrans HK0.out HK_1.out⟩
        | true =>
          have HS2 := Lib.hid (show bsT (wyL ⟨fx, fy, sd, tx, ty, ot⟩) = S by rw [← HS.out]; unfold wyQ; rw [if_pos (by rw [HQ.out]; rfl)])
          have e1 := of_decide_eq_true H1.out.symm
          have e2 := of_decide_eq_true H2.out.symm
          have e3 := of_decide_eq_true H3.out.symm
          have e4 := of_decide_eq_true H4.out.symm
          obtain ⟨sn, rfl⟩ : ∃ sn : Nat, sd = sn := ⟨sd.toNat, by omega⟩
          obtain ⟨on, rfl⟩ : ∃ on : Nat, ot = on := ⟨ot.toNat, by omega⟩
          have hs4 : sn < 4 := by omega
          have ho4 : on < 4 := by omega
          have hs40 : (sn : Int) < 4 := by omega
          have ho40 : (on : Int) < 4 := by omega
          have A0 := Lib.hid (fun W => smallText_any fx W (by omega) (by omega))
          have A1 := Lib.hid (fun W => smallText_any fy W (by omega) (by omega))
          have A2 := Lib.hid (fun W => smallText_any tx W (by omega) (by omega))
          have A3 := Lib.hid (fun W => smallText_any ty W (by omega) (by omega))
          have hlen : (Lib.join [decL fx, decL fy, sideWL (sn : Int), decL tx, decL ty, sideWL (on : Int)] [32]).length ≤ 36 := by
            have h := join_len 5 [decL fx, decL fy, sideWL (sn : Int), decL tx, decL ty, sideWL (on : Int)] (fun x hx => by
              simp only [List.mem_cons, List.not_mem_nil, or_false] at hx
              rcases hx with rfl | rfl | rfl | rfl | rfl | rfl
              · have := decL_len2 (n := fx) (by omega); omega
              · have := decL_len2 (n := fy) (by omega); omega
              · exact sideWL_len _
              · have := decL_len2 (n := tx) (by omega); omega
              · have := decL_len2 (n := ty) (by omega); omega
              · exact sideWL_len _)
            simpa using h
          clear e1 e2 e3 e4 HS HQ H1 H2 H3 H4
          obtain ⟨c0, c1, c2, c3, c4, c5⟩ := HWY.out _ HK_1.out
          simp only at c0 c1 c2 c3 c4 c5
          have lw := Nat.lt_of_lt_of_le hwl (Below.size HK_1.out)
          have hst := HST.out _ HK_1.out
          have g0 := hst.1 sn hs4
          have g1 := hst.1 on ho4
          have lg := hst.2
          have HKK := HK_1
          go_upto_region 4 with fail
          refine wp_region_still_tail 24 (by kernel_rfl) (by kernel_rfl) ?_
          simp only [List.take_succ_cons, List.take_zero, List.drop_succ_cons, List.drop_zero]
          repeat still_step
          still_call (A0.out _)
          repeat still_step
          still_call (A1.out _)
          repeat still_step
          still_call (A2.out _)
          repeat still_step
          still_call (A3.out _)
          repeat still_step
          try refine wpStill_nil ?_
          change wpList _ _ _ _ _ w_1.drew
          have HK3 := Lib.hid (show Below W0.heap.size W0 w_1.drew from Below.drew HKK.out)
          clear c0 c1 c2 c3 c4 c5 lw hst g0 g1 lg HKK A0 A1 A2 A3
          generalize w_1.drew = w3 at HK3 ⊢
          obtain ⟨w4, hw4⟩ : ∃ z, w3.alloc (.cells #[.string (bsT (decL fx)), .string (bsT (decL fy)), .string (bsT (sideWL (sn : Int))), .string (bsT (decL tx)), .string (bsT (decL ty)), .string (bsT (sideWL (on : Int)))] 9) = z := ⟨_, rfl⟩
          have k4 : Below w3.heap.size w3 w4 := by rw [← hw4]; exact kAlloc (Below.refl _ _) _
          have b4 : w4.heap[w3.heap.size]? = some (.cells #[.string (bsT (decL fx)), .string (bsT (decL fy)), .string (bsT (sideWL (sn : Int))), .string (bsT (decL tx)), .string (bsT (decL ty)), .string (bsT (sideWL (on : Int)))] 9 (0, 0)) := by rw [← hw4]; exact nNewX _ _
          have hj := strings_Join w3.heap.size 0 6 [bsT (decL fx), bsT (decL fy), bsT (sideWL (sn : Int)), bsT (decL tx), bsT (decL ty), bsT (sideWL (on : Int))] (bsT [32]) w4 (fun j x hx => by
            rw [Nat.zero_add, cell_of_row w4 _ j _ _ _ b4]
            match j, hx with
            | 0, hx => simp at hx; subst hx; rfl
            | 1, hx => simp at hx; subst hx; rfl
            | 2, hx => simp at hx; subst hx; rfl
            | 3, hx => simp at hx; subst hx; rfl
            | 4, hx => simp at hx; subst hx; rfl
            | 5, hx => simp at hx; subst hx; rfl) (blk_lt b4) (by simp) (by simp) (by simp only [List.map_cons, List.map_nil, bsT_list]; omega)
          simp only [List.map_cons, List.map_nil, bsT_list] at hj
          have HJ := Lib.hid (show Calls Tryd.prog 99 #[.slice (some ⟨w3.heap.size, 0, none⟩) 6 6, .string (bsT [32])] w4 fun e w' => e = .returned (.string S) ∧ Below w4.heap.size w4 w' by rw [← HS2.out]; exact hj)
          have HK4 := Lib.hid (kTrans HK3.out k4)
          have Hw4 := Lib.hid hw4
          clear hj hw4 b4 k4 HK3 hlen HS2
          go_wp2_with fail
          rw [Hw4.out]
          refine HJ.out.mono ?_
          rintro e w5 ⟨rfl, hb5⟩
          have HK5 := Lib.hid (kTrans HK0.out (kTrans HK4.out hb5))
          clear hb5 HJ Hw4 HK4
          go_wp2
          go_ret
          exact ⟨rfl, HK5.out⟩
set_option maxRecDepth 100000 in
set_option maxHeartbeats 8000000 in
theorem l05Plain_any (bw : Nat) (fx fy sd tx ty ot : Int) (w : World) (h8 : Wy.in8 ⟨fx, fy, sd, tx, ty, ot⟩) (hw : WyAt w bw ⟨fx, fy, sd, tx, ty, ot⟩) (hwl : bw < w.heap.size) :
    Calls Tryd.prog 45 #[.pointer (some ⟨bw, 0, none⟩)] w fun e w' => e = .returned (.bool (wyPlain ⟨fx, fy, sd, tx, ty, ot⟩)) ∧ Below w.heap.size w w' := by
  have HWY := Lib.hid (fun W2 (h2 : Below w.heap.size w W2) => hw.below h2 hwl)
  have HK0 := Lib.hid (Below.refl w.heap.size w)
  have HKs := Lib.hid (Below.refl w.heap.size w)
  obtain ⟨r1, h1⟩ : ∃ r, r = decide (0 ≤ fx ∧ fx ≤ 24 - 1 ∧ 0 ≤ fy ∧ fy ≤ 24 - 1) := ⟨_, rfl⟩
  obtain ⟨r2, h2⟩ : ∃ r, r = decide (0 ≤ tx ∧ tx ≤ 24 - 1 ∧ 0 ≤ ty ∧ ty ≤ 24 - 1) := ⟨_, rfl⟩
  obtain ⟨r3, h3⟩ : ∃ r, r = decide (0 ≤ sd ∧ sd ≤ 3) := ⟨_, rfl⟩
  obtain ⟨r4, h4⟩ : ∃ r, r = decide (0 ≤ ot ∧ ot ≤ 3) := ⟨_, rfl⟩
  have d1 : -128 ≤ sd ∧ sd ≤ 127 := h8.2.2.1
  have d2 : -128 ≤ ot ∧ ot ≤ 127 := h8.2.2.2.2.2
  have iw1 : IntKind.i64.wrap sd = sd := IntWalk.i64_in _ (by omega)
  have iw2 : IntKind.i64.wrap ot = ot := IntWalk.i64_in _ (by omega)
  have HQ := Lib.hid (show wyPlain ⟨fx, fy, sd, tx, ty, ot⟩ = (r1 && r2 && r3 && r4) by
    rw [h1, h2, h3, h4, Bool.eq_iff_iff]
    simp only [wyPlain, Bool.and_eq_true, decide_eq_true_eq]
    omega)
  have H1 := Lib.hid h1
  have H2 := Lib.hid h2
  have H3 := Lib.hid h3
  have H4 := Lib.hid h4
  clear hw h1 h2 h3 h4
  obtain ⟨PL, hPL⟩ : ∃ z, wyPlain ⟨fx, fy, sd, tx, ty, ot⟩ = z := ⟨_, rfl⟩
  rw [hPL] at HQ ⊢
  clear hPL
  go_enter Tryd.func45, Tryd.ntmps45
  obtain ⟨c0, c1, c2, c3, c4, c5⟩ := HWY.out _ HKs.out
  have lw := Nat.lt_of_lt_of_le hwl (Below.size HKs.out)
  go_wp2_with fail
  refine (l01In_any fx fy 24 24 _ h8.1 h8.2.1 (by decide) (by decide) r1 H1.out).mono ?_
  rintro e w_0 ⟨rfl, hb_0⟩
  have HK_0 := Lib.hid (kTrans HKs.out hb_0)
  clear hb_0
  clear c0 c1 c2 c3 c4 c5 lw
  cases r1 with
  | false =>
    go_wp2
    go_ret
    exact ⟨by rw [HQ.out]; simp, kTrans HK0.out HK_0.out⟩
  | true =>
    obtain ⟨c0, c1, c2, c3, c4, c5⟩ := HWY.out _ HK_0.out
    have lw := Nat.lt_of_lt_of_le hwl (Below.size HK_0.out)
    go_wp2_with fail
    refine (l01In_any tx ty 24 24 _ h8.2.2.2.1 h8.2.2.2.2.1 (by decide) (by decide) r2 H2.out).mono ?_
    rintro e w_1 ⟨rfl, hb_1⟩
    have HK_1 := Lib.hid (kTrans HK_0.out hb_1)
    clear hb_1
    clear c0 c1 c2 c3 c4 c5 lw
    cases r2 with
    | false =>
      go_wp2
      go_ret
      exact ⟨by rw [HQ.out]; simp, kTrans HK0.out HK_1.out⟩
    | true =>
      obtain ⟨c0, c1, c2, c3, c4, c5⟩ := HWY.out _ HK_1.out
      have lw := Nat.lt_of_lt_of_le hwl (Below.size HK_1.out)
      go_wp2_with fail
      refine (l01Side_any sd _ r3 H3.out).mono ?_
      rintro e w_2 ⟨rfl, h_2⟩
      subst h_2
      clear c0 c1 c2 c3 c4 c5 lw
      cases r3 with
      | false =>
        go_wp2
        go_ret
        exact ⟨by rw [HQ.out]; simp, kTrans HK0.out HK_1.out⟩
      | true =>
        obtain ⟨c0, c1, c2, c3, c4, c5⟩ := HWY.out _ HK_1.out
        have lw := Nat.lt_of_lt_of_le hwl (Below.size HK_1.out)
        go_wp2_with fail
        refine (l01Side_any ot _ r4 H4.out).mono ?_
        rintro e w_3 ⟨rfl, h_3⟩
        subst h_3
        clear c0 c1 c2 c3 c4 c5 lw
        cases r4 with
        | false =>
          go_wp2
          go_ret
          exact ⟨by rw [HQ.out]; simp, kTrans HK0.out HK_1.out⟩
        | true =>
          go_wp2
          go_ret
          exact ⟨by rw [HQ.out]; simp, kTrans HK0.out HK_1.out⟩
def SwP (bw : Nat) (fx fy sd tx ty ot : Int) (w : World) : Prop := WyAt w bw ⟨fx, fy, sd, tx, ty, ot⟩ ∧ bw < w.heap.size
theorem SwP.below {bw : Nat} {fx fy sd tx ty ot : Int} {w w' : World} (h : SwP bw fx fy sd tx ty ot w) (g : Below w.heap.size w w') : SwP bw fx fy sd tx ty ot w' := ⟨h.1.below g h.2, Nat.lt_of_lt_of_le h.2 g.size⟩
def W4 (w : World) (g : Nat) : Prop := (∀ k : Nat, k < 4 → w.cell? ⟨g, k, none⟩ = some (.string (bsT (sideWL (k : Int))))) ∧ g < w.heap.size
theorem W4.below {w w' : World} {g : Nat} (h : W4 w g) (b : Below w.heap.size w w') : W4 w' g := ⟨fun k hk => (b.cell (p := ⟨g, k, none⟩) h.2).trans (h.1 k hk), Nat.lt_of_lt_of_le h.2 b.size⟩
theorem l02Sides_any (w : World) : Calls Tryd.prog 62 #[] w fun e w' => ∃ g, e = .returned (.slice (some ⟨g, 0, none⟩) 4 4) ∧ W4 w' g ∧ Below w.heap.size w w' := by
  go_enter Tryd.func62, Tryd.ntmps62
  go_wp2
  go_ret
  refine ⟨w.heap.size, rfl, ⟨fun k hk => ?_, by simp⟩, by repeat (first | with_reducible exact Below.refl _ _ | (with_reducible refine kSet ?_ ?hB _; case hB => (simp; try omega)) | with_reducible refine kAlloc ?_ _ | with_reducible refine Below.drew ?_ | with_reducible refine kDrewN ?_ _ | with_reducible refine kTrans ?_ (by assumption))⟩
  rw [cell_of_row _ _ k _ _ _ (nNewX _ _)]
  have hc : k = 0 ∨ k = 1 ∨ k = 2 ∨ k = 3 := by omega
  rcases hc with rfl | rfl | rfl | rfl <;> rfl
end Go.Proofs.YtobhppkcgioheaaDoor
