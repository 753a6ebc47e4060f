/- WayText: both sides. -/
import Derived.Test.YtmllfacgonchnaaDoorTx2
import Derived.Test.YtmllfacgonchnaaDoorTw
import Derived.Test.YtmllfacgonchnaaDoorVw
import Derived.StillTailTactics
namespace Go.Proofs.YtmllfacgonchnaaDoor
open Go.ChangeShapes Go.WideShapes Go.ChangeAt Go.RowKit Go.Joins Go.Deep
set_option linter.unusedVariables false
set_option linter.unusedSimpArgs false

def wyPlain (p : Wy) : Bool := decide (0 ≤ p.fx ∧ p.fx ≤ 23 ∧ 0 ≤ p.fy ∧ p.fy ≤ 23) && decide (0 ≤ p.tx ∧ p.tx ≤ 23 ∧ 0 ≤ p.ty ∧ p.ty ≤ 23) && decide (0 ≤ p.sd ∧ p.sd ≤ 3) && decide (0 ≤ p.ot ∧ p.ot ≤ 3)
def wyL (p : Wy) : List UInt8 := Lib.join [decL p.fx, decL p.fy, sideWL p.sd, decL p.tx, decL p.ty, sideWL p.ot] [32]
def wyQ (p : Wy) : List UInt8 := if wyPlain p = true then wyL p else []
set_option maxRecDepth 100000 in
set_option maxHeartbeats 8000000 in
theorem implWayText_any (fx fy sd tx ty ot : Int) (w : World) (h8 : Wy.in8 ⟨fx, fy, sd, tx, ty, ot⟩) (S : ByteArray) (hS : bsT (wyQ ⟨fx, fy, sd, tx, ty, ot⟩) = S) (hst : SideAt w) :
    Calls Tryd.prog 21 #[.agg #[.int .i8 fx, .int .i8 fy, .int .i8 sd, .int .i8 tx, .int .i8 ty, .int .i8 ot]] w fun e w' => e = .returned (.string S) ∧ Below w.heap.size w w' := by
  obtain ⟨W0, hW⟩ : ∃ W0, (w.alloc (.cells #[.int .i8 fx, .int .i8 fy, .int .i8 sd, .int .i8 tx, .int .i8 ty, .int .i8 ot] 47)).alloc (.cells #[.int .i8 24, .int .i8 24] 106) = W0 := ⟨_, rfl⟩
  have k0 : Below w.heap.size w W0 := by rw [← hW]; exact kAlloc (kAlloc (Below.refl _ _) _) _
  have bX : W0.heap[w.heap.size]? = some (.cells #[.int .i8 fx, .int .i8 fy, .int .i8 sd, .int .i8 tx, .int .i8 ty, .int .i8 ot] 47 (0, 0)) := by rw [← hW]; exact (Below.heap_alloc _ _ _ (by simp)).trans (heap_alloc_new _ _)
  have bY : W0.heap[w.heap.size + 1]? = some (.cells #[.int .i8 24, .int .i8 24] 106 (0, 0)) := by rw [← hW]; exact heap_two _ _ _
  have hwl := blk_lt bX
  have hsl := blk_lt bY
  have HWY := Lib.hid (fun W2 (h2 : Below W0.heap.size W0 W2) => (WyAt.of (p := ⟨fx, fy, sd, tx, ty, ot⟩) bX).below h2 hwl)
  have HSZ := Lib.hid (fun W2 (h2 : Below W0.heap.size W0 W2) => (show W2.cell? ⟨w.heap.size + 1, 0, none⟩ = some (.int .i8 24) ∧ W2.cell? ⟨w.heap.size + 1, 1, none⟩ = some (.int .i8 24) from ⟨cell_of_row _ _ 0 _ _ _ (blkX bY h2), cell_of_row _ _ 1 _ _ _ (blkX bY h2)⟩))
  have HST := Lib.hid (fun W2 (h2 : Below W0.heap.size W0 W2) => hst.below (kTrans k0 h2))
  have HK0 := Lib.hid k0
  have HW := Lib.hid hW
  have HS := Lib.hid hS
  have HKs := Lib.hid (Below.refl W0.heap.size W0)
  obtain ⟨r1, h1⟩ : ∃ r, r = decide (0 ≤ fx ∧ fx < 24 ∧ 0 ≤ fy ∧ fy < 24) := ⟨_, rfl⟩
  obtain ⟨r2, h2⟩ : ∃ r, r = decide (0 ≤ tx ∧ tx < 24 ∧ 0 ≤ ty ∧ ty < 24) := ⟨_, rfl⟩
  obtain ⟨r3, h3⟩ : ∃ r, r = decide (0 ≤ sd ∧ sd ≤ 3) := ⟨_, rfl⟩
  obtain ⟨r4, h4⟩ : ∃ r, r = decide (0 ≤ ot ∧ ot ≤ 3) := ⟨_, rfl⟩
  have d1 : -128 ≤ sd ∧ sd ≤ 127 := h8.2.2.1
  have d2 : -128 ≤ ot ∧ ot ≤ 127 := h8.2.2.2.2.2
  have iw1 : IntKind.i64.wrap sd = sd := IntWalk.i64_in _ (by omega)
  have iw2 : IntKind.i64.wrap ot = ot := IntWalk.i64_in _ (by omega)
  have HQ := Lib.hid (show wyPlain ⟨fx, fy, sd, tx, ty, ot⟩ = (r1 && r2 && r3 && r4) by
    rw [h1, h2, h3, h4, Bool.eq_iff_iff]
    simp only [wyPlain, Bool.and_eq_true, decide_eq_true_eq]
    omega)
  have H1 := Lib.hid h1
  have H2 := Lib.hid h2
  have H3 := Lib.hid h3
  have H4 := Lib.hid h4
  clear hst hW bX bY k0 hS h1 h2 h3 h4
  go_enter Tryd.func21, Tryd.ntmps21
  go_upto_region 2 with fail
  try rw [HW.out]
  clear HW
  obtain ⟨c0, c1, c2, c3, c4, c5⟩ := HWY.out _ HKs.out
  have lw := Nat.lt_of_lt_of_le hwl (Below.size HKs.out)
  obtain ⟨s0, s1⟩ := HSZ.out _ HKs.out
  have ls := Nat.lt_of_lt_of_le hsl (Below.size HKs.out)
  go_wp2_with fail
  refine (holds_any fx fy 24 24 _ h8.1 h8.2.1 (by unfold i8; omega) (by unfold i8; omega) r1 H1.out).mono ?_
  rintro e w_0 ⟨rfl, hb_0⟩
  have HK_0 := Lib.hid (kTrans HKs.out hb_0)
  clear hb_0
  clear c0 c1 c2 c3 c4 c5 lw s0 s1 ls
  cases r1 with
  | false =>
    obtain rfl : (⟨#[]⟩ : ByteArray) = S := by rw [← HS.out]; unfold wyQ; rw [if_neg (by rw [HQ.out]; simp)]; rfl
    clear HS HQ
    go_wp2
    go_ret
    exact ⟨rfl, kTrans HK0.out HK_0.out⟩
  | true =>
    obtain ⟨c0, c1, c2, c3, c4, c5⟩ := HWY.out _ HK_0.out
    have lw := Nat.lt_of_lt_of_le hwl (Below.size HK_0.out)
    obtain ⟨s0, s1⟩ := HSZ.out _ HK_0.out
    have ls := Nat.lt_of_lt_of_le hsl (Below.size HK_0.out)
    go_wp2_with fail
    refine (holds_any tx ty 24 24 _ h8.2.2.2.1 h8.2.2.2.2.1 (by unfold i8; omega) (by unfold i8; omega) r2 H2.out).mono ?_
    rintro e w_1 ⟨rfl, hb_1⟩
    have HK_1 := Lib.hid (kTrans HK_0.out hb_1)
    clear hb_1
    clear c0 c1 c2 c3 c4 c5 lw s0 s1 ls
    cases r2 with
    | false =>
      obtain rfl : (⟨#[]⟩ : ByteArray) = S := by rw [← HS.out]; unfold wyQ; rw [if_neg (by rw [HQ.out]; simp)]; rfl
      clear HS HQ
      go_wp2
      go_ret
      exact ⟨rfl, kTrans HK0.out HK_1.out⟩
    | true =>
      obtain ⟨c0, c1, c2, c3, c4, c5⟩ := HWY.out _ HK_1.out
      have lw := Nat.lt_of_lt_of_le hwl (Below.size HK_1.out)
      obtain ⟨s0, s1⟩ := HSZ.out _ HK_1.out
      have ls := Nat.lt_of_lt_of_le hsl (Below.size HK_1.out)
      go_wp2_with fail
      refine (isSide_any sd _ r3 H3.out).mono ?_
      rintro e w_2 ⟨rfl, h_2⟩
      subst h_2
      clear c0 c1 c2 c3 c4 c5 lw s0 s1 ls
      cases r3 with
      | false =>
        obtain rfl : (⟨#[]⟩ : ByteArray) = S := by rw [← HS.out]; unfold wyQ; rw [if_neg (by rw [HQ.out]; simp)]; rfl
        clear HS HQ
        go_wp2
        go_ret
        exact ⟨rfl, kTrans HK0.out HK_1.out⟩
      | true =>
        obtain ⟨c0, c1, c2, c3, c4, c5⟩ := HWY.out _ HK_1.out
        have lw := Nat.lt_of_lt_of_le hwl (Below.size HK_1.out)
        obtain ⟨s0, s1⟩ := HSZ.out _ HK_1.out
        have ls := Nat.lt_of_lt_of_le hsl (Below.size HK_1.out)
        go_wp2_with fail
        refine (isSide_any ot _ r4 H4.out).mono ?_
        rintro e w_3 ⟨rfl, h_3⟩
        subst h_3
        clear c0 c1 c2 c3 c4 c5 lw s0 s1 ls
        cases r4 with
        | false =>
          obtain rfl : (⟨#[]⟩ : ByteArray) = S := by rw [← HS.out]; unfold wyQ; rw [if_neg (by rw [HQ.out]; simp)]; rfl
          clear HS HQ
          go_wp2
          go_ret
          exact ⟨rfl, kTrans HK0.out HK_1.out⟩
        | true =>
          have HS2 := Lib.hid (show bsT (wyL ⟨fx, fy, sd, tx, ty, ot⟩) = S by rw [← HS.out]; unfold wyQ; rw [if_pos (by rw [HQ.out]; rfl)])
          have e1 := of_decide_eq_true H1.out.symm
          have e2 := of_decide_eq_true H2.out.symm
          have e3 := of_decide_eq_true H3.out.symm
          have e4 := of_decide_eq_true H4.out.symm
          obtain ⟨sn, rfl⟩ : ∃ sn : Nat, sd = sn := ⟨sd.toNat, by omega⟩
          obtain ⟨on, rfl⟩ : ∃ on : Nat, ot = on := ⟨ot.toNat, by omega⟩
          have hs4 : sn < 4 := by omega
          have ho4 : on < 4 := by omega
          have hs40 : (sn : Int) < 4 := by omega
          have ho40 : (on : Int) < 4 := by omega
          have A0 := Lib.hid (fun W => smallText_any fx W (by omega) (by omega))
          have A1 := Lib.hid (fun W => smallText_any fy W (by omega) (by omega))
          have A2 := Lib.hid (fun W => smallText_any tx W (by omega) (by omega))
          have A3 := Lib.hid (fun W => smallText_any ty W (by omega) (by omega))
          have hlen : (Lib.join [decL fx, decL fy, sideWL (sn : Int), decL tx, decL ty, sideWL (on : Int)] [32]).length ≤ 36 := by
            have h := join_len 5 [decL fx, decL fy, sideWL (sn : Int), decL tx, decL ty, sideWL (on : Int)] (fun x hx => by
              simp only [List.mem_cons, List.not_mem_nil, or_false] at hx
              rcases hx with rfl | rfl | rfl | rfl | rfl | rfl
              · have := decL_len2 (n := fx) (by omega); omega
              · have := decL_len2 (n := fy) (by omega); omega
              · exact sideWL_len _
              · have := decL_len2 (n := tx) (by omega); omega
              · have := decL_len2 (n := ty) (by omega); omega
              · exact sideWL_len _)
            simpa using h
          clear e1 e2 e3 e4 HS HQ H1 H2 H3 H4
          obtain ⟨c0, c1, c2, c3, c4, c5⟩ := HWY.out _ HK_1.out
          simp only at c0 c1 c2 c3 c4 c5
          have lw := Nat.lt_of_lt_of_le hwl (Below.size HK_1.out)
          have hst := HST.out _ HK_1.out
          have g0 := hst.1 sn hs4
          have g1 := hst.1 on ho4
          have lg := hst.2
          have HKK := HK_1
          go_upto_region 4 with fail
          refine wp_region_still_tail 24 (by kernel_rfl) (by kernel_rfl) ?_
          simp only [List.take_succ_cons, List.take_zero, List.drop_succ_cons, List.drop_zero]
          repeat still_step
          still_call (A0.out _)
          repeat still_step
          still_call (A1.out _)
          repeat still_step
          still_call (A2.out _)
          repeat still_step
          still_call (A3.out _)
          repeat still_step
          try refine wpStill_nil ?_
          change wpList _ _ _ _ _ w_1.drew
          have HK3 := Lib.hid (show Below W0.heap.size W0 w_1.drew from Below.drew HKK.out)
          clear c0 c1 c2 c3 c4 c5 lw hst g0 g1 lg HKK A0 A1 A2 A3
          generalize w_1.drew = w3 at HK3 ⊢
          obtain ⟨w4, hw4⟩ : ∃ z, w3.alloc (.cells #[.string (bsT (decL fx)), .string (bsT (decL fy)), .string (bsT (sideWL (sn : Int))), .string (bsT (decL tx)), .string (bsT (decL ty)), .string (bsT (sideWL (on : Int)))] 9) = z := ⟨_, rfl⟩
          have k4 : Below w3.heap.size w3 w4 := by rw [← hw4]; exact kAlloc (Below.refl _ _) _
          have b4 : w4.heap[w3.heap.size]? = some (.cells #[.string (bsT (decL fx)), .string (bsT (decL fy)), .string (bsT (sideWL (sn : Int))), .string (bsT (decL tx)), .string (bsT (decL ty)), .string (bsT (sideWL (on : Int)))] 9 (0, 0)) := by rw [← hw4]; exact nNewX _ _
          have hj := strings_Join w3.heap.size 0 6 [bsT (decL fx), bsT (decL fy), bsT (sideWL (sn : Int)), bsT (decL tx), bsT (decL ty), bsT (sideWL (on : Int))] (bsT [32]) w4 (fun j x hx => by
            rw [Nat.zero_add, cell_of_row w4 _ j _ _ _ b4]
            match j, hx with
            | 0, hx => simp at hx; subst hx; rfl
            | 1, hx => simp at hx; subst hx; rfl
            | 2, hx => simp at hx; subst hx; rfl
            | 3, hx => simp at hx; subst hx; rfl
            | 4, hx => simp at hx; subst hx; rfl
            | 5, hx => simp at hx; subst hx; rfl) (blk_lt b4) (by simp) (by simp) (by simp only [List.map_cons, List.map_nil, bsT_list]; omega)
          simp only [List.map_cons, List.map_nil, bsT_list] at hj
          have HJ := Lib.hid (show Calls Tryd.prog 58 #[.slice (some ⟨w3.heap.size, 0, none⟩) 6 6, .string (bsT [32])] w4 fun e w' => e = .returned (.string S) ∧ Below w4.heap.size w4 w' by rw [← HS2.out]; exact hj)
          have HK4 := Lib.hid (kTrans HK3.out k4)
          have Hw4 := Lib.hid hw4
          clear hj hw4 b4 k4 HK3 hlen HS2
          go_wp2_with fail
          rw [Hw4.out]
          refine HJ.out.mono ?_
          rintro e w5 ⟨rfl, hb5⟩
          have HK5 := Lib.hid (kTrans HK0.out (kTrans HK4.out hb5))
          clear hb5 HJ Hw4 HK4
          go_wp2
          go_ret
          exact ⟨rfl, HK5.out⟩
set_option maxRecDepth 100000 in
set_option maxHeartbeats 8000000 in
theorem l05Plain_any (bw : Nat) (fx fy sd tx ty ot : Int) (w : World) (h8 : Wy.in8 ⟨fx, fy, sd, tx, ty, ot⟩) (hw : WyAt w bw ⟨fx, fy, sd, tx, ty, ot⟩) (hwl : bw < w.heap.size) :
    Calls Tryd.prog 55 #[.pointer (some ⟨bw, 0, none⟩)] w fun e w' => e = .returned (.bool (wyPlain ⟨fx, fy, sd, tx, ty, ot⟩)) ∧ Below w.heap.size w w' := by
  have HWY := Lib.hid (fun W2 (h2 : Below w.heap.size w W2) => hw.below h2 hwl)
  have HK0 := Lib.hid (Below.refl w.heap.size w)
  have HKs := Lib.hid (Below.refl w.heap.size w)
  obtain ⟨r1, h1⟩ : ∃ r, r = decide (0 ≤ fx ∧ fx ≤ 24 - 1 ∧ 0 ≤ fy ∧ fy ≤ 24 - 1) := ⟨_, rfl⟩
  obtain ⟨r2, h2⟩ : ∃ r, r = decide (0 ≤ tx ∧ tx ≤ 24 - 1 ∧ 0 ≤ ty ∧ ty ≤ 24 - 1) := ⟨_, rfl⟩
  obtain ⟨r3, h3⟩ : ∃ r, r = decide (0 ≤ sd ∧ sd ≤ 3) := ⟨_, rfl⟩
  obtain ⟨r4, h4⟩ : ∃ r, r = decide (0 ≤ ot ∧ ot ≤ 3) := ⟨_, rfl⟩
  have d1 : -128 ≤ sd ∧ sd ≤ 127 := h8.2.2.1
  have d2 : -128 ≤ ot ∧ ot ≤ 127 := h8.2.2.2.2.2
  have iw1 : IntKind.i64.wrap sd = sd := IntWalk.i64_in _ (by omega)
  have iw2 : IntKind.i64.wrap ot = ot := IntWalk.i64_in _ (by omega)
  have HQ := Lib.hid (show wyPlain ⟨fx, fy, sd, tx, ty, ot⟩ = (r1 && r2 && r3 && r4) by
    rw [h1, h2, h3, h4, Bool.eq_iff_iff]
    simp only [wyPlain, Bool.and_eq_true, decide_eq_true_eq]
    omega)
  have H1 := Lib.hid h1
  have H2 := Lib.hid h2
  have H3 := Lib.hid h3
  have H4 := Lib.hid h4
  clear hw h1 h2 h3 h4
  obtain ⟨PL, hPL⟩ : ∃ z, wyPlain ⟨fx, fy, sd, tx, ty, ot⟩ = z := ⟨_, rfl⟩
  rw [hPL] at HQ ⊢
  clear hPL
  go_enter Tryd.func55, Tryd.ntmps55
  obtain ⟨c0, c1, c2, c3, c4, c5⟩ := HWY.out _ HKs.out
  have lw := Nat.lt_of_lt_of_le hwl (Below.size HKs.out)
  go_wp2_with fail
  refine (l01In_any fx fy 24 24 _ h8.1 h8.2.1 (by decide) (by decide) r1 H1.out).mono ?_
  rintro e w_0 ⟨rfl, hb_0⟩
  have HK_0 := Lib.hid (kTrans HKs.out hb_0)
  clear hb_0
  clear c0 c1 c2 c3 c4 c5 lw
  cases r1 with
  | false =>
    go_wp2
    go_ret
    exact ⟨by rw [HQ.out]; simp, kTrans HK0.out HK_0.out⟩
  | true =>
    obtain ⟨c0, c1, c2, c3, c4, c5⟩ := HWY.out _ HK_0.out
    have lw := Nat.lt_of_lt_of_le hwl (Below.size HK_0.out)
    go_wp2_with fail
    refine (l01In_any tx ty 24 24 _ h8.2.2.2.1 h8.2.2.2.2.1 (by decide) (by decide) r2 H2.out).mono ?_
    rintro e w_1 ⟨rfl, hb_1⟩
    have HK_1 := Lib.hid (kTrans HK_0.out hb_1)
    clear hb_1
    clear c0 c1 c2 c3 c4 c5 lw
    cases r2 with
    | false =>
      go_wp2
      go_ret
      exact ⟨by rw [HQ.out]; simp, kTrans HK0.out HK_1.out⟩
    | true =>
      obtain ⟨c0, c1, c2, c3, c4, c5⟩ := HWY.out _ HK_1.out
      have lw := Nat.lt_of_lt_of_le hwl (Below.size HK_1.out)
      go_wp2_with fail
      refine (l01Side_any sd _ r3 H3.out).mono ?_
      rintro e w_2 ⟨rfl, h_2⟩
      subst h_2
      clear c0 c1 c2 c3 c4 c5 lw
      cases r3 with
      | false =>
        go_wp2
        go_ret
        exact ⟨by rw [HQ.out]; simp, kTrans HK0.out HK_1.out⟩
      | true =>
        obtain ⟨c0, c1, c2, c3, c4, c5⟩ := HWY.out _ HK_1.out
        have lw := Nat.lt_of_lt_of_le hwl (Below.size HK_1.out)
        go_wp2_with fail
        refine (l01Side_any ot _ r4 H4.out).mono ?_
        rintro e w_3 ⟨rfl, h_3⟩
        subst h_3
        clear c0 c1 c2 c3 c4 c5 lw
        cases r4 with
        | false =>
          go_wp2
          go_ret
          exact ⟨by rw [HQ.out]; simp, kTrans HK0.out HK_1.out⟩
        | true =>
          go_wp2
          go_ret
          exact ⟨by rw [HQ.out]; simp, kTrans HK0.out HK_1.out⟩
def SwP (bw : Nat) (fx fy sd tx ty ot : Int) (w : World) : Prop := WyAt w bw ⟨fx, fy, sd, tx, ty, ot⟩ ∧ bw < w.heap.size
theorem SwP.below {bw : Nat} {fx fy sd tx ty ot : Int} {w w' : World} (h : SwP bw fx fy sd tx ty ot w) (g : Below w.heap.size w w') : SwP bw fx fy sd tx ty ot w' := ⟨h.1.below g h.2, Nat.lt_of_lt_of_le h.2 g.size⟩
def W4 (w : World) (g : Nat) : Prop := (∀ k : Nat, k < 4 → w.cell? ⟨g, k, none⟩ = some (.string (bsT (sideWL (k : Int))))) ∧ g < w.heap.size
theorem W4.below {w w' : World} {g : Nat} (h : W4 w g) (b : Below w.heap.size w w') : W4 w' g := ⟨fun k hk => (b.cell (p := ⟨g, k, none⟩) h.2).trans (h.1 k hk), Nat.lt_of_lt_of_le h.2 b.size⟩
theorem l02Sides_any (w : World) : Calls Tryd.prog 89 #[] w fun e w' => ∃ g, e = .returned (.slice (some ⟨g, 0, none⟩) 4 4) ∧ W4 w' g ∧ Below w.heap.size w w' := by
  go_enter Tryd.func89, Tryd.ntmps89
  go_wp2
  go_ret
  refine ⟨w.heap.size, rfl, ⟨fun k hk => ?_, by simp⟩, by repeat (first | with_reducible exact Below.refl _ _ | (with_reducible refine kSet ?_ ?hB _; case hB => (simp; try omega)) | with_reducible refine kAlloc ?_ _ | with_reducible refine Below.drew ?_ | with_reducible refine kDrewN ?_ _ | with_reducible refine kTrans ?_ (by assumption))⟩
  rw [cell_of_row _ _ k _ _ _ (nNewX _ _)]
  have hc : k = 0 ∨ k = 1 ∨ k = 2 ∨ k = 3 := by omega
  rcases hc with rfl | rfl | rfl | rfl <;> rfl
set_option maxRecDepth 100000 in
set_option maxHeartbeats 16000000 in
theorem l05Text_any (bw : Nat) (fx fy sd tx ty ot : Int) (w : World) (hw : WyAt w bw ⟨fx, fy, sd, tx, ty, ot⟩) (hwl : bw < w.heap.size) (hP : wyPlain ⟨fx, fy, sd, tx, ty, ot⟩ = true) (S : ByteArray) (hS : bsT (wyL ⟨fx, fy, sd, tx, ty, ot⟩) = S) :
    Calls Tryd.prog 56 #[.pointer (some ⟨bw, 0, none⟩)] w fun e w' => e = .returned (.string S) ∧ Below w.heap.size w w' := by
  simp only [wyPlain, Bool.and_eq_true, decide_eq_true_eq] at hP
  obtain ⟨sn, rfl⟩ : ∃ sn : Nat, sd = sn := ⟨sd.toNat, by omega⟩
  obtain ⟨on, rfl⟩ : ∃ on : Nat, ot = on := ⟨ot.toNat, by omega⟩
  have hs4 : sn < 4 := by omega
  have ho4 : on < 4 := by omega
  have HX := Lib.hid (fun W => Decimal_any 100 fx W (by omega) (by omega) (by omega))
  have ifx : IntKind.i64.wrap fx = fx := IntWalk.i64_in _ (by omega)
  have lfx := decL_len2 (n := fx) (by omega)
  obtain ⟨X, hX⟩ : ∃ D, bsT (decL fx) = D := ⟨_, rfl⟩
  have sfx : X.size ≤ 2 := by rw [← hX, bsT_size]; exact lfx
  rw [hX] at HX
  have HY := Lib.hid (fun W => Decimal_any 100 fy W (by omega) (by omega) (by omega))
  have ify : IntKind.i64.wrap fy = fy := IntWalk.i64_in _ (by omega)
  have lfy := decL_len2 (n := fy) (by omega)
  obtain ⟨Y, hY⟩ : ∃ D, bsT (decL fy) = D := ⟨_, rfl⟩
  have sfy : Y.size ≤ 2 := by rw [← hY, bsT_size]; exact lfy
  rw [hY] at HY
  have HT := Lib.hid (fun W => Decimal_any 100 tx W (by omega) (by omega) (by omega))
  have itx : IntKind.i64.wrap tx = tx := IntWalk.i64_in _ (by omega)
  have ltx := decL_len2 (n := tx) (by omega)
  obtain ⟨TT, hTT⟩ : ∃ D, bsT (decL tx) = D := ⟨_, rfl⟩
  have stx : TT.size ≤ 2 := by rw [← hTT, bsT_size]; exact ltx
  rw [hTT] at HT
  have HD := Lib.hid (fun W => Decimal_any 100 ty W (by omega) (by omega) (by omega))
  have ity : IntKind.i64.wrap ty = ty := IntWalk.i64_in _ (by omega)
  have lty := decL_len2 (n := ty) (by omega)
  obtain ⟨DD, hDD⟩ : ∃ D, bsT (decL ty) = D := ⟨_, rfl⟩
  have sty : DD.size ≤ 2 := by rw [← hDD, bsT_size]; exact lty
  rw [hDD] at HD
  have lks := sideWL_len (sn : Int)
  have lko := sideWL_len (on : Int)
  obtain ⟨KS, hKS⟩ : ∃ D, bsT (sideWL (sn : Int)) = D := ⟨_, rfl⟩
  obtain ⟨KO, hKO⟩ : ∃ D, bsT (sideWL (on : Int)) = D := ⟨_, rfl⟩
  have sks : KS.size ≤ 5 := by rw [← hKS, bsT_size]; exact lks
  have sko : KO.size ≤ 5 := by rw [← hKO, bsT_size]; exact lko
  have HKS := Lib.hid hKS
  have HKO := Lib.hid hKO
  obtain ⟨V0, e0⟩ : ∃ z, X ++ ⟨#[32]⟩ = z := ⟨_, rfl⟩
  have E0 := Lib.hid e0
  have y0 : V0.size = X.size + 1 := by rw [← e0, ByteArray.size_append]; rfl
  have z0 : ¬ 9223372036854775807 < X.size + 1 := by omega
  obtain ⟨V1, e1⟩ : ∃ z, V0 ++ Y = z := ⟨_, rfl⟩
  have E1 := Lib.hid e1
  have y1 : V1.size = V0.size + Y.size := by rw [← e1, ByteArray.size_append]
  have z1 : ¬ 9223372036854775807 < V0.size + Y.size := by omega
  obtain ⟨V2, e2⟩ : ∃ z, V1 ++ ⟨#[32]⟩ = z := ⟨_, rfl⟩
  have E2 := Lib.hid e2
  have y2 : V2.size = V1.size + 1 := by rw [← e2, ByteArray.size_append]; rfl
  have z2 : ¬ 9223372036854775807 < V1.size + 1 := by omega
  obtain ⟨V3, e3⟩ : ∃ z, V2 ++ KS = z := ⟨_, rfl⟩
  have E3 := Lib.hid e3
  have y3 : V3.size = V2.size + KS.size := by rw [← e3, ByteArray.size_append]
  have z3 : ¬ 9223372036854775807 < V2.size + KS.size := by omega
  obtain ⟨V4, e4⟩ : ∃ z, V3 ++ ⟨#[32]⟩ = z := ⟨_, rfl⟩
  have E4 := Lib.hid e4
  have y4 : V4.size = V3.size + 1 := by rw [← e4, ByteArray.size_append]; rfl
  have z4 : ¬ 9223372036854775807 < V3.size + 1 := by omega
  obtain ⟨V5, e5⟩ : ∃ z, V4 ++ TT = z := ⟨_, rfl⟩
  have E5 := Lib.hid e5
  have y5 : V5.size = V4.size + TT.size := by rw [← e5, ByteArray.size_append]
  have z5 : ¬ 9223372036854775807 < V4.size + TT.size := by omega
  obtain ⟨V6, e6⟩ : ∃ z, V5 ++ ⟨#[32]⟩ = z := ⟨_, rfl⟩
  have E6 := Lib.hid e6
  have y6 : V6.size = V5.size + 1 := by rw [← e6, ByteArray.size_append]; rfl
  have z6 : ¬ 9223372036854775807 < V5.size + 1 := by omega
  obtain ⟨V7, e7⟩ : ∃ z, V6 ++ DD = z := ⟨_, rfl⟩
  have E7 := Lib.hid e7
  have y7 : V7.size = V6.size + DD.size := by rw [← e7, ByteArray.size_append]
  have z7 : ¬ 9223372036854775807 < V6.size + DD.size := by omega
  obtain ⟨V8, e8⟩ : ∃ z, V7 ++ ⟨#[32]⟩ = z := ⟨_, rfl⟩
  have E8 := Lib.hid e8
  have y8 : V8.size = V7.size + 1 := by rw [← e8, ByteArray.size_append]; rfl
  have z8 : ¬ 9223372036854775807 < V7.size + 1 := by omega
  obtain ⟨V9, e9⟩ : ∃ z, V8 ++ KO = z := ⟨_, rfl⟩
  have E9 := Lib.hid e9
  have y9 : V9.size = V8.size + KO.size := by rw [← e9, ByteArray.size_append]
  have z9 : ¬ 9223372036854775807 < V8.size + KO.size := by omega
  obtain rfl : V9 = S := by
    rw [← hS, ← e9, ← e8, ← e7, ← e6, ← e5, ← e4, ← e3, ← e2, ← e1, ← e0, ← hX, ← hY, ← hKS, ← hKO, ← hTT, ← hDD, show (⟨#[32]⟩ : ByteArray) = bsT [32] from rfl]
    simp only [bsT_app]
    unfold wyL
    rw [join6]
    simp
  have hS0 : SwP bw fx fy (sn : Int) tx ty (on : Int) w := ⟨hw, hwl⟩
  have hs40 : (sn : Int) < 4 := by omega
  have ho40 : (on : Int) < 4 := by omega
  clear hS hw hP hX hY hTT hDD hKS hKO lfx lfy ltx lty lks lko sfx sfy stx sty sks sko
  clear y0 e0 y1 e1 y2 e2 y3 e3 y4 e4 y5 e5 y6 e6 y7 e7 y8 e8 y9 e9
  go_enter Tryd.func56, Tryd.ntmps56
  go_wp2_with fail
  refine regionW_of_HX (fun w' => SwP bw fx fy (sn : Int) tx ty (on : Int) w') (by kernel_rfl) hS0 (fun hHeld => ?_)
  have K0 := Lib.hid (show Below w.heap.size w w.drew from Below.drew (Below.refl _ _))
  clear hS0
  obtain ⟨W, hW⟩ : ∃ W, w.drew = W := ⟨_, rfl⟩
  rw [hW] at K0 hHeld ⊢
  clear hW
  refine wpAnyH_take (i := 0) (v := .pointer (some ⟨bw, 0, none⟩)) rfl (by kernel_rfl) (by kernel_rfl) (by kernel_rfl) (fun _ _ _ h => absurd h.1 (by simp)) (Or.inl ⟨by rfl, fun w7 hSw => ?_⟩) (by assumption) ?_
  · clear hSw
    go_simp
  try simp only [Act.put, List.setIfInBounds_toArray, List.set_cons_zero, List.set_cons_succ]
  refine wpAnyH_take (i := 1) (v := .pointer (some ⟨bw, 0, none⟩)) rfl (by kernel_rfl) (by kernel_rfl) (by kernel_rfl) (fun _ _ _ h => absurd h.1 (by simp)) (Or.inl ⟨by rfl, fun w7 hSw => ?_⟩) (by assumption) ?_
  · clear hSw
    go_simp
  try simp only [Act.put, List.setIfInBounds_toArray, List.set_cons_zero, List.set_cons_succ]
  refine wpAnyH_take (i := 2) (v := .pointer (some ⟨bw, 0, none⟩)) rfl (by kernel_rfl) (by kernel_rfl) (by kernel_rfl) (fun _ _ _ h => absurd h.1 (by simp)) (Or.inl ⟨by rfl, fun w7 hSw => ?_⟩) (by assumption) ?_
  · clear hSw
    go_simp
  try simp only [Act.put, List.setIfInBounds_toArray, List.set_cons_zero, List.set_cons_succ]
  refine wpAnyH_take (i := 3) (v := .pointer (some ⟨bw, 0, none⟩)) rfl (by kernel_rfl) (by kernel_rfl) (by kernel_rfl) (fun _ _ _ h => absurd h.1 (by simp)) (Or.inl ⟨by rfl, fun w7 hSw => ?_⟩) (by assumption) ?_
  · clear hSw
    go_simp
  try simp only [Act.put, List.setIfInBounds_toArray, List.set_cons_zero, List.set_cons_succ]
  refine wpAnyH_take (i := 4) (v := .int .i8 fx) rfl (by kernel_rfl) (by kernel_rfl) (by kernel_rfl) (fun _ _ _ h => absurd h.1 (by simp)) (Or.inl ⟨by rfl, fun w7 hSw => ?_⟩) (by assumption) ?_
  · obtain ⟨⟨c0, c1, c2, c3, c4, c5⟩, lb_⟩ := hSw
    simp only at c0 c1 c2 c3 c4 c5
    go_simp
  try simp only [Act.put, List.setIfInBounds_toArray, List.set_cons_zero, List.set_cons_succ]
  refine wpAnyH_take (i := 5) (v := .int .i64 fx) rfl (by kernel_rfl) (by kernel_rfl) (by kernel_rfl) (fun _ _ _ h => absurd h.1 (by simp)) (Or.inl ⟨by rfl, fun w7 hSw => ?_⟩) (by assumption) ?_
  · clear hSw
    go_simp
  try simp only [Act.put, List.setIfInBounds_toArray, List.set_cons_zero, List.set_cons_succ]
  refine wpAnyH_take (i := 8) (v := .pointer (some ⟨bw, 0, none⟩)) rfl (by kernel_rfl) (by kernel_rfl) (by kernel_rfl) (fun _ _ _ h => absurd h.1 (by simp)) (Or.inl ⟨by rfl, fun w7 hSw => ?_⟩) (by assumption) ?_
  · clear hSw
    go_simp
  try simp only [Act.put, List.setIfInBounds_toArray, List.set_cons_zero, List.set_cons_succ]
  refine wpAnyH_take (i := 9) (v := .pointer (some ⟨bw, 0, none⟩)) rfl (by kernel_rfl) (by kernel_rfl) (by kernel_rfl) (fun _ _ _ h => absurd h.1 (by simp)) (Or.inl ⟨by rfl, fun w7 hSw => ?_⟩) (by assumption) ?_
  · clear hSw
    go_simp
  try simp only [Act.put, List.setIfInBounds_toArray, List.set_cons_zero, List.set_cons_succ]
  refine wpAnyH_take (i := 10) (v := .pointer (some ⟨bw, 0, none⟩)) rfl (by kernel_rfl) (by kernel_rfl) (by kernel_rfl) (fun _ _ _ h => absurd h.1 (by simp)) (Or.inl ⟨by rfl, fun w7 hSw => ?_⟩) (by assumption) ?_
  · clear hSw
    go_simp
  try simp only [Act.put, List.setIfInBounds_toArray, List.set_cons_zero, List.set_cons_succ]
  refine wpAnyH_take (i := 11) (v := .pointer (some ⟨bw, 1, none⟩)) rfl (by kernel_rfl) (by kernel_rfl) (by kernel_rfl) (fun _ _ _ h => absurd h.1 (by simp)) (Or.inl ⟨by rfl, fun w7 hSw => ?_⟩) (by assumption) ?_
  · clear hSw
    go_simp
  try simp only [Act.put, List.setIfInBounds_toArray, List.set_cons_zero, List.set_cons_succ]
  refine wpAnyH_take (i := 12) (v := .int .i8 fy) rfl (by kernel_rfl) (by kernel_rfl) (by kernel_rfl) (fun _ _ _ h => absurd h.1 (by simp)) (Or.inl ⟨by rfl, fun w7 hSw => ?_⟩) (by assumption) ?_
  · obtain ⟨⟨c0, c1, c2, c3, c4, c5⟩, lb_⟩ := hSw
    simp only at c0 c1 c2 c3 c4 c5
    go_simp
  try simp only [Act.put, List.setIfInBounds_toArray, List.set_cons_zero, List.set_cons_succ]
  refine wpAnyH_take (i := 13) (v := .int .i64 fy) rfl (by kernel_rfl) (by kernel_rfl) (by kernel_rfl) (fun _ _ _ h => absurd h.1 (by simp)) (Or.inl ⟨by rfl, fun w7 hSw => ?_⟩) (by assumption) ?_
  · clear hSw
    go_simp
  try simp only [Act.put, List.setIfInBounds_toArray, List.set_cons_zero, List.set_cons_succ]
  refine wpAnyH_take (i := 18) (v := .pointer (some ⟨bw, 0, none⟩)) rfl (by kernel_rfl) (by kernel_rfl) (by kernel_rfl) (fun _ _ _ h => absurd h.1 (by simp)) (Or.inl ⟨by rfl, fun w7 hSw => ?_⟩) (by assumption) ?_
  · clear hSw
    go_simp
  try simp only [Act.put, List.setIfInBounds_toArray, List.set_cons_zero, List.set_cons_succ]
  refine wpAnyH_take (i := 19) (v := .pointer (some ⟨bw, 0, none⟩)) rfl (by kernel_rfl) (by kernel_rfl) (by kernel_rfl) (fun _ _ _ h => absurd h.1 (by simp)) (Or.inl ⟨by rfl, fun w7 hSw => ?_⟩) (by assumption) ?_
  · clear hSw
    go_simp
  try simp only [Act.put, List.setIfInBounds_toArray, List.set_cons_zero, List.set_cons_succ]
  refine wpAnyH_take (i := 20) (v := .pointer (some ⟨bw, 2, none⟩)) rfl (by kernel_rfl) (by kernel_rfl) (by kernel_rfl) (fun _ _ _ h => absurd h.1 (by simp)) (Or.inl ⟨by rfl, fun w7 hSw => ?_⟩) (by assumption) ?_
  · clear hSw
    go_simp
  try simp only [Act.put, List.setIfInBounds_toArray, List.set_cons_zero, List.set_cons_succ]
  refine wpAnyH_take (i := 21) (v := .int .i8 (sn : Int)) rfl (by kernel_rfl) (by kernel_rfl) (by kernel_rfl) (fun _ _ _ h => absurd h.1 (by simp)) (Or.inl ⟨by rfl, fun w7 hSw => ?_⟩) (by assumption) ?_
  · obtain ⟨⟨c0, c1, c2, c3, c4, c5⟩, lb_⟩ := hSw
    simp only at c0 c1 c2 c3 c4 c5
    go_simp
  try simp only [Act.put, List.setIfInBounds_toArray, List.set_cons_zero, List.set_cons_succ]
  refine wpAnyH_take (i := 26) (v := .pointer (some ⟨bw, 0, none⟩)) rfl (by kernel_rfl) (by kernel_rfl) (by kernel_rfl) (fun _ _ _ h => absurd h.1 (by simp)) (Or.inl ⟨by rfl, fun w7 hSw => ?_⟩) (by assumption) ?_
  · clear hSw
    go_simp
  try simp only [Act.put, List.setIfInBounds_toArray, List.set_cons_zero, List.set_cons_succ]
  refine wpAnyH_take (i := 27) (v := .pointer (some ⟨bw, 0, none⟩)) rfl (by kernel_rfl) (by kernel_rfl) (by kernel_rfl) (fun _ _ _ h => absurd h.1 (by simp)) (Or.inl ⟨by rfl, fun w7 hSw => ?_⟩) (by assumption) ?_
  · clear hSw
    go_simp
  try simp only [Act.put, List.setIfInBounds_toArray, List.set_cons_zero, List.set_cons_succ]
  refine wpAnyH_take (i := 28) (v := .pointer (some ⟨bw, 3, none⟩)) rfl (by kernel_rfl) (by kernel_rfl) (by kernel_rfl) (fun _ _ _ h => absurd h.1 (by simp)) (Or.inl ⟨by rfl, fun w7 hSw => ?_⟩) (by assumption) ?_
  · clear hSw
    go_simp
  try simp only [Act.put, List.setIfInBounds_toArray, List.set_cons_zero, List.set_cons_succ]
  refine wpAnyH_take (i := 29) (v := .pointer (some ⟨bw, 3, none⟩)) rfl (by kernel_rfl) (by kernel_rfl) (by kernel_rfl) (fun _ _ _ h => absurd h.1 (by simp)) (Or.inl ⟨by rfl, fun w7 hSw => ?_⟩) (by assumption) ?_
  · clear hSw
    go_simp
  try simp only [Act.put, List.setIfInBounds_toArray, List.set_cons_zero, List.set_cons_succ]
  refine wpAnyH_take (i := 30) (v := .int .i8 tx) rfl (by kernel_rfl) (by kernel_rfl) (by kernel_rfl) (fun _ _ _ h => absurd h.1 (by simp)) (Or.inl ⟨by rfl, fun w7 hSw => ?_⟩) (by assumption) ?_
  · obtain ⟨⟨c0, c1, c2, c3, c4, c5⟩, lb_⟩ := hSw
    simp only at c0 c1 c2 c3 c4 c5
    go_simp
  try simp only [Act.put, List.setIfInBounds_toArray, List.set_cons_zero, List.set_cons_succ]
  refine wpAnyH_take (i := 31) (v := .int .i64 tx) rfl (by kernel_rfl) (by kernel_rfl) (by kernel_rfl) (fun _ _ _ h => absurd h.1 (by simp)) (Or.inl ⟨by rfl, fun w7 hSw => ?_⟩) (by assumption) ?_
  · clear hSw
    go_simp
  try simp only [Act.put, List.setIfInBounds_toArray, List.set_cons_zero, List.set_cons_succ]
  refine wpAnyH_take (i := 35) (v := .pointer (some ⟨bw, 0, none⟩)) rfl (by kernel_rfl) (by kernel_rfl) (by kernel_rfl) (fun _ _ _ h => absurd h.1 (by simp)) (Or.inl ⟨by rfl, fun w7 hSw => ?_⟩) (by assumption) ?_
  · clear hSw
    go_simp
  try simp only [Act.put, List.setIfInBounds_toArray, List.set_cons_zero, List.set_cons_succ]
  refine wpAnyH_take (i := 36) (v := .pointer (some ⟨bw, 0, none⟩)) rfl (by kernel_rfl) (by kernel_rfl) (by kernel_rfl) (fun _ _ _ h => absurd h.1 (by simp)) (Or.inl ⟨by rfl, fun w7 hSw => ?_⟩) (by assumption) ?_
  · clear hSw
    go_simp
  try simp only [Act.put, List.setIfInBounds_toArray, List.set_cons_zero, List.set_cons_succ]
  refine wpAnyH_take (i := 37) (v := .pointer (some ⟨bw, 3, none⟩)) rfl (by kernel_rfl) (by kernel_rfl) (by kernel_rfl) (fun _ _ _ h => absurd h.1 (by simp)) (Or.inl ⟨by rfl, fun w7 hSw => ?_⟩) (by assumption) ?_
  · clear hSw
    go_simp
  try simp only [Act.put, List.setIfInBounds_toArray, List.set_cons_zero, List.set_cons_succ]
  refine wpAnyH_take (i := 38) (v := .pointer (some ⟨bw, 4, none⟩)) rfl (by kernel_rfl) (by kernel_rfl) (by kernel_rfl) (fun _ _ _ h => absurd h.1 (by simp)) (Or.inl ⟨by rfl, fun w7 hSw => ?_⟩) (by assumption) ?_
  · clear hSw
    go_simp
  try simp only [Act.put, List.setIfInBounds_toArray, List.set_cons_zero, List.set_cons_succ]
  refine wpAnyH_take (i := 39) (v := .int .i8 ty) rfl (by kernel_rfl) (by kernel_rfl) (by kernel_rfl) (fun _ _ _ h => absurd h.1 (by simp)) (Or.inl ⟨by rfl, fun w7 hSw => ?_⟩) (by assumption) ?_
  · obtain ⟨⟨c0, c1, c2, c3, c4, c5⟩, lb_⟩ := hSw
    simp only at c0 c1 c2 c3 c4 c5
    go_simp
  try simp only [Act.put, List.setIfInBounds_toArray, List.set_cons_zero, List.set_cons_succ]
  refine wpAnyH_take (i := 40) (v := .int .i64 ty) rfl (by kernel_rfl) (by kernel_rfl) (by kernel_rfl) (fun _ _ _ h => absurd h.1 (by simp)) (Or.inl ⟨by rfl, fun w7 hSw => ?_⟩) (by assumption) ?_
  · clear hSw
    go_simp
  try simp only [Act.put, List.setIfInBounds_toArray, List.set_cons_zero, List.set_cons_succ]
  refine wpAnyH_take (i := 45) (v := .pointer (some ⟨bw, 0, none⟩)) rfl (by kernel_rfl) (by kernel_rfl) (by kernel_rfl) (fun _ _ _ h => absurd h.1 (by simp)) (Or.inl ⟨by rfl, fun w7 hSw => ?_⟩) (by assumption) ?_
  · clear hSw
    go_simp
  try simp only [Act.put, List.setIfInBounds_toArray, List.set_cons_zero, List.set_cons_succ]
  refine wpAnyH_take (i := 46) (v := .pointer (some ⟨bw, 0, none⟩)) rfl (by kernel_rfl) (by kernel_rfl) (by kernel_rfl) (fun _ _ _ h => absurd h.1 (by simp)) (Or.inl ⟨by rfl, fun w7 hSw => ?_⟩) (by assumption) ?_
  · clear hSw
    go_simp
  try simp only [Act.put, List.setIfInBounds_toArray, List.set_cons_zero, List.set_cons_succ]
  refine wpAnyH_take (i := 47) (v := .pointer (some ⟨bw, 5, none⟩)) rfl (by kernel_rfl) (by kernel_rfl) (by kernel_rfl) (fun _ _ _ h => absurd h.1 (by simp)) (Or.inl ⟨by rfl, fun w7 hSw => ?_⟩) (by assumption) ?_
  · clear hSw
    go_simp
  try simp only [Act.put, List.setIfInBounds_toArray, List.set_cons_zero, List.set_cons_succ]
  refine wpAnyH_take (i := 48) (v := .int .i8 (on : Int)) rfl (by kernel_rfl) (by kernel_rfl) (by kernel_rfl) (fun _ _ _ h => absurd h.1 (by simp)) (Or.inl ⟨by rfl, fun w7 hSw => ?_⟩) (by assumption) ?_
  · obtain ⟨⟨c0, c1, c2, c3, c4, c5⟩, lb_⟩ := hSw
    simp only at c0 c1 c2 c3 c4 c5
    go_simp
  try simp only [Act.put, List.setIfInBounds_toArray, List.set_cons_zero, List.set_cons_succ]
  refine wpAnyH_ready (rs := [6]) (by kernel_rfl) (by simp) ?_
  refine AllReadyH.cons rfl (fun K hK => ?_) AllReadyH.nil
  · skip
    go_simp
    go_wp2_with (go_at_call 82
                 refine (HX.out W).mono ?_
                 rintro e xt1 ⟨rfl, kt1⟩
                 have Kt1 := Lib.hid (kTrans K0.out kt1)
                 have St1 := Lib.hid (show SwP bw fx fy (sn : Int) tx ty (on : Int) xt1 from hHeld.below kt1))
    refine hK.out _ _ St1.out (fun hHeld1 => ?_)
    clear hK K kt1
    refine wpAnyH_take (i := 7) (v := .string V0) rfl (by kernel_rfl) (by kernel_rfl) (by kernel_rfl) (fun _ _ _ h => absurd h.1 (by simp)) (Or.inl ⟨by rfl, fun w7 hSw => ?_⟩) (by assumption) ?_
    · clear hSw
      have hv_ := E0.out
      go_simp
      first | done | rw [hv_]
    try simp only [Act.put, List.setIfInBounds_toArray, List.set_cons_zero, List.set_cons_succ]
    refine wpAnyH_ready (rs := [14]) (by kernel_rfl) (by simp) ?_
    refine AllReadyH.cons rfl (fun K hK => ?_) AllReadyH.nil
    · skip
      go_simp
      go_wp2_with (go_at_call 82
                   refine (HY.out xt1).mono ?_
                   rintro e xt2 ⟨rfl, kt2⟩
                   have Kt2 := Lib.hid (kTrans Kt1.out kt2)
                   have St2 := Lib.hid (show SwP bw fx fy (sn : Int) tx ty (on : Int) xt2 from hHeld1.below kt2))
      refine hK.out _ _ St2.out (fun hHeld2 => ?_)
      clear hK K kt2
      refine wpAnyH_take (i := 15) (v := .string V1) rfl (by kernel_rfl) (by kernel_rfl) (by kernel_rfl) (fun _ _ _ h => absurd h.1 (by simp)) (Or.inl ⟨by rfl, fun w7 hSw => ?_⟩) (by assumption) ?_
      · clear hSw
        have hv_ := E1.out
        go_simp
        first | done | rw [hv_]
      try simp only [Act.put, List.setIfInBounds_toArray, List.set_cons_zero, List.set_cons_succ]
      refine wpAnyH_take (i := 16) (v := .string V2) rfl (by kernel_rfl) (by kernel_rfl) (by kernel_rfl) (fun _ _ _ h => absurd h.1 (by simp)) (Or.inl ⟨by rfl, fun w7 hSw => ?_⟩) (by assumption) ?_
      · clear hSw
        have hv_ := E2.out
        go_simp
        first | done | rw [hv_]
      try simp only [Act.put, List.setIfInBounds_toArray, List.set_cons_zero, List.set_cons_succ]
      refine wpAnyH_ready (rs := [17]) (by kernel_rfl) (by simp) ?_
      refine AllReadyH.cons rfl (fun K hK => ?_) AllReadyH.nil
      · skip
        go_simp
        go_wp2_with (go_at_call 89
                     refine (l02Sides_any xt2).mono ?_
                     rintro e xt3 ⟨ga3, rfl, hw6, kt3⟩
                     have wa3 := Lib.hid hw6
                     have Kt3 := Lib.hid (kTrans Kt2.out kt3)
                     have St3 := Lib.hid (show SwP bw fx fy (sn : Int) tx ty (on : Int) xt3 from hHeld2.below kt3)
                     clear hw6)
        refine hK.out _ _ St3.out (fun hHeld3 => ?_)
        clear hK K kt3
        refine wpAnyH_take (i := 22) (v := .pointer (some ⟨ga3, sn, none⟩)) rfl (by kernel_rfl) (by kernel_rfl) (by kernel_rfl) (fun _ _ _ h => absurd h.1 (by simp)) (Or.inl ⟨by rfl, fun w7 hSw => ?_⟩) (by assumption) ?_
        · clear hSw
          go_simp
        try simp only [Act.put, List.setIfInBounds_toArray, List.set_cons_zero, List.set_cons_succ]
        refine wpAnyH_ready (rs := [23, 32]) (by kernel_rfl) (by simp) ?_
        refine AllReadyH.cons rfl (fun K hK => ?_) (AllReadyH.cons rfl (fun K hK => ?_) AllReadyH.nil)
        · skip
          have cw4 := (wa3.out.1 sn hs4).trans (congrArg (fun z => some (Value.string z)) HKS.out)
          have lw4 := wa3.out.2
          go_simp
          refine hK.out _ _ hHeld3 (fun hHeld4 => ?_)
          clear hK K cw4 lw4
          refine wpAnyH_take (i := 24) (v := .string V3) rfl (by kernel_rfl) (by kernel_rfl) (by kernel_rfl) (fun _ _ _ h => absurd h.1 (by simp)) (Or.inl ⟨by rfl, fun w7 hSw => ?_⟩) (by assumption) ?_
          · clear hSw
            have hv_ := E3.out
            go_simp
            first | done | rw [hv_]
          try simp only [Act.put, List.setIfInBounds_toArray, List.set_cons_zero, List.set_cons_succ]
          refine wpAnyH_take (i := 25) (v := .string V4) rfl (by kernel_rfl) (by kernel_rfl) (by kernel_rfl) (fun _ _ _ h => absurd h.1 (by simp)) (Or.inl ⟨by rfl, fun w7 hSw => ?_⟩) (by assumption) ?_
          · clear hSw
            have hv_ := E4.out
            go_simp
            first | done | rw [hv_]
          try simp only [Act.put, List.setIfInBounds_toArray, List.set_cons_zero, List.set_cons_succ]
          refine wpAnyH_ready (rs := [32]) (by kernel_rfl) (by simp) ?_
          refine AllReadyH.cons rfl (fun K hK => ?_) AllReadyH.nil
          · skip
            go_simp
            go_wp2_with (go_at_call 82
                         refine (HT.out xt3).mono ?_
                         rintro e xt5 ⟨rfl, kt5⟩
                         have Kt5 := Lib.hid (kTrans Kt3.out kt5)
                         have St5 := Lib.hid (show SwP bw fx fy (sn : Int) tx ty (on : Int) xt5 from hHeld4.below kt5))
            have wa5 := Lib.hid (wa3.out.below kt5)
            refine hK.out _ _ St5.out (fun hHeld5 => ?_)
            clear hK K kt5
            refine wpAnyH_take (i := 33) (v := .string V5) rfl (by kernel_rfl) (by kernel_rfl) (by kernel_rfl) (fun _ _ _ h => absurd h.1 (by simp)) (Or.inl ⟨by rfl, fun w7 hSw => ?_⟩) (by assumption) ?_
            · clear hSw
              have hv_ := E5.out
              go_simp
              first | done | rw [hv_]
            try simp only [Act.put, List.setIfInBounds_toArray, List.set_cons_zero, List.set_cons_succ]
            refine wpAnyH_take (i := 34) (v := .string V6) rfl (by kernel_rfl) (by kernel_rfl) (by kernel_rfl) (fun _ _ _ h => absurd h.1 (by simp)) (Or.inl ⟨by rfl, fun w7 hSw => ?_⟩) (by assumption) ?_
            · clear hSw
              have hv_ := E6.out
              go_simp
              first | done | rw [hv_]
            try simp only [Act.put, List.setIfInBounds_toArray, List.set_cons_zero, List.set_cons_succ]
            refine wpAnyH_ready (rs := [41]) (by kernel_rfl) (by simp) ?_
            refine AllReadyH.cons rfl (fun K hK => ?_) AllReadyH.nil
            · skip
              go_simp
              go_wp2_with (go_at_call 82
                           refine (HD.out xt5).mono ?_
                           rintro e xt6 ⟨rfl, kt6⟩
                           have Kt6 := Lib.hid (kTrans Kt5.out kt6)
                           have St6 := Lib.hid (show SwP bw fx fy (sn : Int) tx ty (on : Int) xt6 from hHeld5.below kt6))
              have wa6 := Lib.hid (wa5.out.below kt6)
              refine hK.out _ _ St6.out (fun hHeld6 => ?_)
              clear hK K kt6
              refine wpAnyH_take (i := 42) (v := .string V7) rfl (by kernel_rfl) (by kernel_rfl) (by kernel_rfl) (fun _ _ _ h => absurd h.1 (by simp)) (Or.inl ⟨by rfl, fun w7 hSw => ?_⟩) (by assumption) ?_
              · clear hSw
                have hv_ := E7.out
                go_simp
                first | done | rw [hv_]
              try simp only [Act.put, List.setIfInBounds_toArray, List.set_cons_zero, List.set_cons_succ]
              refine wpAnyH_take (i := 43) (v := .string V8) rfl (by kernel_rfl) (by kernel_rfl) (by kernel_rfl) (fun _ _ _ h => absurd h.1 (by simp)) (Or.inl ⟨by rfl, fun w7 hSw => ?_⟩) (by assumption) ?_
              · clear hSw
                have hv_ := E8.out
                go_simp
                first | done | rw [hv_]
              try simp only [Act.put, List.setIfInBounds_toArray, List.set_cons_zero, List.set_cons_succ]
              refine wpAnyH_ready (rs := [44]) (by kernel_rfl) (by simp) ?_
              refine AllReadyH.cons rfl (fun K hK => ?_) AllReadyH.nil
              · skip
                go_simp
                go_wp2_with (go_at_call 89
                             refine (l02Sides_any xt6).mono ?_
                             rintro e xt7 ⟨gb7, rfl, hw6, kt7⟩
                             have wb7 := Lib.hid hw6
                             have Kt7 := Lib.hid (kTrans Kt6.out kt7)
                             have St7 := Lib.hid (show SwP bw fx fy (sn : Int) tx ty (on : Int) xt7 from hHeld6.below kt7)
                             clear hw6)
                have wa7 := Lib.hid (wa6.out.below kt7)
                refine hK.out _ _ St7.out (fun hHeld7 => ?_)
                clear hK K kt7
                refine wpAnyH_take (i := 49) (v := .pointer (some ⟨gb7, on, none⟩)) rfl (by kernel_rfl) (by kernel_rfl) (by kernel_rfl) (fun _ _ _ h => absurd h.1 (by simp)) (Or.inl ⟨by rfl, fun w7 hSw => ?_⟩) (by assumption) ?_
                · clear hSw
                  go_simp
                try simp only [Act.put, List.setIfInBounds_toArray, List.set_cons_zero, List.set_cons_succ]
                refine wpAnyH_ready (rs := [50]) (by kernel_rfl) (by simp) ?_
                refine AllReadyH.cons rfl (fun K hK => ?_) AllReadyH.nil
                · skip
                  have cw8 := (wb7.out.1 on ho4).trans (congrArg (fun z => some (Value.string z)) HKO.out)
                  have lw8 := wb7.out.2
                  go_simp
                  refine hK.out _ _ hHeld7 (fun hHeld8 => ?_)
                  clear hK K cw8 lw8
                  refine wpAnyH_take (i := 51) (v := .string V9) rfl (by kernel_rfl) (by kernel_rfl) (by kernel_rfl) (fun _ _ _ h => absurd h.1 (by simp)) (Or.inl ⟨by rfl, fun w7 hSw => ?_⟩) (by assumption) ?_
                  · clear hSw
                    have hv_ := E9.out
                    go_simp
                    first | done | rw [hv_]
                  try simp only [Act.put, List.setIfInBounds_toArray, List.set_cons_zero, List.set_cons_succ]
                  refine wpAnyH_ready (rs := [52]) (by kernel_rfl) (by simp) ?_
                  refine AllReadyH.cons rfl (fun K hK => ?_) AllReadyH.nil
                  · skip
                    go_simp
                    refine hK.out _ _ hHeld8 (fun hHeld => ?_)
                    clear hK K
                    refine wpAnyH_done (by kernel_rfl) ?_ _
                    refine ⟨rfl, ?_⟩
                    clear hHeld
                    go_wp2
                    go_ret
                    exact ⟨rfl, Kt7.out⟩
        · skip
          go_simp
          go_wp2_with (go_at_call 82
                       refine (HT.out xt3).mono ?_
                       rintro e xt4 ⟨rfl, kt4⟩
                       have Kt4 := Lib.hid (kTrans Kt3.out kt4)
                       have St4 := Lib.hid (show SwP bw fx fy (sn : Int) tx ty (on : Int) xt4 from hHeld3.below kt4))
          have wa4 := Lib.hid (wa3.out.below kt4)
          refine hK.out _ _ St4.out (fun hHeld4 => ?_)
          clear hK K kt4
          refine wpAnyH_ready (rs := [23, 41]) (by kernel_rfl) (by simp) ?_
          refine AllReadyH.cons rfl (fun K hK => ?_) (AllReadyH.cons rfl (fun K hK => ?_) AllReadyH.nil)
          · skip
            have cw5 := (wa4.out.1 sn hs4).trans (congrArg (fun z => some (Value.string z)) HKS.out)
            have lw5 := wa4.out.2
            go_simp
            refine hK.out _ _ hHeld4 (fun hHeld5 => ?_)
            clear hK K cw5 lw5
            refine wpAnyH_take (i := 24) (v := .string V3) rfl (by kernel_rfl) (by kernel_rfl) (by kernel_rfl) (fun _ _ _ h => absurd h.1 (by simp)) (Or.inl ⟨by rfl, fun w7 hSw => ?_⟩) (by assumption) ?_
            · clear hSw
              have hv_ := E3.out
              go_simp
              first | done | rw [hv_]
            try simp only [Act.put, List.setIfInBounds_toArray, List.set_cons_zero, List.set_cons_succ]
            refine wpAnyH_take (i := 25) (v := .string V4) rfl (by kernel_rfl) (by kernel_rfl) (by kernel_rfl) (fun _ _ _ h => absurd h.1 (by simp)) (Or.inl ⟨by rfl, fun w7 hSw => ?_⟩) (by assumption) ?_
            · clear hSw
              have hv_ := E4.out
              go_simp
              first | done | rw [hv_]
            try simp only [Act.put, List.setIfInBounds_toArray, List.set_cons_zero, List.set_cons_succ]
            refine wpAnyH_take (i := 33) (v := .string V5) rfl (by kernel_rfl) (by kernel_rfl) (by kernel_rfl) (fun _ _ _ h => absurd h.1 (by simp)) (Or.inl ⟨by rfl, fun w7 hSw => ?_⟩) (by assumption) ?_
            · clear hSw
              have hv_ := E5.out
              go_simp
              first | done | rw [hv_]
            try simp only [Act.put, List.setIfInBounds_toArray, List.set_cons_zero, List.set_cons_succ]
            refine wpAnyH_take (i := 34) (v := .string V6) rfl (by kernel_rfl) (by kernel_rfl) (by kernel_rfl) (fun _ _ _ h => absurd h.1 (by simp)) (Or.inl ⟨by rfl, fun w7 hSw => ?_⟩) (by assumption) ?_
            · clear hSw
              have hv_ := E6.out
              go_simp
              first | done | rw [hv_]
            try simp only [Act.put, List.setIfInBounds_toArray, List.set_cons_zero, List.set_cons_succ]
            refine wpAnyH_ready (rs := [41]) (by kernel_rfl) (by simp) ?_
            refine AllReadyH.cons rfl (fun K hK => ?_) AllReadyH.nil
            · skip
              go_simp
              go_wp2_with (go_at_call 82
                           refine (HD.out xt4).mono ?_
                           rintro e xt6 ⟨rfl, kt6⟩
                           have Kt6 := Lib.hid (kTrans Kt4.out kt6)
                           have St6 := Lib.hid (show SwP bw fx fy (sn : Int) tx ty (on : Int) xt6 from hHeld5.below kt6))
              have wa6 := Lib.hid (wa4.out.below kt6)
              refine hK.out _ _ St6.out (fun hHeld6 => ?_)
              clear hK K kt6
              refine wpAnyH_take (i := 42) (v := .string V7) rfl (by kernel_rfl) (by kernel_rfl) (by kernel_rfl) (fun _ _ _ h => absurd h.1 (by simp)) (Or.inl ⟨by rfl, fun w7 hSw => ?_⟩) (by assumption) ?_
              · clear hSw
                have hv_ := E7.out
                go_simp
                first | done | rw [hv_]
              try simp only [Act.put, List.setIfInBounds_toArray, List.set_cons_zero, List.set_cons_succ]
              refine wpAnyH_take (i := 43) (v := .string V8) rfl (by kernel_rfl) (by kernel_rfl) (by kernel_rfl) (fun _ _ _ h => absurd h.1 (by simp)) (Or.inl ⟨by rfl, fun w7 hSw => ?_⟩) (by assumption) ?_
              · clear hSw
                have hv_ := E8.out
                go_simp
                first | done | rw [hv_]
              try simp only [Act.put, List.setIfInBounds_toArray, List.set_cons_zero, List.set_cons_succ]
              refine wpAnyH_ready (rs := [44]) (by kernel_rfl) (by simp) ?_
              refine AllReadyH.cons rfl (fun K hK => ?_) AllReadyH.nil
              · skip
                go_simp
                go_wp2_with (go_at_call 89
                             refine (l02Sides_any xt6).mono ?_
                             rintro e xt7 ⟨gb7, rfl, hw6, kt7⟩
                             have wb7 := Lib.hid hw6
                             have Kt7 := Lib.hid (kTrans Kt6.out kt7)
                             have St7 := Lib.hid (show SwP bw fx fy (sn : Int) tx ty (on : Int) xt7 from hHeld6.below kt7)
                             clear hw6)
                have wa7 := Lib.hid (wa6.out.below kt7)
                refine hK.out _ _ St7.out (fun hHeld7 => ?_)
                clear hK K kt7
                refine wpAnyH_take (i := 49) (v := .pointer (some ⟨gb7, on, none⟩)) rfl (by kernel_rfl) (by kernel_rfl) (by kernel_rfl) (fun _ _ _ h => absurd h.1 (by simp)) (Or.inl ⟨by rfl, fun w7 hSw => ?_⟩) (by assumption) ?_
                · clear hSw
                  go_simp
                try simp only [Act.put, List.setIfInBounds_toArray, List.set_cons_zero, List.set_cons_succ]
                refine wpAnyH_ready (rs := [50]) (by kernel_rfl) (by simp) ?_
                refine AllReadyH.cons rfl (fun K hK => ?_) AllReadyH.nil
                · skip
                  have cw8 := (wb7.out.1 on ho4).trans (congrArg (fun z => some (Value.string z)) HKO.out)
                  have lw8 := wb7.out.2
                  go_simp
                  refine hK.out _ _ hHeld7 (fun hHeld8 => ?_)
                  clear hK K cw8 lw8
                  refine wpAnyH_take (i := 51) (v := .string V9) rfl (by kernel_rfl) (by kernel_rfl) (by kernel_rfl) (fun _ _ _ h => absurd h.1 (by simp)) (Or.inl ⟨by rfl, fun w7 hSw => ?_⟩) (by assumption) ?_
                  · clear hSw
                    have hv_ := E9.out
                    go_simp
                    first | done | rw [hv_]
                  try simp only [Act.put, List.setIfInBounds_toArray, List.set_cons_zero, List.set_cons_succ]
                  refine wpAnyH_ready (rs := [52]) (by kernel_rfl) (by simp) ?_
                  refine AllReadyH.cons rfl (fun K hK => ?_) AllReadyH.nil
                  · skip
                    go_simp
                    refine hK.out _ _ hHeld8 (fun hHeld => ?_)
                    clear hK K
                    refine wpAnyH_done (by kernel_rfl) ?_ _
                    refine ⟨rfl, ?_⟩
                    clear hHeld
                    go_wp2
                    go_ret
                    exact ⟨rfl, Kt7.out⟩
          · skip
            go_simp
            go_wp2_with (go_at_call 82
                         refine (HD.out xt4).mono ?_
                         rintro e xt5 ⟨rfl, kt5⟩
                         have Kt5 := Lib.hid (kTrans Kt4.out kt5)
                         have St5 := Lib.hid (show SwP bw fx fy (sn : Int) tx ty (on : Int) xt5 from hHeld4.below kt5))
            have wa5 := Lib.hid (wa4.out.below kt5)
            refine hK.out _ _ St5.out (fun hHeld5 => ?_)
            clear hK K kt5
            refine wpAnyH_ready (rs := [23, 44]) (by kernel_rfl) (by simp) ?_
            refine AllReadyH.cons rfl (fun K hK => ?_) (AllReadyH.cons rfl (fun K hK => ?_) AllReadyH.nil)
            · skip
              have cw6 := (wa5.out.1 sn hs4).trans (congrArg (fun z => some (Value.string z)) HKS.out)
              have lw6 := wa5.out.2
              go_simp
              refine hK.out _ _ hHeld5 (fun hHeld6 => ?_)
              clear hK K cw6 lw6
              refine wpAnyH_take (i := 24) (v := .string V3) rfl (by kernel_rfl) (by kernel_rfl) (by kernel_rfl) (fun _ _ _ h => absurd h.1 (by simp)) (Or.inl ⟨by rfl, fun w7 hSw => ?_⟩) (by assumption) ?_
              · clear hSw
                have hv_ := E3.out
                go_simp
                first | done | rw [hv_]
              try simp only [Act.put, List.setIfInBounds_toArray, List.set_cons_zero, List.set_cons_succ]
              refine wpAnyH_take (i := 25) (v := .string V4) rfl (by kernel_rfl) (by kernel_rfl) (by kernel_rfl) (fun _ _ _ h => absurd h.1 (by simp)) (Or.inl ⟨by rfl, fun w7 hSw => ?_⟩) (by assumption) ?_
              · clear hSw
                have hv_ := E4.out
                go_simp
                first | done | rw [hv_]
              try simp only [Act.put, List.setIfInBounds_toArray, List.set_cons_zero, List.set_cons_succ]
              refine wpAnyH_take (i := 33) (v := .string V5) rfl (by kernel_rfl) (by kernel_rfl) (by kernel_rfl) (fun _ _ _ h => absurd h.1 (by simp)) (Or.inl ⟨by rfl, fun w7 hSw => ?_⟩) (by assumption) ?_
              · clear hSw
                have hv_ := E5.out
                go_simp
                first | done | rw [hv_]
              try simp only [Act.put, List.setIfInBounds_toArray, List.set_cons_zero, List.set_cons_succ]
              refine wpAnyH_take (i := 34) (v := .string V6) rfl (by kernel_rfl) (by kernel_rfl) (by kernel_rfl) (fun _ _ _ h => absurd h.1 (by simp)) (Or.inl ⟨by rfl, fun w7 hSw => ?_⟩) (by assumption) ?_
              · clear hSw
                have hv_ := E6.out
                go_simp
                first | done | rw [hv_]
              try simp only [Act.put, List.setIfInBounds_toArray, List.set_cons_zero, List.set_cons_succ]
              refine wpAnyH_take (i := 42) (v := .string V7) rfl (by kernel_rfl) (by kernel_rfl) (by kernel_rfl) (fun _ _ _ h => absurd h.1 (by simp)) (Or.inl ⟨by rfl, fun w7 hSw => ?_⟩) (by assumption) ?_
              · clear hSw
                have hv_ := E7.out
                go_simp
                first | done | rw [hv_]
              try simp only [Act.put, List.setIfInBounds_toArray, List.set_cons_zero, List.set_cons_succ]
              refine wpAnyH_take (i := 43) (v := .string V8) rfl (by kernel_rfl) (by kernel_rfl) (by kernel_rfl) (fun _ _ _ h => absurd h.1 (by simp)) (Or.inl ⟨by rfl, fun w7 hSw => ?_⟩) (by assumption) ?_
              · clear hSw
                have hv_ := E8.out
                go_simp
                first | done | rw [hv_]
              try simp only [Act.put, List.setIfInBounds_toArray, List.set_cons_zero, List.set_cons_succ]
              refine wpAnyH_ready (rs := [44]) (by kernel_rfl) (by simp) ?_
              refine AllReadyH.cons rfl (fun K hK => ?_) AllReadyH.nil
              · skip
                go_simp
                go_wp2_with (go_at_call 89
                             refine (l02Sides_any xt5).mono ?_
                             rintro e xt7 ⟨gb7, rfl, hw6, kt7⟩
                             have wb7 := Lib.hid hw6
                             have Kt7 := Lib.hid (kTrans Kt5.out kt7)
                             have St7 := Lib.hid (show SwP bw fx fy (sn : Int) tx ty (on : Int) xt7 from hHeld6.below kt7)
                             clear hw6)
                have wa7 := Lib.hid (wa5.out.below kt7)
                refine hK.out _ _ St7.out (fun hHeld7 => ?_)
                clear hK K kt7
                refine wpAnyH_take (i := 49) (v := .pointer (some ⟨gb7, on, none⟩)) rfl (by kernel_rfl) (by kernel_rfl) (by kernel_rfl) (fun _ _ _ h => absurd h.1 (by simp)) (Or.inl ⟨by rfl, fun w7 hSw => ?_⟩) (by assumption) ?_
                · clear hSw
                  go_simp
                try simp only [Act.put, List.setIfInBounds_toArray, List.set_cons_zero, List.set_cons_succ]
                refine wpAnyH_ready (rs := [50]) (by kernel_rfl) (by simp) ?_
                refine AllReadyH.cons rfl (fun K hK => ?_) AllReadyH.nil
                · skip
                  have cw8 := (wb7.out.1 on ho4).trans (congrArg (fun z => some (Value.string z)) HKO.out)
                  have lw8 := wb7.out.2
                  go_simp
                  refine hK.out _ _ hHeld7 (fun hHeld8 => ?_)
                  clear hK K cw8 lw8
                  refine wpAnyH_take (i := 51) (v := .string V9) rfl (by kernel_rfl) (by kernel_rfl) (by kernel_rfl) (fun _ _ _ h => absurd h.1 (by simp)) (Or.inl ⟨by rfl, fun w7 hSw => ?_⟩) (by assumption) ?_
                  · clear hSw
                    have hv_ := E9.out
                    go_simp
                    first | done | rw [hv_]
                  try simp only [Act.put, List.setIfInBounds_toArray, List.set_cons_zero, List.set_cons_succ]
                  refine wpAnyH_ready (rs := [52]) (by kernel_rfl) (by simp) ?_
                  refine AllReadyH.cons rfl (fun K hK => ?_) AllReadyH.nil
                  · skip
                    go_simp
                    refine hK.out _ _ hHeld8 (fun hHeld => ?_)
                    clear hK K
                    refine wpAnyH_done (by kernel_rfl) ?_ _
                    refine ⟨rfl, ?_⟩
                    clear hHeld
                    go_wp2
                    go_ret
                    exact ⟨rfl, Kt7.out⟩
            · skip
              go_simp
              go_wp2_with (go_at_call 89
                           refine (l02Sides_any xt5).mono ?_
                           rintro e xt6 ⟨gb6, rfl, hw6, kt6⟩
                           have wb6 := Lib.hid hw6
                           have Kt6 := Lib.hid (kTrans Kt5.out kt6)
                           have St6 := Lib.hid (show SwP bw fx fy (sn : Int) tx ty (on : Int) xt6 from hHeld5.below kt6)
                           clear hw6)
              have wa6 := Lib.hid (wa5.out.below kt6)
              refine hK.out _ _ St6.out (fun hHeld6 => ?_)
              clear hK K kt6
              refine wpAnyH_take (i := 49) (v := .pointer (some ⟨gb6, on, none⟩)) rfl (by kernel_rfl) (by kernel_rfl) (by kernel_rfl) (fun _ _ _ h => absurd h.1 (by simp)) (Or.inl ⟨by rfl, fun w7 hSw => ?_⟩) (by assumption) ?_
              · clear hSw
                go_simp
              try simp only [Act.put, List.setIfInBounds_toArray, List.set_cons_zero, List.set_cons_succ]
              refine wpAnyH_ready (rs := [23, 50]) (by kernel_rfl) (by simp) ?_
              refine AllReadyH.cons rfl (fun K hK => ?_) (AllReadyH.cons rfl (fun K hK => ?_) AllReadyH.nil)
              · skip
                have cw7 := (wa6.out.1 sn hs4).trans (congrArg (fun z => some (Value.string z)) HKS.out)
                have lw7 := wa6.out.2
                go_simp
                refine hK.out _ _ hHeld6 (fun hHeld7 => ?_)
                clear hK K cw7 lw7
                refine wpAnyH_take (i := 24) (v := .string V3) rfl (by kernel_rfl) (by kernel_rfl) (by kernel_rfl) (fun _ _ _ h => absurd h.1 (by simp)) (Or.inl ⟨by rfl, fun w7 hSw => ?_⟩) (by assumption) ?_
                · clear hSw
                  have hv_ := E3.out
                  go_simp
                  first | done | rw [hv_]
                try simp only [Act.put, List.setIfInBounds_toArray, List.set_cons_zero, List.set_cons_succ]
                refine wpAnyH_take (i := 25) (v := .string V4) rfl (by kernel_rfl) (by kernel_rfl) (by kernel_rfl) (fun _ _ _ h => absurd h.1 (by simp)) (Or.inl ⟨by rfl, fun w7 hSw => ?_⟩) (by assumption) ?_
                · clear hSw
                  have hv_ := E4.out
                  go_simp
                  first | done | rw [hv_]
                try simp only [Act.put, List.setIfInBounds_toArray, List.set_cons_zero, List.set_cons_succ]
                refine wpAnyH_take (i := 33) (v := .string V5) rfl (by kernel_rfl) (by kernel_rfl) (by kernel_rfl) (fun _ _ _ h => absurd h.1 (by simp)) (Or.inl ⟨by rfl, fun w7 hSw => ?_⟩) (by assumption) ?_
                · clear hSw
                  have hv_ := E5.out
                  go_simp
                  first | done | rw [hv_]
                try simp only [Act.put, List.setIfInBounds_toArray, List.set_cons_zero, List.set_cons_succ]
                refine wpAnyH_take (i := 34) (v := .string V6) rfl (by kernel_rfl) (by kernel_rfl) (by kernel_rfl) (fun _ _ _ h => absurd h.1 (by simp)) (Or.inl ⟨by rfl, fun w7 hSw => ?_⟩) (by assumption) ?_
                · clear hSw
                  have hv_ := E6.out
                  go_simp
                  first | done | rw [hv_]
                try simp only [Act.put, List.setIfInBounds_toArray, List.set_cons_zero, List.set_cons_succ]
                refine wpAnyH_take (i := 42) (v := .string V7) rfl (by kernel_rfl) (by kernel_rfl) (by kernel_rfl) (fun _ _ _ h => absurd h.1 (by simp)) (Or.inl ⟨by rfl, fun w7 hSw => ?_⟩) (by assumption) ?_
                · clear hSw
                  have hv_ := E7.out
                  go_simp
                  first | done | rw [hv_]
                try simp only [Act.put, List.setIfInBounds_toArray, List.set_cons_zero, List.set_cons_succ]
                refine wpAnyH_take (i := 43) (v := .string V8) rfl (by kernel_rfl) (by kernel_rfl) (by kernel_rfl) (fun _ _ _ h => absurd h.1 (by simp)) (Or.inl ⟨by rfl, fun w7 hSw => ?_⟩) (by assumption) ?_
                · clear hSw
                  have hv_ := E8.out
                  go_simp
                  first | done | rw [hv_]
                try simp only [Act.put, List.setIfInBounds_toArray, List.set_cons_zero, List.set_cons_succ]
                refine wpAnyH_ready (rs := [50]) (by kernel_rfl) (by simp) ?_
                refine AllReadyH.cons rfl (fun K hK => ?_) AllReadyH.nil
                · skip
                  have cw8 := (wb6.out.1 on ho4).trans (congrArg (fun z => some (Value.string z)) HKO.out)
                  have lw8 := wb6.out.2
                  go_simp
                  refine hK.out _ _ hHeld7 (fun hHeld8 => ?_)
                  clear hK K cw8 lw8
                  refine wpAnyH_take (i := 51) (v := .string V9) rfl (by kernel_rfl) (by kernel_rfl) (by kernel_rfl) (fun _ _ _ h => absurd h.1 (by simp)) (Or.inl ⟨by rfl, fun w7 hSw => ?_⟩) (by assumption) ?_
                  · clear hSw
                    have hv_ := E9.out
                    go_simp
                    first | done | rw [hv_]
                  try simp only [Act.put, List.setIfInBounds_toArray, List.set_cons_zero, List.set_cons_succ]
                  refine wpAnyH_ready (rs := [52]) (by kernel_rfl) (by simp) ?_
                  refine AllReadyH.cons rfl (fun K hK => ?_) AllReadyH.nil
                  · skip
                    go_simp
                    refine hK.out _ _ hHeld8 (fun hHeld => ?_)
                    clear hK K
                    refine wpAnyH_done (by kernel_rfl) ?_ _
                    refine ⟨rfl, ?_⟩
                    clear hHeld
                    go_wp2
                    go_ret
                    exact ⟨rfl, Kt6.out⟩
              · skip
                have cw7 := (wb6.out.1 on ho4).trans (congrArg (fun z => some (Value.string z)) HKO.out)
                have lw7 := wb6.out.2
                go_simp
                refine hK.out _ _ hHeld6 (fun hHeld7 => ?_)
                clear hK K cw7 lw7
                refine wpAnyH_ready (rs := [23]) (by kernel_rfl) (by simp) ?_
                refine AllReadyH.cons rfl (fun K hK => ?_) AllReadyH.nil
                · skip
                  have cw8 := (wa6.out.1 sn hs4).trans (congrArg (fun z => some (Value.string z)) HKS.out)
                  have lw8 := wa6.out.2
                  go_simp
                  refine hK.out _ _ hHeld7 (fun hHeld8 => ?_)
                  clear hK K cw8 lw8
                  refine wpAnyH_take (i := 24) (v := .string V3) rfl (by kernel_rfl) (by kernel_rfl) (by kernel_rfl) (fun _ _ _ h => absurd h.1 (by simp)) (Or.inl ⟨by rfl, fun w7 hSw => ?_⟩) (by assumption) ?_
                  · clear hSw
                    have hv_ := E3.out
                    go_simp
                    first | done | rw [hv_]
                  try simp only [Act.put, List.setIfInBounds_toArray, List.set_cons_zero, List.set_cons_succ]
                  refine wpAnyH_take (i := 25) (v := .string V4) rfl (by kernel_rfl) (by kernel_rfl) (by kernel_rfl) (fun _ _ _ h => absurd h.1 (by simp)) (Or.inl ⟨by rfl, fun w7 hSw => ?_⟩) (by assumption) ?_
                  · clear hSw
                    have hv_ := E4.out
                    go_simp
                    first | done | rw [hv_]
                  try simp only [Act.put, List.setIfInBounds_toArray, List.set_cons_zero, List.set_cons_succ]
                  refine wpAnyH_take (i := 33) (v := .string V5) rfl (by kernel_rfl) (by kernel_rfl) (by kernel_rfl) (fun _ _ _ h => absurd h.1 (by simp)) (Or.inl ⟨by rfl, fun w7 hSw => ?_⟩) (by assumption) ?_
                  · clear hSw
                    have hv_ := E5.out
                    go_simp
                    first | done | rw [hv_]
                  try simp only [Act.put, List.setIfInBounds_toArray, List.set_cons_zero, List.set_cons_succ]
                  refine wpAnyH_take (i := 34) (v := .string V6) rfl (by kernel_rfl) (by kernel_rfl) (by kernel_rfl) (fun _ _ _ h => absurd h.1 (by simp)) (Or.inl ⟨by rfl, fun w7 hSw => ?_⟩) (by assumption) ?_
                  · clear hSw
                    have hv_ := E6.out
                    go_simp
                    first | done | rw [hv_]
                  try simp only [Act.put, List.setIfInBounds_toArray, List.set_cons_zero, List.set_cons_succ]
                  refine wpAnyH_take (i := 42) (v := .string V7) rfl (by kernel_rfl) (by kernel_rfl) (by kernel_rfl) (fun _ _ _ h => absurd h.1 (by simp)) (Or.inl ⟨by rfl, fun w7 hSw => ?_⟩) (by assumption) ?_
                  · clear hSw
                    have hv_ := E7.out
                    go_simp
                    first | done | rw [hv_]
                  try simp only [Act.put, List.setIfInBounds_toArray, List.set_cons_zero, List.set_cons_succ]
                  refine wpAnyH_take (i := 43) (v := .string V8) rfl (by kernel_rfl) (by kernel_rfl) (by kernel_rfl) (fun _ _ _ h => absurd h.1 (by simp)) (Or.inl ⟨by rfl, fun w7 hSw => ?_⟩) (by assumption) ?_
                  · clear hSw
                    have hv_ := E8.out
                    go_simp
                    first | done | rw [hv_]
                  try simp only [Act.put, List.setIfInBounds_toArray, List.set_cons_zero, List.set_cons_succ]
                  refine wpAnyH_take (i := 51) (v := .string V9) rfl (by kernel_rfl) (by kernel_rfl) (by kernel_rfl) (fun _ _ _ h => absurd h.1 (by simp)) (Or.inl ⟨by rfl, fun w7 hSw => ?_⟩) (by assumption) ?_
                  · clear hSw
                    have hv_ := E9.out
                    go_simp
                    first | done | rw [hv_]
                  try simp only [Act.put, List.setIfInBounds_toArray, List.set_cons_zero, List.set_cons_succ]
                  refine wpAnyH_ready (rs := [52]) (by kernel_rfl) (by simp) ?_
                  refine AllReadyH.cons rfl (fun K hK => ?_) AllReadyH.nil
                  · skip
                    go_simp
                    refine hK.out _ _ hHeld8 (fun hHeld => ?_)
                    clear hK K
                    refine wpAnyH_done (by kernel_rfl) ?_ _
                    refine ⟨rfl, ?_⟩
                    clear hHeld
                    go_wp2
                    go_ret
                    exact ⟨rfl, Kt6.out⟩
set_option maxRecDepth 100000 in
set_option maxHeartbeats 4000000 in
theorem specWayText_any (fx fy sd tx ty ot : Int) (w : World) (h8 : Wy.in8 ⟨fx, fy, sd, tx, ty, ot⟩) (S : ByteArray) (hS : bsT (wyQ ⟨fx, fy, sd, tx, ty, ot⟩) = S) :
    Calls Tryd.prog 19 #[.agg #[.int .i8 fx, .int .i8 fy, .int .i8 sd, .int .i8 tx, .int .i8 ty, .int .i8 ot]] w fun e w' => e = .returned (.string S) ∧ Below w.heap.size w w' := by
  obtain ⟨W0, hW⟩ : ∃ W0, w.alloc (.cells #[.int .i8 fx, .int .i8 fy, .int .i8 sd, .int .i8 tx, .int .i8 ty, .int .i8 ot] 47) = W0 := ⟨_, rfl⟩
  have k0 : Below w.heap.size w W0 := by rw [← hW]; exact kAlloc (Below.refl _ _) _
  have bX : W0.heap[w.heap.size]? = some (.cells #[.int .i8 fx, .int .i8 fy, .int .i8 sd, .int .i8 tx, .int .i8 ty, .int .i8 ot] 47 (0, 0)) := by rw [← hW]; exact heap_alloc_new _ _
  have hwl := blk_lt bX
  have hy := WyAt.of (p := ⟨fx, fy, sd, tx, ty, ot⟩) bX
  have HV := Lib.hid (l05Plain_any w.heap.size fx fy sd tx ty ot W0 h8 hy hwl)
  have HT := Lib.hid (fun W2 (h2 : Below W0.heap.size W0 W2) (h : wyPlain ⟨fx, fy, sd, tx, ty, ot⟩ = true) => l05Text_any w.heap.size fx fy sd tx ty ot W2 (hy.below h2 hwl) (Nat.lt_of_lt_of_le hwl h2.size) h S (by rw [← hS]; unfold wyQ; rw [if_pos h]))
  obtain ⟨PL, hPL⟩ : ∃ z, wyPlain ⟨fx, fy, sd, tx, ty, ot⟩ = z := ⟨_, rfl⟩
  rw [hPL] at HV HT
  have HS := Lib.hid (show PL = false → (⟨#[]⟩ : ByteArray) = S from fun h => by rw [← hS]; unfold wyQ; rw [if_neg (by rw [hPL, h]; simp)]; rfl)
  have HK0 := Lib.hid k0
  have HW := Lib.hid hW
  clear hS hW bX k0 hy hPL h8
  go_enter Tryd.func19, Tryd.ntmps19
  go_upto_region 1 with fail
  try rw [HW.out]
  go_wp2_with fail
  refine HV.out.mono ?_
  rintro e w1 ⟨rfl, hb1⟩
  have HB1 := Lib.hid hb1
  clear hb1 HV HW
  cases PL with
  | false =>
    obtain rfl := HS.out rfl
    clear HT
    go_wp2
    go_ret
    exact ⟨rfl, kTrans HK0.out HB1.out⟩
  | true =>
    go_wp2_with fail
    refine (HT.out _ HB1.out (by trivial)).mono ?_
    rintro e w2 ⟨rfl, hb2⟩
    have T2 := Lib.hid (kTrans HK0.out (kTrans HB1.out hb2))
    clear hb2 HT HS
    go_wp2
    go_ret
    exact ⟨rfl, T2.out⟩
end Go.Proofs.YtmllfacgonchnaaDoor
