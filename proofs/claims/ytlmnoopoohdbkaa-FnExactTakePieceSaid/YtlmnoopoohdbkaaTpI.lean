/- TakePiece: the program. -/
import Derived.Test.YtlmnoopoohdbkaaTpS
import Derived.Test.YtlmnoopoohdbkaaG4
import Derived.Deep.RegionHeld3
namespace Go.Proofs.Ytlmnoopoohdbkaa
open Go.ChangeShapes Go.WideShapes Go.ChangeAt Go.RowKit Go.Joins Go.Deep
set_option linter.unusedVariables false
set_option linter.unusedSimpArgs false

def onlyT (Q : Exit → Act → World → Prop) : Exit → Act → World → Prop := fun e a w => e = .normal ∧ Q e a w
theorem regionW_of_HT {id : Nat} {P : Program} {ops : Array Oper} {Q : Exit → Act → World → Prop} {a : Act} {w : World} (S : World → Prop) (hm : P.follows .mixedOrders = true)
    (hS : S w.drew) (h : S w.drew → wpAnyH P .any ops (onlyT Q) S ops.size (Array.replicate ops.size false) a w.drew) : (Code.region id ops true).wp P Q a w :=
  wp_mono (wp_region_any hm (wpAny_of_held _ _ _ _ (h hS))) (fun e a w hq => by obtain ⟨rfl, hq⟩ := hq; exact hq)
set_option maxRecDepth 100000 in
set_option maxHeartbeats 8000000 in
theorem implTakePiece_any (b n : Nat) (wd hi x y : Int) (l : List Pc) (w : World) (hn : l.length = n) (hp : PcsAt w b 0 l) (hb : b < w.heap.size) (h8 : All8 l) (hw8 : i8 wd) (hh8 : i8 hi) (hmax : n ≤ 1048576) (R : Bool) (hR : R = boardOk wd hi l) (f : Int) (hf : findFrom x y l 0 = f) (Wr Hr : Int) (lr : List Pc) (C : Int) (hQ : takeQ R wd hi l f = (Wr, Hr, lr, C)) :
    Calls Try.prog 13 #[.agg #[.int .i8 wd, .int .i8 hi, .slice (some ⟨b, 0, none⟩) n n], .agg #[.int .i8 x, .int .i8 y]] w (BoardPost Wr Hr lr C w) := by
  obtain ⟨W0, hW⟩ : ∃ W0, ((w.alloc (.cells #[.int .i8 wd, .int .i8 hi, .slice (some ⟨b, 0, none⟩) n n] 30)).alloc (.cells #[.int .i8 x, .int .i8 y] 34)).alloc (.cells #[.int .i8 0, .int .i8 0, .slice none 0 0] 30) = W0 := ⟨_, rfl⟩
  have k0 : Below w.heap.size w W0 := by rw [← hW]; exact kAlloc (kAlloc (kAlloc (Below.refl _ _) _) _) _
  have hs0 : w.heap.size + 3 ≤ W0.heap.size := by rw [← hW]; simp
  have bX : W0.heap[w.heap.size]? = some (.cells #[.int .i8 wd, .int .i8 hi, .slice (some ⟨b, 0, none⟩) n n] 30 (0, 0)) := by
    rw [← hW]; exact (Below.heap_alloc _ _ _ (by simp; omega)).trans ((Below.heap_alloc _ _ _ (by simp)).trans (heap_alloc_new _ _))
  have bY : W0.heap[w.heap.size + 1]? = some (.cells #[.int .i8 x, .int .i8 y] 34 (0, 0)) := by
    rw [← hW]; exact (Below.heap_alloc _ _ _ (by simp)).trans (heap_two _ _ _)
  have bR : W0.heap[w.heap.size + 1 + 1]? = some (.cells #[.int .i8 0, .int .i8 0, .slice none 0 0] 30 (0, 0)) := by
    rw [← hW]
    have h := heap_alloc_new ((w.alloc (.cells #[.int .i8 wd, .int .i8 hi, .slice (some ⟨b, 0, none⟩) n n] 30)).alloc (.cells #[.int .i8 x, .int .i8 y] 34)) (.cells #[.int .i8 0, .int .i8 0, .slice none 0 0] 30)
    simpa only [World.size_alloc] using h
  have hx := BdAt.of bX
  have hlx := hx.lt
  have HX := Lib.hid (fun W2 (h2 : Below W0.heap.size W0 W2) => hx.below h2 hx.lt)
  have HBR := Lib.hid (fun W2 (h2 : Below W0.heap.size W0 W2) => blk_below bR h2)
  have HBY := Lib.hid (fun W2 (h2 : Below W0.heap.size W0 W2) => blk_below bY h2)
  have HP := Lib.hid (fun W2 (h2 : Below W0.heap.size W0 W2) => hp.below (kTrans k0 h2) hb)
  obtain ⟨QA, QC, hQA⟩ : ∃ a c, pieceAtM R f = (a, c) := ⟨_, _, rfl⟩
  have HA := Lib.hid (fun W2 (h2 : Below W0.heap.size W0 W2) => implPieceAt_any b 0 n n wd hi x y l W2 hn (hp.below (kTrans k0 h2) hb) (Nat.lt_of_lt_of_le hb (kTrans k0 h2).size) (Nat.le_refl _) h8 hmax R hR f hf QA QC hQA)
  have HC := Lib.hid (fun W2 (h2 : Below W0.heap.size W0 W2) => clone_mk b 0 n n l W2 hn (hp.below (kTrans k0 h2) hb) (Nat.lt_of_lt_of_le hb (kTrans k0 h2).size) hmax)
  have hlt := find_lt hf
  have HK0 := Lib.hid k0
  have HW := Lib.hid hW
  have Hn := Lib.hid hn
  have hbW : b < W0.heap.size := Nat.lt_of_lt_of_le hb k0.size
  obtain ⟨x0, x1, x2⟩ := bd0T hx
  have y0 : W0.cell? ⟨w.heap.size + 1, 0, none⟩ = some (.int .i8 x) := cell_of_row _ _ 0 _ _ _ bY
  have y1 : W0.cell? ⟨w.heap.size + 1, 1, none⟩ = some (.int .i8 y) := cell_of_row _ _ 1 _ _ _ bY
  have ly := blk_lt bY
  clear hR h8 hp hb hW bX bY bR k0 hx
  have HQ := Lib.hid hQ
  have HQA := Lib.hid hQA
  clear hQ hQA hf
  go_enter Try.func13, Try.ntmps13
  go_upto_region 1 with fail
  try rw [HW.out]
  go_wp2_with fail
  refine (HA.out _ (Below.refl _ _)).mono ?_
  rintro e w1 ⟨rfl, hb1⟩
  clear HA HW x0 x1 x2 y0 y1 ly HBY
  have hz1 := hb1.size
  by_cases hbad : R = true ∧ 0 ≤ f
  · obtain ⟨hR, hf0⟩ := hbad
    obtain ⟨i, rfl⟩ : ∃ i : Nat, f = i := ⟨f.toNat, by omega⟩
    have hf1 : ¬ ((i : Int) < 0) := by omega
    obtain ⟨hqa, hqc⟩ := Prod.mk.inj (show (QA, QC) = ((i : Int), 0) by rw [← HQA.out]; unfold pieceAtM; rw [if_pos hR, if_neg hf1])
    subst hqa hqc
    obtain ⟨rfl, rfl, rfl, rfl⟩ := four_inj (show ((wd, hi, l.eraseIdx i, 0) : Int × Int × List Pc × Int) = (Wr, Hr, lr, C) by have h := HQ.out; unfold takeQ at h; rw [if_pos hR, if_neg hf1, Int.toNat_natCast] at h; exact h)
    have hin : i < n := by have := hlt (by omega); rw [Int.toNat_natCast] at this; rw [← Hn.out]; exact this
    obtain ⟨x0, x1, x2⟩ := bd0T (HX.out _ hb1)
    have lx := (HX.out _ hb1).lt
    have HB1 := Lib.hid hb1
    clear HQ HQA hlt hf0 hf1 hR hb1
    go_wp2_with fail
    refine (HC.out _ HB1.out).mono ?_
    rintro e w2 ⟨v, rfl, hown, hb2⟩
    obtain ⟨g, c, rfl, hgc, hcm, hbg, hgl⟩ := own_some hown (by omega)
    have HB2 := Lib.hid (kTrans HB1.out hb2)
    have hz2 := hb2.size
    have Hown := Lib.hid hown
    have hNx := HX.out _ HB2.out
    have hRs := HBR.out _ HB2.out
    have HKK := Lib.hid (kTrans HK0.out HB2.out)
    clear hown hb2 HC x0 x1 x2 lx HX HP HB1
    have HBR2 := Lib.hid HBR.out
    clear HBR hRs
    go_upto_region 5 with fail
    have hi63 : i < 1048576 := by omega
    have hwr : IntKind.i64.wrap ((i : Int) + 1) = (i : Int) + 1 := by rw [IntKind.wrap_i64]; omega
    refine regionW_of_HT (fun W' => BdAt W' w.heap.size 0 wd hi (.slice (some ⟨b, 0, none⟩) n n)) (by kernel_rfl) hNx (fun hHeld => ?_)
    clear hNx
    have hlX := hHeld.lt
    refine wpAnyH_take (i := 0) (v := .agg #[.int .i8 wd, .int .i8 hi, .slice (some ⟨b, 0, none⟩) n n]) rfl (by kernel_rfl) (by kernel_rfl) (by kernel_rfl) (fun _ _ _ h => absurd h.1 (by simp)) (Or.inl ⟨by rfl, fun w7 hSw => ?_⟩) (by assumption) ?_
    · obtain ⟨x0, x1, x2⟩ := bd0T hSw
      have lx_ := hSw.lt
      go_simp
    try simp only [Act.put, List.setIfInBounds_toArray, List.set_cons_zero, List.set_cons_succ]
    refine wpAnyH_take (i := 1) (v := .slice (some ⟨g, 0, none⟩) n c) rfl (by kernel_rfl) (by kernel_rfl) (by kernel_rfl) (fun _ _ _ h => absurd h.1 (by simp)) (Or.inl ⟨by rfl, fun w7 hSw => ?_⟩) (by assumption) ?_
    · clear hSw
      go_simp
    try simp only [Act.put, List.setIfInBounds_toArray, List.set_cons_zero, List.set_cons_succ]
    refine wpAnyH_take (i := 2) (v := .int .i64 i) rfl (by kernel_rfl) (by kernel_rfl) (by kernel_rfl) (fun _ _ _ h => absurd h.1 (by simp)) (Or.inl ⟨by rfl, fun w7 hSw => ?_⟩) (by assumption) ?_
    · clear hSw
      go_simp
    try simp only [Act.put, List.setIfInBounds_toArray, List.set_cons_zero, List.set_cons_succ]
    refine wpAnyH_take (i := 3) (v := .int .i64 i) rfl (by kernel_rfl) (by kernel_rfl) (by kernel_rfl) (fun _ _ _ h => absurd h.1 (by simp)) (Or.inl ⟨by rfl, fun w7 hSw => ?_⟩) (by assumption) ?_
    · clear hSw
      go_simp
    try simp only [Act.put, List.setIfInBounds_toArray, List.set_cons_zero, List.set_cons_succ]
    refine wpAnyH_take (i := 4) (v := .int .i64 ((i : Int) + 1)) rfl (by kernel_rfl) (by kernel_rfl) (by kernel_rfl) (fun _ _ _ h => absurd h.1 (by simp)) (Or.inl ⟨by rfl, fun w7 hSw => ?_⟩) (by assumption) ?_
    · clear hSw
      go_simp
    try simp only [Act.put, List.setIfInBounds_toArray, List.set_cons_zero, List.set_cons_succ]
    have HD := Lib.hid (show Below w2.heap.size w2 w2.drew from Below.drew (Below.refl _ _))
    have Own9 := Lib.hid (show w2.drew.ownsRow w1.heap.size 66 5 (.slice (some ⟨g, 0, none⟩) n c) n (flatL l) from Hown.out)
    generalize w2.drew = w9 at HD hHeld Own9 ⊢
    have HDl := Lib.hid (delPc_any w1.heap.size g i n c l w9 Hn.out hin hmax Own9.out)
    have hXg : w.heap.size ≠ g := by omega
    refine wpAnyH_ready (rs := [5]) (by kernel_rfl) (by simp) ?_
    refine AllReadyH.cons rfl (fun K hK => ?_) AllReadyH.nil
    go_simp
    go_wp2_with (go_at_call 53
                 refine (HDl.out).mono ?_
                 rintro e w10 ⟨rfl, hu, R1, R2, hW10⟩
                 have HU := Lib.hid hu
                 have hk9 : Below W0.heap.size W0 w10 := by rw [hW10]; exact kRowW (kRowW (Below.drew (kTrans HB2.out HD.out)) (by omega) _) (by omega) _
                 have HB10 := Lib.hid hk9
                 have S10 : BdAt w10 w.heap.size 0 wd hi (.slice (some ⟨b, 0, none⟩) n n) := by rw [hW10]; exact BdAt.rowT (BdAt.rowT (show BdAt w9.drew w.heap.size 0 wd hi _ from hHeld) hXg) hXg
                 have hg10 : w2.heap.size ≤ w10.heap.size := by rw [hW10]; have := HD.out.size; simpa [World.setRow] using this
                 clear hu hk9 hW10)
    refine hK.out _ _ S10 (fun hHeld => ?_)
    clear S10 HDl Own9
    clear hK K
    have HWP := Lib.hid (withPieces_any wd hi (.slice (some ⟨b, 0, none⟩) n n) (.slice (some ⟨g, 0, none⟩) (n - 1) c) w10 ⟨_, _, _, rfl⟩)
    refine wpAnyH_ready (rs := [6]) (by kernel_rfl) (by simp) ?_
    refine AllReadyH.cons rfl (fun K hK => ?_) AllReadyH.nil
    go_simp
    go_wp2_with (go_at_call 52
                 refine (HWP.out).mono ?_
                 rintro e w11 ⟨rfl, hb11⟩
                 have HU11 := Lib.hid (owns_below HU.out hb11)
                 have HB11 := Lib.hid (kTrans HB10.out hb11)
                 have hg11 : w2.heap.size ≤ w11.heap.size := Nat.le_trans hg10 hb11.size
                 have S11 : BdAt w11 w.heap.size 0 wd hi (.slice (some ⟨b, 0, none⟩) n n) := hHeld.below hb11 hHeld.lt
                 clear hb11)
    refine hK.out _ _ S11 (fun hHeld => ?_)
    clear S11 HWP HU hg10
    clear hK K
    have rs_ : w11.heap[w.heap.size + 1 + 1]? = some (.cells #[.int .i8 0, .int .i8 0, .slice none 0 0] 30 (0, 0)) := (HBR2.out _ HB11.out)
    have r0 : w11.cell? ⟨w.heap.size + 1 + 1, 0, none⟩ = some (.int .i8 0) := cell_of_row _ _ 0 _ _ _ rs_
    have r1 : w11.cell? ⟨w.heap.size + 1 + 1, 1, none⟩ = some (.int .i8 0) := cell_of_row _ _ 1 _ _ _ rs_
    have r2 : w11.cell? ⟨w.heap.size + 1 + 1, 2, none⟩ = some (.slice none 0 0) := cell_of_row _ _ 2 _ _ _ rs_
    have z0 : w11.frozen? ⟨w.heap.size + 1 + 1, 0, none⟩ = false := frozen_of_row _ _ 0 _ _ rs_
    have z1 : w11.frozen? ⟨w.heap.size + 1 + 1, 1, none⟩ = false := frozen_of_row _ _ 1 _ _ rs_
    have z2 : w11.frozen? ⟨w.heap.size + 1 + 1, 2, none⟩ = false := frozen_of_row _ _ 2 _ _ rs_
    have lr_ := blk_lt rs_
    have HR3 := Lib.hid (box3_set (x' := .int .i8 wd) (y' := .int .i8 hi) (z' := .slice (some ⟨g, 0, none⟩) (n - 1) c) rs_)
    have hkr : KeptOut (w.heap.size + 1 + 1) (w.heap.size + 1 + 1 + 1) w11 (((w11.setCell ⟨w.heap.size + 1 + 1, 0, none⟩ (.int .i8 wd)).setCell ⟨w.heap.size + 1 + 1, 1, none⟩ (.int .i8 hi)).setCell ⟨w.heap.size + 1 + 1, 2, none⟩ (.slice (some ⟨g, 0, none⟩) (n - 1) c)) :=
      (((KeptOut.of_below (Below.refl _ _)).set ⟨w.heap.size + 1 + 1, 0, none⟩ (Nat.le_refl _) (Nat.lt_succ_self _) _).set ⟨w.heap.size + 1 + 1, 1, none⟩ (Nat.le_refl _) (Nat.lt_succ_self _) _).set ⟨w.heap.size + 1 + 1, 2, none⟩ (Nat.le_refl _) (Nat.lt_succ_self _) _
    have S12 : BdAt (((w11.setCell ⟨w.heap.size + 1 + 1, 0, none⟩ (.int .i8 wd)).setCell ⟨w.heap.size + 1 + 1, 1, none⟩ (.int .i8 hi)).setCell ⟨w.heap.size + 1 + 1, 2, none⟩ (.slice (some ⟨g, 0, none⟩) (n - 1) c)) w.heap.size 0 wd hi (.slice (some ⟨b, 0, none⟩) n n) := hHeld.out hkr (.inl (by omega))
    have hsl := SlW.of_owns (l := l.eraseIdx i) (n := n - 1) HU11.out
    have HSL := Lib.hid ((hsl.out hkr (.inr (by omega))).mono (show w.heap.size ≤ w1.heap.size by omega) hkr.size)
    have HBB := Lib.hid (kSet (kSet (kSet (kTrans HK0.out HB11.out) (p := ⟨w.heap.size + 1 + 1, 0, none⟩) (show w.heap.size ≤ w.heap.size + 1 + 1 by omega) (.int .i8 wd)) (p := ⟨w.heap.size + 1 + 1, 1, none⟩) (show w.heap.size ≤ w.heap.size + 1 + 1 by omega) (.int .i8 hi)) (p := ⟨w.heap.size + 1 + 1, 2, none⟩) (show w.heap.size ≤ w.heap.size + 1 + 1 by omega) (.slice (some ⟨g, 0, none⟩) (n - 1) c))
    clear hkr rs_ hHeld hsl
    refine wpAnyH_ready (rs := [7]) (by kernel_rfl) (by simp) ?_
    refine AllReadyH.cons rfl (fun K hK => ?_) AllReadyH.nil
    go_simp
    refine hK.out _ _ S12 (fun hHeld => ?_)
    clear S12
    clear hK K
    refine wpAnyH_ready (rs := [8]) (by kernel_rfl) (by simp) ?_
    refine AllReadyH.cons rfl (fun K hK => ?_) AllReadyH.nil
    go_simp
    refine hK.out _ _ hHeld (fun hHeld => ?_)
    clear hK K
    refine wpAnyH_done (by kernel_rfl) ?_ _
    refine ⟨rfl, ?_⟩
    clear hHeld r0 r1 r2 z0 z1 z2
    go_wp2
    refine bodyPost_ret (v := .tuple #[.agg #[.int .i8 wd, .int .i8 hi, .slice (some ⟨g, 0, none⟩) (n - 1) c], .int .i64 0]) (results_cell_tmp rfl _ _ (w.heap.size + 1 + 1) 30 #[.int .i8 wd, .int .i8 hi, .slice (some ⟨g, 0, none⟩) (n - 1) c] (0, 0) _ _ rfl rfl HR3.out Try.underlying30 rfl (by kernel_rfl)) rfl ?_
    exact ⟨_, rfl, HSL.out, HBB.out⟩
  · have HB1 := Lib.hid hb1
    obtain ⟨rfl, rfl, rfl, hC⟩ := four_inj (show ((0, 0, [], QC) : Int × Int × List Pc × Int) = (Wr, Hr, lr, C) by
      rw [← HQ.out]
      have h := HQA.out
      unfold pieceAtM at h
      unfold takeQ
      cases R with
      | false => obtain ⟨_, rfl⟩ := Prod.mk.inj h; rfl
      | true =>
        have hf0 : f < 0 := by
          by_cases h0 : 0 ≤ f
          · exact absurd ⟨rfl, h0⟩ hbad
          · omega
        rw [if_pos rfl, if_pos hf0] at h
        obtain ⟨_, rfl⟩ := Prod.mk.inj h
        rw [if_pos rfl, if_pos hf0])
    subst hC
    have hne : ¬ (QC = 0) := by
      have h := HQA.out
      unfold pieceAtM at h
      cases R with
      | false => obtain ⟨_, rfl⟩ := Prod.mk.inj h; decide
      | true =>
        have hf0 : f < 0 := by
          by_cases h0 : 0 ≤ f
          · exact absurd ⟨rfl, h0⟩ hbad
          · omega
        rw [if_pos rfl, if_pos hf0] at h
        obtain ⟨_, rfl⟩ := Prod.mk.inj h
        decide
    have hne2 : (QC != 0) = true := by simpa using hne
    clear HQ HQA HC HX HP hbad hlt
    have rs_ := HBR.out _ HB1.out
    have HT := Lib.hid (kTrans HK0.out HB1.out)
    clear HBR
    go_wp2_with (refine wpList_store_row rfl 30 _ _ rfl (w.heap.size + 1 + 1) #[.int .i8 0, .int .i8 0, .slice none 0 0] rfl rfl 30 _ rs_ (by kernel_rfl) (by kernel_rfl) (by kernel_rfl) ?_)
    refine bodyPost_ret (v := .tuple #[.agg #[.int .i8 0, .int .i8 0, .slice none 0 0], .int .i64 QC]) (results_cell_tmp rfl _ _ (w.heap.size + 1 + 1) 30 #[.int .i8 0, .int .i8 0, .slice none 0 0] (0, 0) _ _ rfl rfl (setRow_heap _ _ _ _ _ _ rs_) Try.underlying30 rfl (by kernel_rfl)) rfl ?_
    exact ⟨_, rfl, .empty _ _ rfl, kRowW HT.out (by omega) _⟩
end Go.Proofs.Ytlmnoopoohdbkaa
