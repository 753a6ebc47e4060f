/- SortBoard: the model. -/
import Derived.Test.YtlmnoopoohdbkaaSo0
import Derived.Test.YtlmnoopoohdbkaaTpS
namespace Go.Proofs.Ytlmnoopoohdbkaa
open Go.ChangeShapes Go.WideShapes Go.ChangeAt Go.RowKit Go.Joins Go.Deep
set_option linter.unusedVariables false
set_option linter.unusedSimpArgs false

theorem soAll_succ (l : List Pc) (W j : Nat) : soAll l W (j + 1) = soAll l W j ++ soRow l j W := rfl
theorem soRow_succ (l : List Pc) (y k : Nat) : soRow l y (k + 1) = soRow l y k ++ soAt l k y := rfl
theorem soAt_no {l : List Pc} {x y : Nat} {f : Int} (h : findFrom (x : Int) (y : Int) l 0 = f) (h0 : f < 0) : soAt l x y = [] := by
  unfold soAt; rw [h, if_neg (by omega)]
theorem soAt_yes {l : List Pc} {x y i : Nat} (h : findFrom (x : Int) (y : Int) l 0 = (i : Int)) (hi : i < l.length) : soAt l x y = [l[i]] := by
  unfold soAt; rw [h, if_pos (by omega), Int.toNat_natCast, List.getD_eq_getElem?_getD, List.getElem?_eq_getElem hi]; rfl
set_option maxRecDepth 100000 in
set_option maxHeartbeats 8000000 in
theorem specSortBoard_any (b n : Nat) (wd hi : Int) (l : List Pc) (w : World) (hn : l.length = n) (hp : PcsAt w b 0 l) (hb : b < w.heap.size) (h8 : All8 l) (hw8 : i8 wd) (hh8 : i8 hi) (hmax : n ≤ 1048576) (R : Bool) (hR : R = boardOk wd hi l) (Wr Hr : Int) (lr : List Pc) (C : Int) (hQ : sortQ R wd hi l = (Wr, Hr, lr, C)) :
    Calls Try.prog 19 #[.agg #[.int .i8 wd, .int .i8 hi, .slice (some ⟨b, 0, none⟩) n n]] w (BoardPost Wr Hr lr C w) := by
  obtain ⟨W0, hW⟩ : ∃ W0, (w.alloc (.cells #[.int .i8 wd, .int .i8 hi, .slice (some ⟨b, 0, none⟩) n n] 30)).alloc (.cells #[.int .i8 0, .int .i8 0, .slice none 0 0] 30) = W0 := ⟨_, rfl⟩
  have k0 : Below w.heap.size w W0 := by rw [← hW]; exact kAlloc (kAlloc (Below.refl _ _) _) _
  have hs0 : w.heap.size + 2 ≤ W0.heap.size := by rw [← hW]; simp
  have bX : W0.heap[w.heap.size]? = some (.cells #[.int .i8 wd, .int .i8 hi, .slice (some ⟨b, 0, none⟩) n n] 30 (0, 0)) := by
    rw [← hW]; exact (Below.heap_alloc _ _ _ (by simp)).trans (heap_alloc_new _ _)
  have bR : W0.heap[w.heap.size + 1]? = some (.cells #[.int .i8 0, .int .i8 0, .slice none 0 0] 30 (0, 0)) := by
    rw [← hW]; exact heap_two _ _ _
  have hx := BdAt.of bX
  have hlx := hx.lt
  have HX := Lib.hid (fun W2 (h2 : Below W0.heap.size W0 W2) => hx.below h2 hx.lt)
  have HBR := Lib.hid (fun W2 (h2 : Below W0.heap.size W0 W2) => blk_below bR h2)
  have HP := Lib.hid (fun W2 (h2 : Below W0.heap.size W0 W2) => hp.below (kTrans k0 h2) hb)
  have HV := Lib.hid (fun W2 (h2 : Below W0.heap.size W0 W2) => l01Ok_any w.heap.size 0 b 0 n n wd hi l W2 hn (hx.below h2 hx.lt) (hp.below (kTrans k0 h2) hb) (Nat.lt_of_lt_of_le hb (kTrans k0 h2).size) (Nat.le_refl _) h8 hw8 hh8 hmax R hR)
  have HF := Lib.hid (fun W2 (x y f : Int) (hf : findFrom x y l 0 = f) (h2 : Below W0.heap.size W0 W2) => l01Find_to w.heap.size 0 b 0 n n wd hi x y f l W2 hn (hx.below h2 hx.lt) (hp.below (kTrans k0 h2) hb) (Nat.lt_of_lt_of_le hb (kTrans k0 h2).size) (Nat.le_refl _) hmax hf)
  have HK0 := Lib.hid k0
  have HW := Lib.hid hW
  have Hn := Lib.hid hn
  have HRR := Lib.hid hR
  have HQ := Lib.hid hQ
  have hbW : b < W0.heap.size := Nat.lt_of_lt_of_le hb k0.size
  obtain ⟨x0, x1, x2⟩ := bd0T hx
  clear hR h8 hp hb hW bX bR k0 hx hn hQ
  go_enter Try.func19, Try.ntmps19
  go_upto_region 1 with fail
  try rw [HW.out]
  go_wp2_with fail
  refine (HV.out _ (Below.refl _ _)).mono ?_
  rintro e w1 ⟨rfl, hb1⟩
  clear HV HW x0 x1 x2
  have hz1 := hb1.size
  have HB1 := Lib.hid hb1
  clear hb1
  cases R with
  | false =>
    obtain ⟨rfl, rfl, rfl, rfl⟩ := four_inj (show ((0, 0, [], 1) : Int × Int × List Pc × Int) = (Wr, Hr, lr, C) from HQ.out)
    clear HQ HRR HF HX HP
    have rs_ := HBR.out _ HB1.out
    have HT := Lib.hid (kTrans HK0.out HB1.out)
    clear HBR
    go_wp2_with (refine wpList_store_row rfl 30 _ _ rfl (w.heap.size + 1) #[.int .i8 0, .int .i8 0, .slice none 0 0] rfl rfl 30 _ rs_ (by kernel_rfl) (by kernel_rfl) (by kernel_rfl) ?_)
    refine bodyPost_ret (v := .tuple #[.agg #[.int .i8 0, .int .i8 0, .slice none 0 0], .int .i64 1]) (results_cell_tmp rfl _ _ (w.heap.size + 1) 30 #[.int .i8 0, .int .i8 0, .slice none 0 0] (0, 0) _ _ rfl rfl (setRow_heap _ _ _ _ _ _ rs_) Try.underlying30 rfl (by kernel_rfl)) rfl ?_
    exact ⟨_, rfl, .empty _ _ rfl, kRowW HT.out (by omega) _⟩
  | true =>
    have hs := board_sidesS HRR.out.symm
    obtain ⟨W, rfl⟩ : ∃ W : Nat, wd = (W : Int) := ⟨wd.toNat, by omega⟩
    obtain ⟨H, rfl⟩ : ∃ H : Nat, hi = (H : Int) := ⟨hi.toNat, by omega⟩
    obtain ⟨rfl, rfl, hlr, rfl⟩ := four_inj (show (((W : Int), (H : Int), soAll l W H, 0) : Int × Int × List Pc × Int) = (Wr, Hr, lr, C) by have h := HQ.out; unfold sortQ at h; rw [if_pos rfl, Int.toNat_natCast, Int.toNat_natCast] at h; exact h)
    have HLR := Lib.hid hlr
    have hW : 1 ≤ W ∧ W ≤ 24 := by omega
    have hH : 1 ≤ H ∧ H ≤ 24 := by omega
    clear HQ hlr hs HRR
    obtain ⟨j0, hj0, hj1, hj2, hj3⟩ := info_parts info_pc
    have Hj := Lib.hid hj0
    have Hj1 := Lib.hid hj1
    have Hj2 := Lib.hid hj2
    have Hj3 := Lib.hid hj3
    obtain ⟨x0, x1, x2⟩ := bd0T (HX.out _ HB1.out)
    have lx := (HX.out _ HB1.out).lt
    obtain ⟨w2, hw2⟩ : ∃ z, w1.alloc (.cells #[.int .i8 W, .int .i8 H, .slice none 0 0] 30) = z := ⟨_, rfl⟩
    obtain ⟨g, hg⟩ : ∃ z, w1.heap.size = z := ⟨_, rfl⟩
    have hgR : w.heap.size + 1 < g := by omega
    have hgX : w.heap.size < g := by omega
    have hgW : W0.heap.size ≤ g := by omega
    have bG : w2.heap[g]? = some (.cells #[.int .i8 W, .int .i8 H, .slice none ([] : List Pc).length 0] 30 (0, 0)) := by rw [← hw2, ← hg]; exact heap_alloc_new _ _
    have HB2 := Lib.hid (show Below W0.heap.size W0 w2 by rw [← hw2]; exact kTrans HB1.out (kAlloc (Below.refl _ _) _))
    have own0 : Hid (w2.ownsRow (g + 1) 66 5 (.slice none ([] : List Pc).length 0) ([] : List Pc).length (flatL [])) := Lib.hid ⟨by simp [flatL], .inl ⟨rfl, rfl⟩⟩
    have HG := Lib.hid bG
    have Hw2 := Lib.hid hw2
    have Hg := Lib.hid hg
    clear hj0 hj1 hj2 hj3 bG hw2 hg
    go_upto_region 4 with fail
    try rw [Hw2.out]
    try rw [Hg.out]
    clear Hw2 Hg x0 x1 x2 lx HB1
    go_wp2
    go_loopw [5, 6, 7] (fun yy xx ff wr => ∃ (j : Nat) (A : List Pc) (va : Option Addr) (vc : Nat), j ≤ H ∧ yy = .int .i8 j ∧ Hid (A = soAll l W j) ∧ Hid (wr.heap[g]? = some (.cells #[.int .i8 W, .int .i8 H, .slice va A.length vc] 30 (0, 0))) ∧ Hid (wr.ownsRow (g + 1) 66 5 (.slice va A.length vc) A.length (flatL A)) ∧ Hid (Below W0.heap.size W0 wr)) (fun yy _ _ _ => H - (intOf yy).toNat)
    case atStart => exact ⟨0, [], none, 0, by omega, rfl, Lib.hid rfl, HG, own0, HB2⟩
    case round =>
      clear HG own0 HB2
      obtain ⟨wo, rfl⟩ : ∃ wo : World, wo = wr := ⟨_, rfl⟩
      obtain ⟨j, A, va, vc, hj, rfl, hA, hG, hown, hB⟩ := hrel
      obtain ⟨x0, x1, x2⟩ := bd0T (HX.out _ hB.out)
      have lx := (HX.out _ hB.out).lt
      by_cases hlt : j < H
      · have hA0 : Hid (A = soAll l W j ++ soRow l j 0) := Lib.hid (by rw [hA.out]; simp [soRow])
        clear hA
        go_wp2
        go_loopw [6, 7] (fun xx ff wr => ∃ (k : Nat) (A : List Pc) (va : Option Addr) (vc : Nat), k ≤ W ∧ xx = .int .i8 k ∧ Hid (A = soAll l W j ++ soRow l j k) ∧ Hid (wr.heap[g]? = some (.cells #[.int .i8 W, .int .i8 H, .slice va A.length vc] 30 (0, 0))) ∧ Hid (wr.ownsRow (g + 1) 66 5 (.slice va A.length vc) A.length (flatL A)) ∧ Hid (Below W0.heap.size W0 wr)) (fun xx _ _ => W - (intOf xx).toNat)
        case atStart => exact ⟨0, A, va, vc, by omega, rfl, hA0, hG, hown, hB⟩
        case round =>
          clear hA0 hG hown hB x0 x1 x2 lx
          clear A va vc
          obtain ⟨k, A, va, vc, hk, rfl, hA, hG, hown, hB⟩ := hrel
          obtain ⟨x0, x1, x2⟩ := bd0T (HX.out _ hB.out)
          have lx := (HX.out _ hB.out).lt
          by_cases hlk : k < W
          · obtain ⟨f, hf⟩ : ∃ f, findFrom (k : Int) (j : Int) l 0 = f := ⟨_, rfl⟩
            have HFD := Lib.hid (HF.out _ _ _ f hf hB.out)
            have Hf := Lib.hid hf
            have hlA : A.length ≤ 576 := by
              have h1 := soAll_len l W j
              have h2 := soRow_len l j k
              have h3 : (j + 1) * W ≤ 24 * 24 := Nat.mul_le_mul (by omega) hW.2
              rw [Nat.succ_mul] at h3
              rw [hA.out, List.length_append]
              omega
            clear hf
            go_wp2_with fail
            refine HFD.out.mono ?_
            rintro e w3 ⟨rfl, hb3⟩
            have HB3 := Lib.hid (kTrans hB.out hb3)
            have bG3 := blk_below hG.out hb3
            have own3 := owns_below hown.out hb3
            clear hb3 hB hG hown HFD x0 x1 x2 lx
            by_cases hf0 : 0 ≤ f
            · obtain ⟨i, rfl⟩ : ∃ i : Nat, f = i := ⟨f.toNat, by omega⟩
              have hil : i < l.length := by have := find_lt Hf.out hf0; rw [Int.toNat_natCast] at this; exact this
              have hin : i < n := by rw [← Hn.out]; exact hil
              obtain ⟨p, hpi⟩ : ∃ p, l[i] = p := ⟨_, rfl⟩
              have HA1 : Hid (A ++ [p] = soAll l W j ++ soRow l j (k + 1)) := Lib.hid (by rw [hA.out, soRow_succ, soAt_yes Hf.out hil, hpi, List.append_assoc])
              obtain ⟨a0, a1, a2, a3, a4⟩ := (show PcAt w3 b (0 + i * 5) p by have h := HP.out w3 HB3.out i hil; rw [hpi] at h; exact h)
              have zb := Nat.lt_of_lt_of_le hbW HB3.out.size
              simp only [Nat.zero_add] at a0 a1 a2 a3 a4
              have Hpi := Lib.hid hpi
              obtain ⟨x0, x1, x2⟩ := bd0T (HX.out _ HB3.out)
              have lx := (HX.out _ HB3.out).lt
              obtain ⟨q0, q1, q2⟩ := bd0T (BdAt.of bG3)
              have lg := blk_lt bG3
              have qf : ∀ j, w3.frozen? ⟨g, j, none⟩ = false := fun j => frozen_of_row _ _ j _ _ bG3
              have Hblk := Lib.hid (owns_block own3)
              have Own3 := Lib.hid own3
              have BG3 := Lib.hid bG3
              obtain ⟨px, py, pk, pt, pd⟩ := p
              simp only at a0 a1 a2 a3 a4
              obtain ⟨W9, hW9⟩ : ∃ z, (w3.alloc (.cells #[.int .i8 px, .int .i8 py, .int .i8 pk, .int .i8 pt, .int .i8 pd] 66)).drew = z := ⟨_, rfl⟩
              have k9 : Below w3.heap.size w3 W9 := by rw [← hW9]; exact Below.drew (kAlloc (Below.refl _ _) _)
              have b9 : W9.heap[w3.heap.size]? = some (.cells #[.int .i8 px, .int .i8 py, .int .i8 pk, .int .i8 pt, .int .i8 pd] 66 (0, 0)) := by rw [← hW9]; exact heap_alloc_new _ _
              have K9 := Lib.hid k9
              have B9 := Lib.hid b9
              have hz9 : w3.heap.size + 1 ≤ W9.heap.size := blk_lt b9
              have HW9 := Lib.hid hW9
              have hml : A.length + 1 ≤ maxLen := by unfold maxLen; omega
              have hmb : (A.length + 1) * 5 ≤ 140737488355328 := by omega
              have hbg : g + 1 ≤ W9.heap.size := by omega
              clear hpi Hf hA own3 bG3 k9 b9 hW9
              go_upto_region 12 with fail
              go_region_law (first | (rw [HW9.out]
                                      refine step_append_own rfl _ _ 28 rfl (g + 1) 66 j0 _ 5 5 Try.underlying28 Hj.out Hj1.out Hj2.out Hj3.out rfl (by decide) (.slice va A.length vc) A.length (flatL A) rfl (owns_below Own3.out K9.out) ⟨w3.heap.size, 0, none⟩ 1 1 [.int .i8 px, .int .i8 py, .int .i8 pk, .int .i8 pt, .int .i8 pd] rfl rfl (World.news_of_block (cs := #[.int .i8 px, .int .i8 py, .int .i8 pk, .int .i8 pt, .int .i8 pd]) B9.out) (by simp [Value.oneCell']) hml hmb hbg ?_
                                      intro v7 w7 hown7 hgr hnil
                                      obtain ⟨vb, vd, rfl⟩ := owns_slice hown7
                                      have hG7 := (hgr.block g (by omega) (fun e => by have := (Hblk.out g e.symm).1; omega)).trans (blk_below BG3.out K9.out)
                                      have hB7 : Below W0.heap.size W0 w7 := (kTrans HB3.out K9.out).grown hgr (by have := (kTrans HB3.out K9.out).size; omega) (by intro q hq; have := (Hblk.out q hq).1; omega)
                                      have q2 := cell_of_row _ _ 2 _ _ _ hG7
                                      have qf : ∀ j, w7.frozen? ⟨g, j, none⟩ = false := fun j => frozen_of_row _ _ j _ _ hG7
                                      have lg7 := blk_lt hG7
                                      have Own7 := Lib.hid hown7
                                      have HG7 := Lib.hid hG7
                                      have HB7 := Lib.hid hB7
                                      clear hown7 hgr hnil hG7 hB7))
              all_goals
                have hal : (A ++ [(⟨px, py, pk, pt, pd⟩ : Pc)]).length = A.length + 1 := by rw [List.length_append]; rfl
                have HG8 := Lib.hid (show (w7.setCell ⟨g, 2, none⟩ (.slice vb (A.length + 1) vd)).heap[g]? = some (.cells #[.int .i8 W, .int .i8 H, .slice vb (A ++ [(⟨px, py, pk, pt, pd⟩ : Pc)]).length vd] 30 (0, 0)) by rw [hal]; exact blk_set_same' HG7.out)
                have Own8 := Lib.hid (show (w7.setCell ⟨g, 2, none⟩ (.slice vb (A.length + 1) vd)).ownsRow (g + 1) 66 5 (.slice vb (A ++ [(⟨px, py, pk, pt, pd⟩ : Pc)]).length vd) (A ++ [(⟨px, py, pk, pt, pd⟩ : Pc)]).length (flatL (A ++ [(⟨px, py, pk, pt, pd⟩ : Pc)])) by rw [hal, flatL_one_end]; exact owns_set_far Own7.out HG7.out (by decide) 2 _)
                have HB8 := Lib.hid (show Below W0.heap.size W0 (w7.setCell ⟨g, 2, none⟩ (.slice vb (A.length + 1) vd)) from kSet HB7.out hgW _)
                clear hal Own7 HG7 HB7 q2 qf a0 a1 a2 a3 a4 x0 x1 x2
                go_wp2
                exact ⟨⟨k + 1, A ++ [⟨px, py, pk, pt, pd⟩], vb, vd, by omega, by go_num, HA1, HG8, Own8, HB8⟩, by simp [intOf]; omega⟩
            · have HA1 : Hid (A = soAll l W j ++ soRow l j (k + 1)) := Lib.hid (by rw [hA.out, soRow_succ, soAt_no Hf.out (by omega), List.append_nil])
              have hf1 : decide ((0 : Int) ≤ f) = false := by simpa using hf0
              have Own3 := Lib.hid own3
              have BG3 := Lib.hid bG3
              clear hA own3 bG3 Hf
              go_wp2
              exact ⟨⟨k + 1, A, va, vc, by omega, by go_num, HA1, BG3, Own3, HB3⟩, by simp [intOf]; omega⟩
          · obtain rfl : k = W := by omega
            have HA1 : Hid (A = soAll l k (j + 1)) := Lib.hid (by rw [hA.out, soAll_succ])
            clear hA
            go_wp2
            exact ⟨⟨j + 1, A, va, vc, by omega, by go_num, HA1, hG, hown, hB⟩, by simp [intOf]; omega⟩
      · obtain rfl : j = H := by omega
        obtain rfl : A = lr := by rw [hA.out, HLR.out]
        obtain ⟨q0, q1, q2⟩ := bd0T (BdAt.of hG.out)
        have lg := blk_lt hG.out
        have rs_ := HBR.out _ hB.out
        have hBs := hB.out.size
        clear hA HLR HX HP HF HBR
        go_wp2_with (refine wpList_store_row rfl 30 _ _ rfl (w.heap.size + 1) #[.int .i8 W, .int .i8 j, .slice va A.length vc] rfl rfl 30 _ rs_ (by kernel_rfl) (by kernel_rfl) (by kernel_rfl) ?_)
        refine bodyPost_ret (v := .tuple #[.agg #[.int .i8 W, .int .i8 j, .slice va A.length vc], .int .i64 0]) (results_cell_tmp rfl _ _ (w.heap.size + 1) 30 #[.int .i8 W, .int .i8 j, .slice va A.length vc] (0, 0) _ _ rfl rfl (setRow_heap _ _ _ _ _ _ rs_) Try.underlying30 rfl (by kernel_rfl)) rfl ?_
        refine ⟨_, rfl, ?_, kRowW (kTrans HK0.out hB.out) (by omega) _⟩
        have hs := SlW.of_owns (l := A) (n := A.length) hown.out
        exact (hs.row (by omega)).mono (by omega) (by simp [World.setRow])
end Go.Proofs.Ytlmnoopoohdbkaa
