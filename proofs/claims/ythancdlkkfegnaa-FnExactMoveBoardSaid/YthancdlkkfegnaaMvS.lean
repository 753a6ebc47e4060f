/- MoveBoard: the model. -/
import Derived.Test.YthancdlkkfegnaaMvA
import Derived.StillTailTactics
namespace Go.Proofs.Ythancdlkkfegnaa
open Go.ChangeShapes Go.WideShapes Go.ChangeAt Go.RowKit
set_option linter.unusedVariables false

set_option maxRecDepth 100000 in
set_option maxHeartbeats 4000000 in
theorem specMoveBoard_any (b n cap : Nat) (wd hi e s : Int) (l : List Pc) (w : World) (hn : l.length = n) (hp : PcsAt w b 0 l) (hb : b < w.heap.size) (hc : n ≤ cap) (h8 : All8 l) (hw8 : i8 wd) (hh8 : i8 hi) (hmax : n ≤ 1048576) (R : Bool) (hR : R = boardOk wd hi l) (Wr Hr : Int) (lr : List Pc) (C : Int) (hQ : moveQ R wd hi e s l = (Wr, Hr, lr, C)) (he : -9223372036854775808 ≤ e ∧ e ≤ 9223372036854775807) (hs : -9223372036854775808 ≤ s ∧ s ≤ 9223372036854775807) :
    Calls Try.prog 40 #[.agg #[.int .i8 wd, .int .i8 hi, .slice (some ⟨b, 0, none⟩) n cap], .int .i64 e, .int .i64 s] w (BoardPost Wr Hr lr C w) := by
  have Hn := Lib.hid hn
  have HR := Lib.hid hR
  have hP := Lib.hid hp
  clear hn hR hp
  have bE : Below w.heap.size w ((w.alloc (.cells #[.int .i8 wd, .int .i8 hi, .slice (some ⟨b, 0, none⟩) n cap] 30)).alloc (.cells #[.int .i8 0, .int .i8 0, .slice none 0 0] 30)) := (kAlloc (kAlloc (Below.refl _ _) _) _)
  go_enter Try.func40, Try.ntmps40
  go_wp2_with fail
  refine (l01Ok_any w.heap.size 0 b 0 n cap wd hi l _ Hn.out (BdAt.of ((Below.heap_alloc _ (.cells #[.int .i8 0, .int .i8 0, .slice none 0 0] 30) _ (by simp; try omega)).trans (heap_alloc_new w (.cells #[.int .i8 wd, .int .i8 hi, .slice (some ⟨b, 0, none⟩) n cap] 30)))) (hP.out.below bE (by omega)) (by simp only [World.size_alloc]; omega) hc h8 hw8 hh8 hmax R HR.out).mono ?_
  rintro e w1_ ⟨rfl, b1_⟩
  have B1_ : Below w.heap.size w w1_ := kTrans (kAlloc (kAlloc (Below.refl _ _) _) _) b1_
  have n1_ : w.heap.size + 2 ≤ w1_.heap.size := by have := b1_.size; simpa using this
  have T1_ : Below w.heap.size w w1_ := B1_
  have p_1_ := Lib.hid (hP.out.below B1_ (by omega))
  have b_1_ := Lib.hid (show w1_.heap[w.heap.size]? = some (.cells #[.int .i8 wd, .int .i8 hi, .slice (some ⟨b, 0, none⟩) n cap] 30 (0, 0)) from blk_below ((Below.heap_alloc _ (.cells #[.int .i8 0, .int .i8 0, .slice none 0 0] 30) _ (by simp; try omega)).trans (heap_alloc_new w (.cells #[.int .i8 wd, .int .i8 hi, .slice (some ⟨b, 0, none⟩) n cap] 30))) b1_)
  have r_1_ := Lib.hid (show w1_.heap[w.heap.size + 1]? = some (.cells #[.int .i8 0, .int .i8 0, .slice none 0 0] 30 (0, 0)) from blk_below (show ((w.alloc (.cells #[.int .i8 wd, .int .i8 hi, .slice (some ⟨b, 0, none⟩) n cap] 30)).alloc (.cells #[.int .i8 0, .int .i8 0, .slice none 0 0] 30)).heap[w.heap.size + 1]? = some _ from by have h := heap_alloc_new (w.alloc (.cells #[.int .i8 wd, .int .i8 hi, .slice (some ⟨b, 0, none⟩) n cap] 30)) (.cells #[.int .i8 0, .int .i8 0, .slice none 0 0] 30); simpa only [World.size_alloc] using h) b1_)
  clear bE hP b1_ B1_
  cases R with
  | false =>
    obtain ⟨rfl, rfl, rfl, rfl⟩ := four_inj (show (0, 0, [], 1) = (Wr, Hr, lr, C) from (hQ.symm.trans (by unfold moveQ; rw [if_neg (by simp)]) : (Wr, Hr, lr, C) = (0, 0, [], 1)).symm)
    clear hQ
    have rs_ := r_1_.out
    go_wp2_with (refine wpList_store_row rfl 30 _ _ rfl (w.heap.size + 1) #[.int .i8 0, .int .i8 0, .slice none 0 0] rfl rfl 30 _ rs_ (by kernel_rfl) (by kernel_rfl) (by kernel_rfl) ?_)
    refine bodyPost_ret (v := .tuple #[.agg #[.int .i8 0, .int .i8 0, .slice none 0 0], .int .i64 1]) (results_cell_tmp rfl _ _ (w.heap.size + 1) 30 #[.int .i8 0, .int .i8 0, .slice none 0 0] (0, 0) _ _ rfl rfl (setRow_heap _ _ _ _ _ _ rs_) Try.underlying30 rfl (by kernel_rfl)) rfl ?_
    exact ⟨_, rfl, .empty none 0 rfl, kRowW T1_ (by omega) _⟩
  | true =>
    by_cases g1 : -24 ≤ e ∧ e ≤ 24
    · skip
      by_cases g2 : -24 ≤ s ∧ s ≤ 24
      · skip
        go_wp2_with fail
        refine (l00In_yes e (-24) 24 _ (by omega) (by omega)).mono ?_
        rintro e w' ⟨rfl, rfl⟩
        go_wp2_with fail
        refine (l00In_yes s (-24) 24 _ (by omega) (by omega)).mono ?_
        rintro e w' ⟨rfl, rfl⟩
        go_wp2_with fail
        refine (l01Copy_nn w.heap.size b 0 n cap wd hi l _ Hn.out (BdAt.of b_1_.out) p_1_.out (by omega) hmax).mono ?_
        rintro e w2_ ⟨v', rfl, hown, hnn, b2_⟩
        have n2_ : w1_.heap.size ≤ w2_.heap.size := b2_.size
        have T2_ : Below w.heap.size w w2_ := kTrans T1_ b2_
        obtain ⟨g, cp, rfl, ho, hg, hng, hcp⟩ := ownAt_of_owns hown hnn
        have ho2 := Lib.hid (show OwnAt w2_ g (mixed (mv e s) l 0) by rw [mixed_zero]; exact ho)
        have hglt := ho.lt
        clear hown hnn ho hng
        have r_2_ := Lib.hid (blk_below r_1_.out b2_)
        clear p_1_ b_1_ r_1_ b2_ T1_
        have hka := Lib.hid (heap_alloc_new w2_ (.cells #[.int .i8 wd, .int .i8 hi, .slice (some ⟨g, 0, none⟩) n cp] 30))
        have hxg : g < w2_.heap.size := hglt
        have bE : Below w2_.heap.size w2_ (w2_.alloc (.cells #[.int .i8 wd, .int .i8 hi, .slice (some ⟨g, 0, none⟩) n cp] 30)) := (kAlloc (Below.refl _ _) _)
        have HOK := Lib.hid (boardOk_ok HR.out.symm)
        go_wp2
        go_loopw [9, 10] (fun i _ wr => ∃ k : Nat, k ≤ n ∧ i = .int .i64 k ∧ Hid (wr.heap[w.heap.size + 1]? = some (.cells #[.int .i8 0, .int .i8 0, .slice none 0 0] 30 (0, 0))) ∧ Hid (wr.heap[w2_.heap.size]? = some (.cells #[.int .i8 wd, .int .i8 hi, .slice (some ⟨g, 0, none⟩) n cp] 30 (0, 0))) ∧ Hid (OwnAt wr g (mixed (mv e s) l k)) ∧ Below w.heap.size w wr) (fun i _ _ => n - (intOf i).toNat)
        case atStart => exact ⟨0, by omega, rfl, Lib.hid ((blk_below r_2_.out bE)), hka, Lib.hid ((ho2.out.below bE)), (kTrans T2_ bE)⟩
        case round =>
          skip
          obtain ⟨k, hk, rfl, hr_, hx_, ho_, hT_⟩ := hrel
          clear hka bE r_2_ ho2 T2_
          have nr_ := hT_.size
          have lx_ := blk_lt hx_.out
          have lr_ := blk_lt hr_.out
          have lo_ := ho_.out.lt
          have cx_0 : wr.cell? ⟨w2_.heap.size, 0, none⟩ = some (.int .i8 wd) := cell_of_row _ _ 0 _ _ _ hx_.out
          have cx_1 : wr.cell? ⟨w2_.heap.size, 1, none⟩ = some (.int .i8 hi) := cell_of_row _ _ 1 _ _ _ hx_.out
          have cx_2 : wr.cell? ⟨w2_.heap.size, 2, none⟩ = some (.slice (some ⟨g, 0, none⟩) n cp) := cell_of_row _ _ 2 _ _ _ hx_.out
          by_cases hlt : k < n
          · skip
            have hlk : k < l.length := by rw [Hn.out]; exact hlt
            have hp8 := HOK.out _ (List.getElem_mem hlk)
            have hat := Pc.ok_at2 hp8
            have hxy := ho_.out.at_ k (by rw [mixed_length]; exact hlk)
            rw [mixed_get _ _ _ hlk] at hxy
            have hx1 := Lib.hid (OwnAt.mvx ho_.out hlk)
            have hy1 := Lib.hid (fun W (h : OwnAt W g ((mixed (mv e s) l k).set k (half e l[k]))) => OwnAt.mvy hlk h)
            generalize l[k] = p at hxy hat hx1 hy1
            obtain ⟨d0, d1, _, _, _⟩ := hxy
            simp only [Nat.zero_add] at d0 d1
            have fz := ho_.out.fz
            have kT := Lib.hid (Below.drew (kSet hT_ (p := ⟨g, k * 5, none⟩) (show w.heap.size ≤ g by omega) (.int .i8 (p.x + e))))
            have kr := Lib.hid (blk_drew (blk_set hr_.out (p := ⟨g, k * 5, none⟩) (v := .int .i8 (p.x + e)) (show w.heap.size + 1 ≠ g by omega)))
            have kx := Lib.hid (blk_drew (blk_set hx_.out (p := ⟨g, k * 5, none⟩) (v := .int .i8 (p.x + e)) (show w2_.heap.size ≠ g by omega)))
            have d1' : (wr.setCell ⟨g, k * 5, none⟩ (.int .i8 (p.x + e))).drew.cell? ⟨g, k * 5 + 1, none⟩ = some (.int .i8 p.y) := by
              have := World.cell?_setCell_other wr ⟨g, k * 5, none⟩ ⟨g, k * 5 + 1, none⟩ (.int .i8 (p.x + e)) (by intro x; injection x with _ x2 _; omega)
              exact this.trans d1
            clear hr_ hx_ ho_ hT_ HOK hp8
            go_wp2
            go_still_tail 9, (by kernel_rfl)
            change wpList _ _ _ _ _ wr.drew
            go_wp2
            clear d0 d1 fz cx_0 cx_1 cx_2 lo_
            generalize (wr.setCell ⟨g, k * 5, none⟩ (.int .i8 (p.x + e))).drew = wq at *
            have fz := hx1.out.fz
            have hy2 := Lib.hid (hy1.out wq hx1.out)
            have kT2 := Lib.hid (Below.drew (kSet kT.out (p := ⟨g, k * 5 + 1, none⟩) (show w.heap.size ≤ g by omega) (.int .i8 (p.y + s))))
            have kr2 := Lib.hid (blk_drew (blk_set kr.out (p := ⟨g, k * 5 + 1, none⟩) (v := .int .i8 (p.y + s)) (show w.heap.size + 1 ≠ g by omega)))
            have kx2 := Lib.hid (blk_drew (blk_set kx.out (p := ⟨g, k * 5 + 1, none⟩) (v := .int .i8 (p.y + s)) (show w2_.heap.size ≠ g by omega)))
            clear hx1 hy1 kT kr kx
            go_still_tail 9, (by kernel_rfl)
            change wpList _ _ _ _ _ wq.drew
            go_wp2
            exact ⟨⟨k + 1, by omega, by go_num, kr2, kx2, hy2, kT2.out⟩, by simp [intOf]; omega⟩
          · skip
            have e0 : k = n := by omega
            have ho2_ := Lib.hid (show OwnAt wr g (l.map (mv e s)) by have h := ho_.out; rw [e0, ← Hn.out, mixed_all] at h; exact h)
            have h82 := Lib.hid (show All8 (l.map (mv e s)) from fun q hq => by obtain ⟨p, hp, rfl⟩ := List.mem_map.1 hq; exact mv_in8 (h8 p hp) (HOK.out p hp) g1 g2)
            obtain ⟨R2, hR2⟩ : ∃ R2, R2 = boardOk wd hi (l.map (mv e s)) := ⟨_, rfl⟩
            have HR2 := Lib.hid hR2
            have Hn2 := Lib.hid (show (l.map (mv e s)).length = n by rw [List.length_map]; exact Hn.out)
            clear ho_ hR2 HOK e0 h8
            go_wp2_with fail
            refine (l01Ok_any w2_.heap.size 0 g 0 n cp wd hi (l.map (mv e s)) _ Hn2.out (BdAt.of hx_.out) ho2_.out.at_ ho2_.out.lt hcp h82.out hw8 hh8 hmax R2 HR2.out).mono ?_
            rintro e w3_ ⟨rfl, b3_⟩
            have n3_ : wr.heap.size ≤ w3_.heap.size := b3_.size
            have T3_ : Below w.heap.size w w3_ := kTrans hT_ b3_
            have r_3_ := Lib.hid (blk_below hr_.out b3_)
            have x_3_ := Lib.hid (blk_below hx_.out b3_)
            have o_3_ := Lib.hid (ho2_.out.below b3_)
            clear cx_0 cx_1 cx_2 hr_ hx_ ho2_ b3_ hT_
            cases R2 with
            | false =>
              obtain ⟨rfl, rfl, rfl, rfl⟩ := four_inj (show (0, 0, [], 4) = (Wr, Hr, lr, C) from (hQ.symm.trans (by unfold moveQ; rw [if_pos rfl, if_pos ⟨g1, g2⟩, if_neg (by rw [← HR2.out]; simp)]) : (Wr, Hr, lr, C) = (0, 0, [], 4)).symm)
              clear hQ
              have rs_ := r_3_.out
              go_wp2_with (refine wpList_store_row rfl 30 _ _ rfl (w.heap.size + 1) #[.int .i8 0, .int .i8 0, .slice none 0 0] rfl rfl 30 _ rs_ (by kernel_rfl) (by kernel_rfl) (by kernel_rfl) ?_)
              refine bodyPost_ret (v := .tuple #[.agg #[.int .i8 0, .int .i8 0, .slice none 0 0], .int .i64 4]) (results_cell_tmp rfl _ _ (w.heap.size + 1) 30 #[.int .i8 0, .int .i8 0, .slice none 0 0] (0, 0) _ _ rfl rfl (setRow_heap _ _ _ _ _ _ rs_) Try.underlying30 rfl (by kernel_rfl)) rfl ?_
              exact ⟨_, rfl, .empty none 0 rfl, kRowW T3_ (by omega) _⟩
            | true =>
              obtain ⟨rfl, rfl, rfl, rfl⟩ := four_inj (show (wd, hi, l.map (mv e s), 0) = (Wr, Hr, lr, C) from (hQ.symm.trans (by unfold moveQ; rw [if_pos rfl, if_pos ⟨g1, g2⟩, if_pos HR2.out.symm]) : (Wr, Hr, lr, C) = (wd, hi, l.map (mv e s), 0)).symm)
              clear hQ
              have hs3 := Lib.hid (show SlW g w3_.heap.size w3_ (l.map (mv e s)) (.slice (some ⟨g, 0, none⟩) n cp) by have h := OwnAt.slw o_3_.out (lo := g) (cap := cp) (Nat.le_refl _) (by rw [Hn2.out]; omega); rw [Hn2.out] at h; exact h)
              have cx_0 : w3_.cell? ⟨w2_.heap.size, 0, none⟩ = some (.int .i8 wd) := cell_of_row _ _ 0 _ _ _ x_3_.out
              have cx_1 : w3_.cell? ⟨w2_.heap.size, 1, none⟩ = some (.int .i8 hi) := cell_of_row _ _ 1 _ _ _ x_3_.out
              have cx_2 : w3_.cell? ⟨w2_.heap.size, 2, none⟩ = some (.slice (some ⟨g, 0, none⟩) n cp) := cell_of_row _ _ 2 _ _ _ x_3_.out
              have rs_ := r_3_.out
              go_wp2_with (refine wpList_store_row rfl 30 _ _ rfl (w.heap.size + 1) #[.int .i8 wd, .int .i8 hi, .slice (some ⟨g, 0, none⟩) n cp] rfl rfl 30 _ rs_ (by kernel_rfl) (by kernel_rfl) (by kernel_rfl) ?_)
              refine bodyPost_ret (v := .tuple #[.agg #[.int .i8 wd, .int .i8 hi, .slice (some ⟨g, 0, none⟩) n cp], .int .i64 0]) (results_cell_tmp rfl _ _ (w.heap.size + 1) 30 #[.int .i8 wd, .int .i8 hi, .slice (some ⟨g, 0, none⟩) n cp] (0, 0) _ _ rfl rfl (setRow_heap _ _ _ _ _ _ rs_) Try.underlying30 rfl (by kernel_rfl)) rfl ?_
              exact ⟨_, rfl, (hs3.out.row (by omega)).mono (by omega) (by simp [World.setRow]), kRowW T3_ (by omega) _⟩
      · skip
        go_wp2_with fail
        refine (l00In_yes e (-24) 24 _ (by omega) (by omega)).mono ?_
        rintro e w' ⟨rfl, rfl⟩
        go_wp2_with fail
        refine (l00In_no s (-24) 24 _ (by omega)).mono ?_
        rintro e w' ⟨rfl, rfl⟩
        obtain ⟨rfl, rfl, rfl, rfl⟩ := four_inj (show (0, 0, [], 2) = (Wr, Hr, lr, C) from (hQ.symm.trans (by unfold moveQ; rw [if_pos rfl, if_neg (by omega)]) : (Wr, Hr, lr, C) = (0, 0, [], 2)).symm)
        clear hQ
        have rs_ := r_1_.out
        go_wp2_with (refine wpList_store_row rfl 30 _ _ rfl (w.heap.size + 1) #[.int .i8 0, .int .i8 0, .slice none 0 0] rfl rfl 30 _ rs_ (by kernel_rfl) (by kernel_rfl) (by kernel_rfl) ?_)
        refine bodyPost_ret (v := .tuple #[.agg #[.int .i8 0, .int .i8 0, .slice none 0 0], .int .i64 2]) (results_cell_tmp rfl _ _ (w.heap.size + 1) 30 #[.int .i8 0, .int .i8 0, .slice none 0 0] (0, 0) _ _ rfl rfl (setRow_heap _ _ _ _ _ _ rs_) Try.underlying30 rfl (by kernel_rfl)) rfl ?_
        exact ⟨_, rfl, .empty none 0 rfl, kRowW T1_ (by omega) _⟩
    · skip
      go_wp2_with fail
      refine (l00In_no e (-24) 24 _ (by omega)).mono ?_
      rintro e w' ⟨rfl, rfl⟩
      obtain ⟨rfl, rfl, rfl, rfl⟩ := four_inj (show (0, 0, [], 2) = (Wr, Hr, lr, C) from (hQ.symm.trans (by unfold moveQ; rw [if_pos rfl, if_neg (by omega)]) : (Wr, Hr, lr, C) = (0, 0, [], 2)).symm)
      clear hQ
      have rs_ := r_1_.out
      go_wp2_with (refine wpList_store_row rfl 30 _ _ rfl (w.heap.size + 1) #[.int .i8 0, .int .i8 0, .slice none 0 0] rfl rfl 30 _ rs_ (by kernel_rfl) (by kernel_rfl) (by kernel_rfl) ?_)
      refine bodyPost_ret (v := .tuple #[.agg #[.int .i8 0, .int .i8 0, .slice none 0 0], .int .i64 2]) (results_cell_tmp rfl _ _ (w.heap.size + 1) 30 #[.int .i8 0, .int .i8 0, .slice none 0 0] (0, 0) _ _ rfl rfl (setRow_heap _ _ _ _ _ _ rs_) Try.underlying30 rfl (by kernel_rfl)) rfl ?_
      exact ⟨_, rfl, .empty none 0 rfl, kRowW T1_ (by omega) _⟩
end Go.Proofs.Ythancdlkkfegnaa
