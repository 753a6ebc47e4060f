/- MoveBoard: the program. -/
import Derived.Test.YthancdlkkfegnaaMvA
import Derived.StillTailTactics
namespace Go.Proofs.Ythancdlkkfegnaa
open Go.ChangeShapes Go.WideShapes Go.ChangeAt Go.RowKit
set_option linter.unusedVariables false

theorem validMove_any (e : Int) (w : World) (b : Bool) (hb : b = decide (-24 ≤ e ∧ e ≤ 24)) :
    Calls Try.prog 87 #[.int .i64 e] w fun r w' => r = .returned (.bool b) ∧ w = w' := by
  by_cases h1 : -24 ≤ e
  · by_cases h2 : e ≤ 24
    · obtain rfl : b = true := by rw [hb]; simp; omega
      clear hb
      go_enter Try.func87, Try.ntmps87
      go_wp2
      go_ret
      exact ⟨rfl, rfl⟩
    · obtain rfl : b = false := by rw [hb]; simp; omega
      have h3 : decide (e ≤ 24) = false := by simp; omega
      clear hb
      go_enter Try.func87, Try.ntmps87
      go_wp2
      go_ret
      exact ⟨rfl, rfl⟩
  · obtain rfl : b = false := by rw [hb]; simp; omega
    have h3 : decide (-24 ≤ e) = false := by simp; omega
    clear hb
    go_enter Try.func87, Try.ntmps87
    go_wp2
    go_ret
    exact ⟨rfl, rfl⟩
set_option maxRecDepth 100000 in
set_option maxHeartbeats 4000000 in
theorem implMoveBoard_any (b n cap : Nat) (wd hi e s : Int) (l : List Pc) (w : World) (hn : l.length = n) (hp : PcsAt w b 0 l) (hb : b < w.heap.size) (hc : n ≤ cap) (h8 : All8 l) (hw8 : i8 wd) (hh8 : i8 hi) (hmax : n ≤ 1048576) (R : Bool) (hR : R = boardOk wd hi l) (Wr Hr : Int) (lr : List Pc) (C : Int) (hQ : moveQ R wd hi e s l = (Wr, Hr, lr, C)) (he : -9223372036854775808 ≤ e ∧ e ≤ 9223372036854775807) (hs : -9223372036854775808 ≤ s ∧ s ≤ 9223372036854775807) :
    Calls Try.prog 41 #[.agg #[.int .i8 wd, .int .i8 hi, .slice (some ⟨b, 0, none⟩) n cap], .int .i64 e, .int .i64 s] w (BoardPost Wr Hr lr C w) := by
  have Hn := Lib.hid hn
  have HR := Lib.hid hR
  have hP := Lib.hid hp
  clear hn hR hp
  have bE : Below w.heap.size w ((w.alloc (.cells #[.int .i8 wd, .int .i8 hi, .slice (some ⟨b, 0, none⟩) n cap] 30)).alloc (.cells #[.int .i8 0, .int .i8 0, .slice none 0 0] 30)) := (kAlloc (kAlloc (Below.refl _ _) _) _)
  have HL := Lib.hid (layoutOf_any b 0 n cap wd hi l _ Hn.out (hP.out.below bE (by omega)) (by simp only [World.size_alloc]; omega) hc h8 hmax R HR.out)
  go_enter Try.func41, Try.ntmps41
  go_wp2_with fail
  refine HL.out.mono ?_
  clear HL
  cases R with
  | false =>
    rintro e w1_ ⟨_, h1_, b1_⟩
    obtain rfl := h1_ rfl
    clear h1_
    have B1_ : Below w.heap.size w w1_ := kTrans (kAlloc (kAlloc (Below.refl _ _) _) _) b1_
    have n1_ : w.heap.size + 2 ≤ w1_.heap.size := by have := b1_.size; simpa using this
    have T1_ : Below w.heap.size w w1_ := B1_
    have p_1_ := Lib.hid (hP.out.below B1_ (by omega))
    have b_1_ := Lib.hid (show w1_.heap[w.heap.size]? = some (.cells #[.int .i8 wd, .int .i8 hi, .slice (some ⟨b, 0, none⟩) n cap] 30 (0, 0)) from blk_below ((Below.heap_alloc _ (.cells #[.int .i8 0, .int .i8 0, .slice none 0 0] 30) _ (by simp; try omega)).trans (heap_alloc_new w (.cells #[.int .i8 wd, .int .i8 hi, .slice (some ⟨b, 0, none⟩) n cap] 30))) b1_)
    have r_1_ := Lib.hid (show w1_.heap[w.heap.size + 1]? = some (.cells #[.int .i8 0, .int .i8 0, .slice none 0 0] 30 (0, 0)) from blk_below (show ((w.alloc (.cells #[.int .i8 wd, .int .i8 hi, .slice (some ⟨b, 0, none⟩) n cap] 30)).alloc (.cells #[.int .i8 0, .int .i8 0, .slice none 0 0] 30)).heap[w.heap.size + 1]? = some _ from by have h := heap_alloc_new (w.alloc (.cells #[.int .i8 wd, .int .i8 hi, .slice (some ⟨b, 0, none⟩) n cap] 30)) (.cells #[.int .i8 0, .int .i8 0, .slice none 0 0] 30); simpa only [World.size_alloc] using h) b1_)
    clear bE hP b1_ B1_
    obtain ⟨rfl, rfl, rfl, rfl⟩ := four_inj (show (0, 0, [], 1) = (Wr, Hr, lr, C) from (hQ.symm.trans (by unfold moveQ; rw [if_neg (by simp)]) : (Wr, Hr, lr, C) = (0, 0, [], 1)).symm)
    clear hQ
    have bE : Below w1_.heap.size w1_ (w1_.alloc (.cells #[.int .i8 0, .int .i8 0, .map none] 94)) := (kAlloc (Below.refl _ _) _)
    have rs_ := (blk_below r_1_.out bE)
    go_wp2_with (refine wpList_store_row rfl 30 _ _ rfl (w.heap.size + 1) #[.int .i8 0, .int .i8 0, .slice none 0 0] rfl rfl 30 _ rs_ (by kernel_rfl) (by kernel_rfl) (by kernel_rfl) ?_)
    refine bodyPost_ret (v := .tuple #[.agg #[.int .i8 0, .int .i8 0, .slice none 0 0], .int .i64 1]) (results_cell_tmp rfl _ _ (w.heap.size + 1) 30 #[.int .i8 0, .int .i8 0, .slice none 0 0] (0, 0) _ _ rfl rfl (setRow_heap _ _ _ _ _ _ rs_) Try.underlying30 rfl (by kernel_rfl)) rfl ?_
    exact ⟨_, rfl, .empty none 0 rfl, kRowW (kTrans T1_ bE) (by omega) _⟩
  | true =>
    rintro e w1_ ⟨h1_, _, b1_⟩
    obtain ⟨B, rfl, _⟩ := h1_ rfl
    clear h1_
    have B1_ : Below w.heap.size w w1_ := kTrans (kAlloc (kAlloc (Below.refl _ _) _) _) b1_
    have n1_ : w.heap.size + 2 ≤ w1_.heap.size := by have := b1_.size; simpa using this
    have T1_ : Below w.heap.size w w1_ := B1_
    have p_1_ := Lib.hid (hP.out.below B1_ (by omega))
    have b_1_ := Lib.hid (show w1_.heap[w.heap.size]? = some (.cells #[.int .i8 wd, .int .i8 hi, .slice (some ⟨b, 0, none⟩) n cap] 30 (0, 0)) from blk_below ((Below.heap_alloc _ (.cells #[.int .i8 0, .int .i8 0, .slice none 0 0] 30) _ (by simp; try omega)).trans (heap_alloc_new w (.cells #[.int .i8 wd, .int .i8 hi, .slice (some ⟨b, 0, none⟩) n cap] 30))) b1_)
    have r_1_ := Lib.hid (show w1_.heap[w.heap.size + 1]? = some (.cells #[.int .i8 0, .int .i8 0, .slice none 0 0] 30 (0, 0)) from blk_below (show ((w.alloc (.cells #[.int .i8 wd, .int .i8 hi, .slice (some ⟨b, 0, none⟩) n cap] 30)).alloc (.cells #[.int .i8 0, .int .i8 0, .slice none 0 0] 30)).heap[w.heap.size + 1]? = some _ from by have h := heap_alloc_new (w.alloc (.cells #[.int .i8 wd, .int .i8 hi, .slice (some ⟨b, 0, none⟩) n cap] 30)) (.cells #[.int .i8 0, .int .i8 0, .slice none 0 0] 30); simpa only [World.size_alloc] using h) b1_)
    clear bE hP b1_ B1_
    by_cases g1 : -24 ≤ e ∧ e ≤ 24
    · skip
      by_cases g2 : -24 ≤ s ∧ s ≤ 24
      · skip
        go_wp2_with fail
        refine (validMove_any e _ true (by simp; omega)).mono ?_
        rintro e w' ⟨rfl, rfl⟩
        go_wp2_with fail
        refine (validMove_any s _ true (by simp; omega)).mono ?_
        rintro e w' ⟨rfl, rfl⟩
        have bE : Below w1_.heap.size w1_ (w1_.alloc (.cells #[.int .i8 wd, .int .i8 hi, .map (some B)] 94)) := (kAlloc (Below.refl _ _) _)
        have cb_0 : (w1_.alloc (.cells #[.int .i8 wd, .int .i8 hi, .map (some B)] 94)).cell? ⟨w.heap.size, 0, none⟩ = some (.int .i8 wd) := cell_of_row _ _ 0 _ _ _ (blk_below b_1_.out bE)
        have cb_1 : (w1_.alloc (.cells #[.int .i8 wd, .int .i8 hi, .map (some B)] 94)).cell? ⟨w.heap.size, 1, none⟩ = some (.int .i8 hi) := cell_of_row _ _ 1 _ _ _ (blk_below b_1_.out bE)
        have cb_2 : (w1_.alloc (.cells #[.int .i8 wd, .int .i8 hi, .map (some B)] 94)).cell? ⟨w.heap.size, 2, none⟩ = some (.slice (some ⟨b, 0, none⟩) n cap) := cell_of_row _ _ 2 _ _ _ (blk_below b_1_.out bE)
        go_wp2_with fail
        refine (clone_nn b 0 n cap l _ Hn.out (p_1_.out.below bE (by omega)) (by simp only [World.size_alloc]; omega) hmax).mono ?_
        rintro e w2_ ⟨v', rfl, hown, hnn, b2_⟩
        have B2_ : Below w1_.heap.size w1_ w2_ := kTrans (kAlloc (Below.refl _ _) _) b2_
        have n2_ : w1_.heap.size + 1 ≤ w2_.heap.size := by have := b2_.size; simpa using this
        have T2_ : Below w.heap.size w w2_ := kTrans T1_ B2_
        obtain ⟨g, cp, rfl, ho, hg, hng, hcp⟩ := ownAt_of_owns hown hnn
        simp only [World.size_alloc] at hg
        have ho2 := Lib.hid (show OwnAt w2_ g (mixed (mv e s) l 0) by rw [mixed_zero]; exact ho)
        have hglt := ho.lt
        clear hown hnn ho hng
        have b_2_ := Lib.hid (blk_below b_1_.out B2_)
        have r_2_ := Lib.hid (blk_below r_1_.out B2_)
        have y_2_ := Lib.hid (show w2_.heap[w1_.heap.size]? = some (.cells #[.int .i8 wd, .int .i8 hi, .map (some B)] 94 (0, 0)) from blk_below (heap_alloc_new w1_ (.cells #[.int .i8 wd, .int .i8 hi, .map (some B)] 94)) b2_)
        clear bE cb_0 cb_1 cb_2 p_1_ b_1_ r_1_ b2_ B2_ T1_
        have HA : Hid ((l.drop 0).all (inB wd hi e s) = boardOk wd hi (l.map (mv e s))) := Lib.hid (boardOk_mv HR.out.symm).symm
        generalize hR2 : boardOk wd hi (l.map (mv e s)) = R2 at *
        have HR2 := Lib.hid hR2
        clear hR2
        have hwh := Lib.hid (show (1 ≤ wd ∧ wd ≤ 24) ∧ (1 ≤ hi ∧ hi ≤ 24) by have := HR.out.symm; simp only [boardOk, Bool.and_eq_true, decide_eq_true_eq] at this; omega)
        have HOK := Lib.hid (boardOk_ok HR.out.symm)
        go_wp2
        go_loopw [36] (fun i wr => ∃ k : Nat, k ≤ n ∧ i = .int .i64 k ∧ Hid ((l.drop k).all (inB wd hi e s) = R2) ∧ Hid (wr.heap[w.heap.size]? = some (.cells #[.int .i8 wd, .int .i8 hi, .slice (some ⟨b, 0, none⟩) n cap] 30 (0, 0))) ∧ Hid (wr.heap[w.heap.size + 1]? = some (.cells #[.int .i8 0, .int .i8 0, .slice none 0 0] 30 (0, 0))) ∧ Hid (OwnAt wr g (mixed (mv e s) l k)) ∧ Hid (wr.heap[w1_.heap.size]? = some (.cells #[.int .i8 wd, .int .i8 hi, .map (some B)] 94 (0, 0))) ∧ Below w.heap.size w wr) (fun i _ => n - (intOf i).toNat)
        case atStart => exact ⟨0, by omega, rfl, HA, b_2_, r_2_, ho2, y_2_, T2_⟩
        case round =>
          obtain ⟨k, hk, rfl, hf_, b_r, r_r, o_r, y_r, T_r⟩ := hrel
          clear b_2_ r_2_ ho2 y_2_ T2_
          have nr_ := T_r.size
          have lr_b := blk_lt b_r.out
          have lr_r := blk_lt r_r.out
          have lr_y := blk_lt y_r.out
          have lo_ := o_r.out.lt
          by_cases hlt : k < n
          · skip
            have hlk : k < l.length := by rw [Hn.out]; exact hlt
            have hp8 := HOK.out _ (List.getElem_mem hlk)
            have hat := Pc.ok_at2 hp8
            have hp8 := h8 _ (List.getElem_mem hlk)
            have hxy := o_r.out.at_ k (by rw [mixed_length]; exact hlk)
            rw [mixed_get _ _ _ hlk] at hxy
            have hd : l.drop k = l[k] :: l.drop (k + 1) := List.drop_eq_getElem_cons hlk
            have hf2 := hf_.out
            rw [hd, List.all_cons] at hf2
            have hx1 := Lib.hid (fun W (h : OwnAt W g (mixed (mv e s) l k)) => OwnAt.mvxy h hlk)
            have hx2 := Lib.hid (fun W (h : OwnAt W g (mixed (mv e s) l k)) => (show PcAt W g (k * 5) l[k] by have h2 := h.at_ k (by rw [mixed_length]; exact hlk); rw [mixed_get _ _ _ hlk, Nat.zero_add] at h2; exact h2))
            generalize l[k] = p at hxy hat hx1 hx2 hf2 hp8
            have hwh1 := hwh.out
            obtain ⟨d0, d1, d2, d3, d4⟩ := hxy
            simp only [Nat.zero_add] at d0 d1 d2 d3 d4
            clear hd hf_ HA HOK
            cases gi : inB wd hi e s p with
            | false =>
              obtain rfl : R2 = false := by rw [← hf2, gi]; rfl
              have gi2 := of_decide_eq_false gi
              clear hf2 gi
              have bE : Below wr.heap.size wr ((wr.alloc (.cells #[.int .i8 p.x, .int .i8 p.y, .int .i8 p.kind, .int .i8 p.turn, .int .i8 p.delay] 46)).alloc (.cells #[.int .i8 (p.x + e), .int .i8 (p.y + s)] 38)) := (kAlloc (kAlloc (Below.refl _ _) _) _)
              have cy_0 : ((wr.alloc (.cells #[.int .i8 p.x, .int .i8 p.y, .int .i8 p.kind, .int .i8 p.turn, .int .i8 p.delay] 46)).alloc (.cells #[.int .i8 (p.x + e), .int .i8 (p.y + s)] 38)).cell? ⟨w1_.heap.size, 0, none⟩ = some (.int .i8 wd) := cell_of_row _ _ 0 _ _ _ (blk_below y_r.out bE)
              have cy_1 : ((wr.alloc (.cells #[.int .i8 p.x, .int .i8 p.y, .int .i8 p.kind, .int .i8 p.turn, .int .i8 p.delay] 46)).alloc (.cells #[.int .i8 (p.x + e), .int .i8 (p.y + s)] 38)).cell? ⟨w1_.heap.size, 1, none⟩ = some (.int .i8 hi) := cell_of_row _ _ 1 _ _ _ (blk_below y_r.out bE)
              have cy_2 : ((wr.alloc (.cells #[.int .i8 p.x, .int .i8 p.y, .int .i8 p.kind, .int .i8 p.turn, .int .i8 p.delay] 46)).alloc (.cells #[.int .i8 (p.x + e), .int .i8 (p.y + s)] 38)).cell? ⟨w1_.heap.size, 2, none⟩ = some (.map (some B)) := cell_of_row _ _ 2 _ _ _ (blk_below y_r.out bE)
              have gi3 := Lib.hid gi2
              clear gi2
              go_wp2_with fail
              refine (holds_any (p.x + e) (p.y + s) wd hi _ (by unfold i8; omega) (by unfold i8; omega) (by unfold i8; omega) (by unfold i8; omega) false (by have := gi3.out; simp; omega)).mono ?_
              rintro e w3_ ⟨rfl, b3_⟩
              have B3_ : Below wr.heap.size wr w3_ := kTrans (kAlloc (kAlloc (Below.refl _ _) _) _) b3_
              have n3_ : wr.heap.size + 2 ≤ w3_.heap.size := by have := b3_.size; simpa using this
              have T3_ : Below w.heap.size w w3_ := kTrans T_r B3_
              have b_3_ := Lib.hid (blk_below b_r.out B3_)
              have r_3_ := Lib.hid (blk_below r_r.out B3_)
              have o_3_ := Lib.hid (o_r.out.below B3_)
              have y_3_ := Lib.hid (blk_below y_r.out B3_)
              have c_3_ := Lib.hid (show w3_.heap[wr.heap.size + 1]? = some (.cells #[.int .i8 (p.x + e), .int .i8 (p.y + s)] 38 (0, 0)) from blk_below (show ((wr.alloc (.cells #[.int .i8 p.x, .int .i8 p.y, .int .i8 p.kind, .int .i8 p.turn, .int .i8 p.delay] 46)).alloc (.cells #[.int .i8 (p.x + e), .int .i8 (p.y + s)] 38)).heap[wr.heap.size + 1]? = some _ from by have h := heap_alloc_new (wr.alloc (.cells #[.int .i8 p.x, .int .i8 p.y, .int .i8 p.kind, .int .i8 p.turn, .int .i8 p.delay] 46)) (.cells #[.int .i8 (p.x + e), .int .i8 (p.y + s)] 38); simpa only [World.size_alloc] using h) b3_)
              clear bE cy_0 cy_1 cy_2 b_r r_r o_r y_r b3_ B3_ T_r
              obtain ⟨rfl, rfl, rfl, rfl⟩ := four_inj (show (0, 0, [], 4) = (Wr, Hr, lr, C) from (hQ.symm.trans (by unfold moveQ; rw [if_pos rfl, if_pos ⟨g1, g2⟩, if_neg (by rw [HR2.out]; simp)]) : (Wr, Hr, lr, C) = (0, 0, [], 4)).symm)
              clear hQ
              have rs_ := r_3_.out
              go_wp2_with (refine wpList_store_row rfl 30 _ _ rfl (w.heap.size + 1) #[.int .i8 0, .int .i8 0, .slice none 0 0] rfl rfl 30 _ rs_ (by kernel_rfl) (by kernel_rfl) (by kernel_rfl) ?_)
              refine bodyPost_ret (v := .tuple #[.agg #[.int .i8 0, .int .i8 0, .slice none 0 0], .int .i64 4]) (results_cell_tmp rfl _ _ (w.heap.size + 1) 30 #[.int .i8 0, .int .i8 0, .slice none 0 0] (0, 0) _ _ rfl rfl (setRow_heap _ _ _ _ _ _ rs_) Try.underlying30 rfl (by kernel_rfl)) rfl ?_
              exact ⟨_, rfl, .empty none 0 rfl, kRowW T3_ (by omega) _⟩
            | true =>
              have gi2 := of_decide_eq_true gi
              have hf3 : Hid ((l.drop (k + 1)).all (inB wd hi e s) = R2) := Lib.hid (by rw [← hf2, gi]; rfl)
              clear hf2 gi
              have bE : Below wr.heap.size wr ((wr.alloc (.cells #[.int .i8 p.x, .int .i8 p.y, .int .i8 p.kind, .int .i8 p.turn, .int .i8 p.delay] 46)).alloc (.cells #[.int .i8 (p.x + e), .int .i8 (p.y + s)] 38)) := (kAlloc (kAlloc (Below.refl _ _) _) _)
              have cy_0 : ((wr.alloc (.cells #[.int .i8 p.x, .int .i8 p.y, .int .i8 p.kind, .int .i8 p.turn, .int .i8 p.delay] 46)).alloc (.cells #[.int .i8 (p.x + e), .int .i8 (p.y + s)] 38)).cell? ⟨w1_.heap.size, 0, none⟩ = some (.int .i8 wd) := cell_of_row _ _ 0 _ _ _ (blk_below y_r.out bE)
              have cy_1 : ((wr.alloc (.cells #[.int .i8 p.x, .int .i8 p.y, .int .i8 p.kind, .int .i8 p.turn, .int .i8 p.delay] 46)).alloc (.cells #[.int .i8 (p.x + e), .int .i8 (p.y + s)] 38)).cell? ⟨w1_.heap.size, 1, none⟩ = some (.int .i8 hi) := cell_of_row _ _ 1 _ _ _ (blk_below y_r.out bE)
              have cy_2 : ((wr.alloc (.cells #[.int .i8 p.x, .int .i8 p.y, .int .i8 p.kind, .int .i8 p.turn, .int .i8 p.delay] 46)).alloc (.cells #[.int .i8 (p.x + e), .int .i8 (p.y + s)] 38)).cell? ⟨w1_.heap.size, 2, none⟩ = some (.map (some B)) := cell_of_row _ _ 2 _ _ _ (blk_below y_r.out bE)
              go_wp2_with fail
              refine (holds_any (p.x + e) (p.y + s) wd hi _ (by unfold i8; omega) (by unfold i8; omega) (by unfold i8; omega) (by unfold i8; omega) true (by simp; omega)).mono ?_
              rintro e w3_ ⟨rfl, b3_⟩
              have B3_ : Below wr.heap.size wr w3_ := kTrans (kAlloc (kAlloc (Below.refl _ _) _) _) b3_
              have n3_ : wr.heap.size + 2 ≤ w3_.heap.size := by have := b3_.size; simpa using this
              have T3_ : Below w.heap.size w w3_ := kTrans T_r B3_
              have b_3_ := Lib.hid (blk_below b_r.out B3_)
              have r_3_ := Lib.hid (blk_below r_r.out B3_)
              have o_3_ := Lib.hid (o_r.out.below B3_)
              have y_3_ := Lib.hid (blk_below y_r.out B3_)
              have c_3_ := Lib.hid (show w3_.heap[wr.heap.size + 1]? = some (.cells #[.int .i8 (p.x + e), .int .i8 (p.y + s)] 38 (0, 0)) from blk_below (show ((wr.alloc (.cells #[.int .i8 p.x, .int .i8 p.y, .int .i8 p.kind, .int .i8 p.turn, .int .i8 p.delay] 46)).alloc (.cells #[.int .i8 (p.x + e), .int .i8 (p.y + s)] 38)).heap[wr.heap.size + 1]? = some _ from by have h := heap_alloc_new (wr.alloc (.cells #[.int .i8 p.x, .int .i8 p.y, .int .i8 p.kind, .int .i8 p.turn, .int .i8 p.delay] 46)) (.cells #[.int .i8 (p.x + e), .int .i8 (p.y + s)] 38); simpa only [World.size_alloc] using h) b3_)
              clear bE cy_0 cy_1 cy_2 b_r r_r o_r y_r b3_ B3_ T_r
              have cc_0 : w3_.cell? ⟨wr.heap.size + 1, 0, none⟩ = some (.int .i8 (p.x + e)) := cell_of_row _ _ 0 _ _ _ c_3_.out
              have cc_1 : w3_.cell? ⟨wr.heap.size + 1, 1, none⟩ = some (.int .i8 (p.y + s)) := cell_of_row _ _ 1 _ _ _ c_3_.out
              have fz := o_3_.out.fz
              have lo2_ := o_3_.out.lt
              have HO2 := Lib.hid (hx1.out _ o_3_.out)
              obtain ⟨d0, d1, d2, d3, d4⟩ : PcAt w3_ g (k * 5) p := hx2.out _ o_3_.out
              have kr := Lib.hid (blk_set (blk_set r_3_.out (p := ⟨g, k * 5, none⟩) (v := .int .i8 (p.x + e)) (show w.heap.size + 1 ≠ g by omega)) (p := ⟨g, k * 5 + 1, none⟩) (v := .int .i8 (p.y + s)) (show w.heap.size + 1 ≠ g by omega))
              have ky := Lib.hid (blk_set (blk_set y_3_.out (p := ⟨g, k * 5, none⟩) (v := .int .i8 (p.x + e)) (show w1_.heap.size ≠ g by omega)) (p := ⟨g, k * 5 + 1, none⟩) (v := .int .i8 (p.y + s)) (show w1_.heap.size ≠ g by omega))
              have kb := Lib.hid (blk_set (blk_set b_3_.out (p := ⟨g, k * 5, none⟩) (v := .int .i8 (p.x + e)) (show w.heap.size ≠ g by omega)) (p := ⟨g, k * 5 + 1, none⟩) (v := .int .i8 (p.y + s)) (show w.heap.size ≠ g by omega))
              have kT := Lib.hid (kSet (kSet T3_ (p := ⟨g, k * 5, none⟩) (show w.heap.size ≤ g by omega) (.int .i8 (p.x + e))) (p := ⟨g, k * 5 + 1, none⟩) (show w.heap.size ≤ g by omega) (.int .i8 (p.y + s)))
              clear hx1 hx2 r_3_ y_3_ b_3_ o_3_
              go_wp2
              exact ⟨⟨k + 1, by omega, by go_num, hf3, kb, kr, HO2, ky, kT.out⟩, by simp [intOf]; omega⟩
          · skip
            have e0 : k = n := by omega
            obtain rfl : R2 = true := by rw [← hf_.out, e0, ← Hn.out, List.drop_length]; rfl
            have ho2_ := Lib.hid (show OwnAt wr g (l.map (mv e s)) by have h := o_r.out; rw [e0, ← Hn.out, mixed_all] at h; exact h)
            have Hn2 := Lib.hid (show (l.map (mv e s)).length = n by rw [List.length_map]; exact Hn.out)
            clear o_r e0 h8 HA hf_ HOK
            have cb_0 : wr.cell? ⟨w.heap.size, 0, none⟩ = some (.int .i8 wd) := cell_of_row _ _ 0 _ _ _ b_r.out
            have cb_1 : wr.cell? ⟨w.heap.size, 1, none⟩ = some (.int .i8 hi) := cell_of_row _ _ 1 _ _ _ b_r.out
            have cb_2 : wr.cell? ⟨w.heap.size, 2, none⟩ = some (.slice (some ⟨b, 0, none⟩) n cap) := cell_of_row _ _ 2 _ _ _ b_r.out
            go_wp2_with fail
            refine (withPieces_any wd hi _ (.slice (some ⟨g, 0, none⟩) n cp) _ ⟨_, _, _, rfl⟩).mono ?_
            rintro e w3_ ⟨rfl, b3_⟩
            have n3_ : wr.heap.size ≤ w3_.heap.size := b3_.size
            have T3_ : Below w.heap.size w w3_ := kTrans T_r b3_
            have b_3_ := Lib.hid (blk_below b_r.out b3_)
            have r_3_ := Lib.hid (blk_below r_r.out b3_)
            have o_3_ := Lib.hid (ho2_.out.below b3_)
            have y_3_ := Lib.hid (blk_below y_r.out b3_)
            clear cb_0 cb_1 cb_2 b_r r_r ho2_ y_r b3_ T_r
            obtain ⟨rfl, rfl, rfl, rfl⟩ := four_inj (show (wd, hi, l.map (mv e s), 0) = (Wr, Hr, lr, C) from (hQ.symm.trans (by unfold moveQ; rw [if_pos rfl, if_pos ⟨g1, g2⟩, if_pos HR2.out]) : (Wr, Hr, lr, C) = (wd, hi, l.map (mv e s), 0)).symm)
            clear hQ
            have hs3 := Lib.hid (show SlW g w3_.heap.size w3_ (l.map (mv e s)) (.slice (some ⟨g, 0, none⟩) n cp) by have h := OwnAt.slw o_3_.out (lo := g) (cap := cp) (Nat.le_refl _) (by rw [Hn2.out]; omega); rw [Hn2.out] at h; exact h)
            have rs_ := r_3_.out
            go_wp2_with (refine wpList_store_row rfl 30 _ _ rfl (w.heap.size + 1) #[.int .i8 wd, .int .i8 hi, .slice (some ⟨g, 0, none⟩) n cp] rfl rfl 30 _ rs_ (by kernel_rfl) (by kernel_rfl) (by kernel_rfl) ?_)
            refine bodyPost_ret (v := .tuple #[.agg #[.int .i8 wd, .int .i8 hi, .slice (some ⟨g, 0, none⟩) n cp], .int .i64 0]) (results_cell_tmp rfl _ _ (w.heap.size + 1) 30 #[.int .i8 wd, .int .i8 hi, .slice (some ⟨g, 0, none⟩) n cp] (0, 0) _ _ rfl rfl (setRow_heap _ _ _ _ _ _ rs_) Try.underlying30 rfl (by kernel_rfl)) rfl ?_
            exact ⟨_, rfl, (hs3.out.row (by omega)).mono (by omega) (by simp [World.setRow]), kRowW T3_ (by omega) _⟩
      · skip
        go_wp2_with fail
        refine (validMove_any e _ true (by simp; omega)).mono ?_
        rintro e w' ⟨rfl, rfl⟩
        go_wp2_with fail
        refine (validMove_any s _ false (by simpa using g2)).mono ?_
        rintro e w' ⟨rfl, rfl⟩
        obtain ⟨rfl, rfl, rfl, rfl⟩ := four_inj (show (0, 0, [], 2) = (Wr, Hr, lr, C) from (hQ.symm.trans (by unfold moveQ; rw [if_pos rfl, if_neg (by omega)]) : (Wr, Hr, lr, C) = (0, 0, [], 2)).symm)
        clear hQ
        have bE : Below w1_.heap.size w1_ (w1_.alloc (.cells #[.int .i8 wd, .int .i8 hi, .map (some B)] 94)) := (kAlloc (Below.refl _ _) _)
        have rs_ := (blk_below r_1_.out bE)
        go_wp2_with (refine wpList_store_row rfl 30 _ _ rfl (w.heap.size + 1) #[.int .i8 0, .int .i8 0, .slice none 0 0] rfl rfl 30 _ rs_ (by kernel_rfl) (by kernel_rfl) (by kernel_rfl) ?_)
        refine bodyPost_ret (v := .tuple #[.agg #[.int .i8 0, .int .i8 0, .slice none 0 0], .int .i64 2]) (results_cell_tmp rfl _ _ (w.heap.size + 1) 30 #[.int .i8 0, .int .i8 0, .slice none 0 0] (0, 0) _ _ rfl rfl (setRow_heap _ _ _ _ _ _ rs_) Try.underlying30 rfl (by kernel_rfl)) rfl ?_
        exact ⟨_, rfl, .empty none 0 rfl, kRowW (kTrans T1_ bE) (by omega) _⟩
    · skip
      go_wp2_with fail
      refine (validMove_any e _ false (by simpa using g1)).mono ?_
      rintro e w' ⟨rfl, rfl⟩
      obtain ⟨rfl, rfl, rfl, rfl⟩ := four_inj (show (0, 0, [], 2) = (Wr, Hr, lr, C) from (hQ.symm.trans (by unfold moveQ; rw [if_pos rfl, if_neg (by omega)]) : (Wr, Hr, lr, C) = (0, 0, [], 2)).symm)
      clear hQ
      have bE : Below w1_.heap.size w1_ (w1_.alloc (.cells #[.int .i8 wd, .int .i8 hi, .map (some B)] 94)) := (kAlloc (Below.refl _ _) _)
      have rs_ := (blk_below r_1_.out bE)
      go_wp2_with (refine wpList_store_row rfl 30 _ _ rfl (w.heap.size + 1) #[.int .i8 0, .int .i8 0, .slice none 0 0] rfl rfl 30 _ rs_ (by kernel_rfl) (by kernel_rfl) (by kernel_rfl) ?_)
      refine bodyPost_ret (v := .tuple #[.agg #[.int .i8 0, .int .i8 0, .slice none 0 0], .int .i64 2]) (results_cell_tmp rfl _ _ (w.heap.size + 1) 30 #[.int .i8 0, .int .i8 0, .slice none 0 0] (0, 0) _ _ rfl rfl (setRow_heap _ _ _ _ _ _ rs_) Try.underlying30 rfl (by kernel_rfl)) rfl ?_
      exact ⟨_, rfl, .empty none 0 rfl, kRowW (kTrans T1_ bE) (by omega) _⟩
end Go.Proofs.Ythancdlkkfegnaa
