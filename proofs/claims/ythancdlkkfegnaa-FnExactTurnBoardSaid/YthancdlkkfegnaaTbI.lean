/- TurnBoard: the program. -/
import Derived.Test.YthancdlkkfegnaaTbQ
import Derived.StillTailTactics
import Derived.IntWalk
namespace Go.Proofs.Ythancdlkkfegnaa
open Go.ChangeShapes Go.WideShapes Go.ChangeAt Go.RowKit
set_option linter.unusedVariables false

set_option maxRecDepth 100000 in
set_option maxHeartbeats 4000000 in
theorem implTurnBoard_any (b n cap : Nat) (wd hi e : Int) (l : List Pc) (w : World) (hn : l.length = n) (hp : PcsAt w b 0 l) (hb : b < w.heap.size) (hc : n ≤ cap) (h8 : All8 l) (hw8 : i8 wd) (hh8 : i8 hi) (hmax : n ≤ 1048576) (R : Bool) (hR : R = boardOk wd hi l) (Wr Hr : Int) (lr : List Pc) (C : Int) (hQ : turnQ R wd hi e l = (Wr, Hr, lr, C)) (he : -9223372036854775808 ≤ e ∧ e ≤ 9223372036854775807) :
    Calls Try.prog 43 #[.agg #[.int .i8 wd, .int .i8 hi, .slice (some ⟨b, 0, none⟩) n cap], .int .i64 e] w (BoardPost Wr Hr lr C w) := by
  have Hn := Lib.hid hn
  have HR := Lib.hid hR
  have hP := Lib.hid hp
  clear hn hR hp
  have bE : Below w.heap.size w ((w.alloc (.cells #[.int .i8 wd, .int .i8 hi, .slice (some ⟨b, 0, none⟩) n cap] 30)).alloc (.cells #[.int .i8 0, .int .i8 0, .slice none 0 0] 30)) := (kAlloc (kAlloc (Below.refl _ _) _) _)
  go_enter Try.func43, Try.ntmps43
  go_wp2_with fail
  refine (implValidBoard_any b 0 n cap wd hi l _ Hn.out (hP.out.below bE (by omega)) (by simp only [World.size_alloc]; omega) hc h8 hmax R HR.out).mono ?_
  rintro e w1_ ⟨rfl, b1_⟩
  have B1_ : Below w.heap.size w w1_ := kTrans (kAlloc (kAlloc (Below.refl _ _) _) _) b1_
  have n1_ : w.heap.size + 2 ≤ w1_.heap.size := by have := b1_.size; simpa using this
  have T1_ : Below w.heap.size w w1_ := B1_
  have p_1_ := Lib.hid (hP.out.below B1_ (by omega))
  have b_1_ := Lib.hid (show w1_.heap[w.heap.size]? = some (.cells #[.int .i8 wd, .int .i8 hi, .slice (some ⟨b, 0, none⟩) n cap] 30 (0, 0)) from blk_below ((Below.heap_alloc _ (.cells #[.int .i8 0, .int .i8 0, .slice none 0 0] 30) _ (by simp; try omega)).trans (heap_alloc_new w (.cells #[.int .i8 wd, .int .i8 hi, .slice (some ⟨b, 0, none⟩) n cap] 30))) b1_)
  have r_1_ := Lib.hid (show w1_.heap[w.heap.size + 1]? = some (.cells #[.int .i8 0, .int .i8 0, .slice none 0 0] 30 (0, 0)) from blk_below (show ((w.alloc (.cells #[.int .i8 wd, .int .i8 hi, .slice (some ⟨b, 0, none⟩) n cap] 30)).alloc (.cells #[.int .i8 0, .int .i8 0, .slice none 0 0] 30)).heap[w.heap.size + 1]? = some _ from by have h := heap_alloc_new (w.alloc (.cells #[.int .i8 wd, .int .i8 hi, .slice (some ⟨b, 0, none⟩) n cap] 30)) (.cells #[.int .i8 0, .int .i8 0, .slice none 0 0] 30); simpa only [World.size_alloc] using h) b1_)
  clear bE hP b1_ B1_
  cases R with
  | false =>
    obtain ⟨rfl, rfl, rfl, rfl⟩ := four_inj (show (0, 0, [], 1) = (Wr, Hr, lr, C) from (hQ.symm.trans (by unfold turnQ; rw [if_neg (by simp)]) : (Wr, Hr, lr, C) = (0, 0, [], 1)).symm)
    clear hQ
    have rs_ := r_1_.out
    go_wp2_with (refine wpList_store_row rfl 30 _ _ rfl (w.heap.size + 1) #[.int .i8 0, .int .i8 0, .slice none 0 0] rfl rfl 30 _ rs_ (by kernel_rfl) (by kernel_rfl) (by kernel_rfl) ?_)
    refine bodyPost_ret (v := .tuple #[.agg #[.int .i8 0, .int .i8 0, .slice none 0 0], .int .i64 1]) (results_cell_tmp rfl _ _ (w.heap.size + 1) 30 #[.int .i8 0, .int .i8 0, .slice none 0 0] (0, 0) _ _ rfl rfl (setRow_heap _ _ _ _ _ _ rs_) Try.underlying30 rfl (by kernel_rfl)) rfl ?_
    exact ⟨_, rfl, .empty none 0 rfl, kRowW T1_ (by omega) _⟩
  | true =>
    by_cases g1 : -100 ≤ e ∧ e ≤ 100
    · skip
      go_wp2_with fail
      refine (validQuarters_yes e _ (by omega) (by omega)).mono ?_
      rintro e w' ⟨rfl, rfl⟩
      have cb_0 : w1_.cell? ⟨w.heap.size, 0, none⟩ = some (.int .i8 wd) := cell_of_row _ _ 0 _ _ _ b_1_.out
      have cb_1 : w1_.cell? ⟨w.heap.size, 1, none⟩ = some (.int .i8 hi) := cell_of_row _ _ 1 _ _ _ b_1_.out
      have cb_2 : w1_.cell? ⟨w.heap.size, 2, none⟩ = some (.slice (some ⟨b, 0, none⟩) n cap) := cell_of_row _ _ 2 _ _ _ b_1_.out
      have lb_ := blk_lt b_1_.out
      have HC := Lib.hid (fun W (hW : Below w1_.heap.size w1_ W) => clone_nn b 0 n cap l W Hn.out (p_1_.out.below hW (by omega)) (by have := hW.size; omega) hmax)
      go_upto_region 5 with fail
      go_cut [6] (fun s6 wx => ∃ xb g cp : Nat, s6 = .pointer (some ⟨xb, 0, none⟩) ∧ wx.heap[xb]? = some (.cells #[.int .i8 wd, .int .i8 hi, .slice (some ⟨g, 0, none⟩) n cp] 30 (0, 0)) ∧ OwnAt wx g l ∧ w1_.heap.size ≤ xb ∧ w1_.heap.size ≤ g ∧ n ≤ cp ∧ Below w1_.heap.size w1_ wx)
      case first =>
        skip
        go_region_held3 (fun w' => w'.cell? ⟨w.heap.size, 0, none⟩ = some (.int .i8 wd) ∧ w'.cell? ⟨w.heap.size, 1, none⟩ = some (.int .i8 hi) ∧ w'.cell? ⟨w.heap.size, 2, none⟩ = some (.slice (some ⟨b, 0, none⟩) n cap)) (go_keep)
          (first
          | (go_at_call 79
             refine (withPieces_any wd hi _ _ _ ⟨_, _, _, rfl⟩).mono ?_
             rintro e w3_ ⟨rfl, b3_⟩
             have n3 : w2_.heap.size ≤ w3_.heap.size := Nat.le_trans (by first | exact Nat.le_refl _ | simp) b3_.size
             have lb3 : w.heap.size < w3_.heap.size := Nat.lt_of_lt_of_le (by first | omega | (simp; omega)) b3_.size
             have cb_0 := (b3_.cell (p := ⟨w.heap.size, 0, none⟩) (by first | omega | (simp; omega))).trans (by first | exact cb_0 | exact (World.cell?_alloc_lt _ _ _ lb2).trans cb_0)
             have cb_1 := (b3_.cell (p := ⟨w.heap.size, 1, none⟩) (by first | omega | (simp; omega))).trans (by first | exact cb_1 | exact (World.cell?_alloc_lt _ _ _ lb2).trans cb_1)
             have cb_2 := (b3_.cell (p := ⟨w.heap.size, 2, none⟩) (by first | omega | (simp; omega))).trans (by first | exact cb_2 | exact (World.cell?_alloc_lt _ _ _ lb2).trans cb_2)
             try have oy := (show w3_.heap[w2_.heap.size]? = some (.cells #[.int .i8 0, .int .i8 0, .slice none 0 0] 30 (0, 0)) from blk_below (heap_alloc_new w2_ (.cells #[.int .i8 0, .int .i8 0, .slice none 0 0] 30)) b3_)
             try have oy := blk_below ox.out b3_
             try have y0 := cell_of_row _ _ 0 _ _ _ oy
             try have y1 := cell_of_row _ _ 1 _ _ _ oy
             try have y2 := cell_of_row _ _ 2 _ _ _ oy
             try have yf := fun j => frozen_of_row _ _ j _ _ oy
             try simp at y0 y1 y2
             have ne1 : ¬ w.heap.size = w2_.heap.size := by omega
             have ne2 : ¬ w2_.heap.size = w.heap.size := by omega
             have ne3 : ¬ w.heap.size = w1_.heap.size := by omega
             have ne4 : ¬ w1_.heap.size = w.heap.size := by omega
             have ne5 : ¬ w.heap.size = w3_.heap.size := by omega
             have ne6 : ¬ w3_.heap.size = w.heap.size := by omega)
          | (go_at_call 80
             refine (HC.out _ (by repeat (first | with_reducible exact Below.refl _ _ | (with_reducible refine kSet ?_ ?hB _; case hB => (simp; try omega)) | with_reducible refine kAlloc ?_ _ | with_reducible refine Below.drew ?_ | with_reducible refine kDrewN ?_ _ | with_reducible refine kTrans ?_ (by assumption)))).mono ?_
             rintro e w2_ ⟨v2, rfl, own2, nn2, b2_⟩
             obtain ⟨g, cp, rfl, ho, hg, hng, hcp⟩ := ownAt_of_owns own2 nn2
             have Ho := Lib.hid ho
             try have ox := Lib.hid (show w2_.heap[w1_.heap.size]? = some (.cells #[.int .i8 0, .int .i8 0, .slice none 0 0] 30 (0, 0)) from blk_below (heap_alloc_new w1_.drew (.cells #[.int .i8 0, .int .i8 0, .slice none 0 0] 30)) b2_)
             clear own2 nn2 ho hng
             have hg4 : w1_.heap.size ≤ g := Nat.le_trans (by first | exact Nat.le_refl _ | simp) hg
             have n2 : w1_.heap.size ≤ w2_.heap.size := Nat.le_trans (by first | exact Nat.le_refl _ | simp) b2_.size
             have lb2 : w.heap.size < w2_.heap.size := Nat.lt_of_lt_of_le (by first | omega | (simp; try omega)) b2_.size
             have cb_0 := (b2_.cell (p := ⟨w.heap.size, 0, none⟩) (by first | omega | (simp; try omega))).trans (by first | exact cb_0 | exact (World.cell?_alloc_lt _ _ _ lb_).trans cb_0)
             have cb_1 := (b2_.cell (p := ⟨w.heap.size, 1, none⟩) (by first | omega | (simp; try omega))).trans (by first | exact cb_1 | exact (World.cell?_alloc_lt _ _ _ lb_).trans cb_1)
             have cb_2 := (b2_.cell (p := ⟨w.heap.size, 2, none⟩) (by first | omega | (simp; try omega))).trans (by first | exact cb_2 | exact (World.cell?_alloc_lt _ _ _ lb_).trans cb_2)))
        · go_wp2_with fail
          go_meet
          exact ⟨w3_.heap.size, g, cp, rfl, heap_alloc_new _ _, (Ho.out.below b3_).below (kAlloc (Below.refl _ _) _), by omega, hg4, hcp, kAlloc (kTrans (kTrans (Below.drew (Below.refl _ _)) b2_) b3_) _⟩
        · have hne : w2_.heap.size ≠ g := by have := Ho.out.lt; omega
          go_wp2_with fail
          go_meet
          exact ⟨w2_.heap.size, g, cp, rfl, box3_set oy, (((Ho.out.below (kTrans (kAlloc (Below.refl _ _) _) b3_)).far hne).far hne).far hne, n2, hg4, hcp, kSet (kSet (kSet (kTrans (kAlloc (kTrans (Below.drew (Below.refl _ _)) b2_) _) b3_) n2 _) n2 _) n2 _⟩
        · have hg5 : w1_.heap.size + 1 ≤ g := by simpa using hg
          have hne : w1_.heap.size ≠ g := by omega
          go_wp2_with fail
          go_meet
          exact ⟨w1_.heap.size, g, cp, rfl, box3_set oy, (((Ho.out.below b3_).far hne).far hne).far hne, Nat.le_refl _, hg4, hcp, kSet (kSet (kSet (kTrans (kTrans (kAlloc (Below.drew (Below.refl _ _)) _) b2_) b3_) (Nat.le_refl _) _) (Nat.le_refl _) _) (Nat.le_refl _) _⟩
      case rest =>
        obtain ⟨xb, g, cp, rfl, hx, ho, h1_, h2_, h3_, hT_⟩ := hcut
        have hx_ := Lib.hid hx
        have ho_ := Lib.hid ho
        clear hx ho cb_0 cb_1 cb_2 HC lb_
        have hr_ := Lib.hid (blk_below r_1_.out hT_)
        have T2_ := kTrans T1_ hT_
        clear r_1_ p_1_ b_1_ T1_
        have lx_ := blk_lt hx_.out
        have lr_ := blk_lt hr_.out
        have lo_ := ho_.out.lt
        have hf0 := fine_of_ok HR.out.symm h8
        have HF0 := Lib.hid (show Fine wd hi l ∧ l.length = n from ⟨hf0, Hn.out⟩)
        obtain ⟨m, hm⟩ : ∃ m : Nat, e % 4 = m := ⟨(e % 4).toNat, by omega⟩
        have hm3 : m ≤ 3 := by omega
        obtain ⟨⟨W1, H1, L1⟩, ht⟩ : ∃ t, turnK m wd hi l = t := ⟨_, rfl⟩
        have ht' : turnK (e % 4).toNat wd hi l = (W1, H1, L1) := by rw [hm, Int.toNat_natCast]; exact ht
        obtain ⟨rfl, rfl, rfl, rfl⟩ := four_inj (show (W1, H1, L1, (0 : Int)) = (Wr, Hr, lr, C) from by rw [← hQ]; unfold turnQ; rw [if_pos rfl, if_pos g1, ht'])
        have HQ : ∀ W : World, Calls Try.prog 90 #[.int .i64 e] W fun r w' => r = .returned (.int .i8 (m : Int)) ∧ W = w' := fun W => by have h := wrapQuarters_any e W (by omega); rw [hm] at h; exact h
        have HQ2 := Lib.hid HQ
        have HK := Lib.hid (show turnK (m - 0) wd hi l = (W1, H1, L1) from ht)
        have hs0 := Lib.hid (show SlW g wc.heap.size wc l (.slice (some ⟨g, 0, none⟩) n cp) by have e1 := Hn.out; have h := OwnAt.slw ho_.out (lo := g) (cap := cp) (Nat.le_refl _) (by omega); rw [e1] at h; exact h)
        have hgw : w.heap.size + 1 < g := by omega
        clear hQ hf0 h8 hw8 hh8 ht ht' hm HQ ho_
        go_wp2_with fail
        refine (HQ2.out _).mono ?_
        rintro e' w' ⟨rfl, rfl⟩
        go_wp2
        go_loopw [22] (fun v wr => ∃ (j : Nat) (Wx Hx : Int) (L : List Pc) (va : Option Addr) (vc lo : Nat), j ≤ m ∧ v = .int .i8 j ∧ w.heap.size + 1 < lo ∧ Hid (turnK (m - j) Wx Hx L = (W1, H1, L1)) ∧ Hid (Fine Wx Hx L ∧ L.length = n) ∧ Hid (wr.heap[w.heap.size + 1]? = some (.cells #[.int .i8 0, .int .i8 0, .slice none 0 0] 30 (0, 0))) ∧ Hid (wr.heap[xb]? = some (.cells #[.int .i8 Wx, .int .i8 Hx, .slice va n vc] 30 (0, 0))) ∧ Hid (SlW lo wr.heap.size wr L (.slice va n vc)) ∧ Below w.heap.size w wr) (fun v _ => m - (intOf v).toNat)
        case atStart => exact ⟨0, wd, hi, l, _, cp, g, by omega, rfl, hgw, HK, HF0, hr_, hx_, hs0, T2_⟩
        case round =>
          obtain ⟨j, Wx, Hx, L, va, vc, lo, hj3, rfl, hlo, hk_, hf_, hrr_, hxx_, hss_, hTT_⟩ := hrel
          clear HK HF0 hr_ hx_ hs0 T2_
          have nr_ := hTT_.size
          have lx_ := blk_lt hxx_.out
          have lr_ := blk_lt hrr_.out
          have c0 : wr.cell? ⟨xb, 0, none⟩ = some (.int .i8 Wx) := cell_of_row _ _ 0 _ _ _ hxx_.out
          have c1 : wr.cell? ⟨xb, 1, none⟩ = some (.int .i8 Hx) := cell_of_row _ _ 1 _ _ _ hxx_.out
          have c2 : wr.cell? ⟨xb, 2, none⟩ = some (.slice va n vc) := cell_of_row _ _ 2 _ _ _ hxx_.out
          by_cases hj : j < m
          · have hn9 := hf_.out.2
            have HQT := Lib.hid (quarterTurned_any (.slice va n vc) Wx Hx L wr hss_.out.sl hf_.out.1 (by omega))
            have Hl2 := Lib.hid (show (L.map (qt Hx)).length = n by rw [List.length_map]; exact hn9)
            have HK2 := Lib.hid (show turnK (m - (j + 1)) Hx Wx (L.map (qt Hx)) = (W1, H1, L1) by have h := hk_.out; rw [show m - j = (m - (j + 1)) + 1 by omega] at h; exact h)
            have HF2 := Lib.hid (show Fine Hx Wx (L.map (qt Hx)) ∧ (L.map (qt Hx)).length = n from ⟨hf_.out.1.turn, Hl2.out⟩)
            clear hk_ hf_ hn9
            go_wp2_with fail
            refine HQT.out.mono ?_
            rintro e' w4_ ⟨v', rfl, hv4, b4_⟩
            obtain ⟨ua, uc, rfl⟩ := hv4.form
            have hv5 := Lib.hid (show SlW wr.heap.size w4_.heap.size w4_ (L.map (qt Hx)) (.slice ua n uc) by have h := hv4; rw [Hl2.out] at h; exact h)
            have hx4 := blk_below hxx_.out b4_
            have hr4 := Lib.hid (blk_below hrr_.out b4_)
            have T4 := kTrans hTT_ b4_
            have e9 := Lib.hid Hl2.out
            have n4_ := b4_.size
            clear hv4 b4_ hTT_ hxx_ hrr_ hss_ HQT c0 c1 c2
            rw [e9.out]
            have z1 := Lib.hid (blk_row hr4.out (g := xb) (cs := #[.int .i8 Hx, .int .i8 Wx, .slice ua n uc]) (show w.heap.size + 1 ≠ xb by omega))
            have z2 := Lib.hid (setRow_heap _ _ _ #[.int .i8 Hx, .int .i8 Wx, .slice ua n uc] _ _ hx4)
            have z3 := Lib.hid (hv5.out.row (g := xb) (cs := #[.int .i8 Hx, .int .i8 Wx, .slice ua n uc]) (by omega))
            have z4 := Lib.hid (kRowW T4 (g := xb) (by omega) #[.int .i8 Hx, .int .i8 Wx, .slice ua n uc])
            go_wp2_with (refine wpList_store_row rfl 30 _ _ rfl xb #[.int .i8 Hx, .int .i8 Wx, .slice ua n uc] rfl rfl 30 _ hx4 (by kernel_rfl) (by kernel_rfl) (by kernel_rfl) ?_)
            exact ⟨⟨j + 1, Hx, Wx, L.map (qt Hx), ua, uc, wr.heap.size, by omega, by go_num, by omega, HK2, HF2, z1, z2, Lib.hid (z3.out.mono (Nat.le_refl _) (by simp [World.setRow])), z4.out⟩, by simp [intOf]; omega⟩
          · obtain rfl : j = m := by omega
            have e0 := hk_.out
            rw [Nat.sub_self] at e0
            simp only [turnK, Prod.mk.injEq] at e0
            obtain ⟨rfl, rfl, rfl⟩ := e0
            have hL9 := hf_.out.2
            have hs9 := Lib.hid (show SlW lo wr.heap.size wr L (.slice va n vc) from hss_.out)
            have rs_ := hrr_.out
            clear hk_ hf_ hxx_ hss_ hrr_
            go_wp2_with (refine wpList_store_row rfl 30 _ _ rfl (w.heap.size + 1) #[.int .i8 Wx, .int .i8 Hx, .slice va n vc] rfl rfl 30 _ rs_ (by kernel_rfl) (by kernel_rfl) (by kernel_rfl) ?_)
            refine bodyPost_ret (v := .tuple #[.agg #[.int .i8 Wx, .int .i8 Hx, .slice va n vc], .int .i64 0]) (results_cell_tmp rfl _ _ (w.heap.size + 1) 30 #[.int .i8 Wx, .int .i8 Hx, .slice va n vc] (0, 0) _ _ rfl rfl (setRow_heap _ _ _ _ _ _ rs_) Try.underlying30 rfl (by kernel_rfl)) rfl ?_
            exact ⟨_, rfl, (hs9.out.row (by omega)).mono (by omega) (by simp [World.setRow]), kRowW hTT_ (by omega) _⟩
    · skip
      go_wp2_with fail
      refine (validQuarters_no e _ (by omega)).mono ?_
      rintro e w' ⟨rfl, rfl⟩
      obtain ⟨rfl, rfl, rfl, rfl⟩ := four_inj (show (0, 0, [], 2) = (Wr, Hr, lr, C) from (hQ.symm.trans (by unfold turnQ; rw [if_pos rfl, if_neg g1]) : (Wr, Hr, lr, C) = (0, 0, [], 2)).symm)
      clear hQ
      have rs_ := r_1_.out
      go_wp2_with (refine wpList_store_row rfl 30 _ _ rfl (w.heap.size + 1) #[.int .i8 0, .int .i8 0, .slice none 0 0] rfl rfl 30 _ rs_ (by kernel_rfl) (by kernel_rfl) (by kernel_rfl) ?_)
      refine bodyPost_ret (v := .tuple #[.agg #[.int .i8 0, .int .i8 0, .slice none 0 0], .int .i64 2]) (results_cell_tmp rfl _ _ (w.heap.size + 1) 30 #[.int .i8 0, .int .i8 0, .slice none 0 0] (0, 0) _ _ rfl rfl (setRow_heap _ _ _ _ _ _ rs_) Try.underlying30 rfl (by kernel_rfl)) rfl ?_
      exact ⟨_, rfl, .empty none 0 rfl, kRowW T1_ (by omega) _⟩
end Go.Proofs.Ythancdlkkfegnaa
