/- TurnBoard: the model. -/
import Derived.Test.YthancdlkkfegnaaTbA
import Derived.StillTailTactics
import Derived.IntWalk
namespace Go.Proofs.Ythancdlkkfegnaa
open Go.ChangeShapes Go.WideShapes Go.ChangeAt Go.RowKit
set_option linter.unusedVariables false

set_option maxRecDepth 100000 in
set_option maxHeartbeats 4000000 in
theorem specTurnBoard_any (b n cap : Nat) (wd hi e : Int) (l : List Pc) (w : World) (hn : l.length = n) (hp : PcsAt w b 0 l) (hb : b < w.heap.size) (hc : n ≤ cap) (h8 : All8 l) (hw8 : i8 wd) (hh8 : i8 hi) (hmax : n ≤ 1048576) (R : Bool) (hR : R = boardOk wd hi l) (Wr Hr : Int) (lr : List Pc) (C : Int) (hQ : turnQ R wd hi e l = (Wr, Hr, lr, C)) (he : -9223372036854775808 ≤ e ∧ e ≤ 9223372036854775807) :
    Calls Try.prog 42 #[.agg #[.int .i8 wd, .int .i8 hi, .slice (some ⟨b, 0, none⟩) n cap], .int .i64 e] w (BoardPost Wr Hr lr C w) := by
  have Hn := Lib.hid hn
  have HR := Lib.hid hR
  have hP := Lib.hid hp
  clear hn hR hp
  have bE : Below w.heap.size w ((w.alloc (.cells #[.int .i8 wd, .int .i8 hi, .slice (some ⟨b, 0, none⟩) n cap] 30)).alloc (.cells #[.int .i8 0, .int .i8 0, .slice none 0 0] 30)) := (kAlloc (kAlloc (Below.refl _ _) _) _)
  go_enter Try.func42, Try.ntmps42
  go_wp2_with fail
  refine (l01Ok_any w.heap.size 0 b 0 n cap wd hi l _ Hn.out (BdAt.of ((Below.heap_alloc _ (.cells #[.int .i8 0, .int .i8 0, .slice none 0 0] 30) _ (by simp; try omega)).trans (heap_alloc_new w (.cells #[.int .i8 wd, .int .i8 hi, .slice (some ⟨b, 0, none⟩) n cap] 30)))) (hP.out.below bE (by omega)) (by simp only [World.size_alloc]; omega) hc h8 hw8 hh8 hmax R HR.out).mono ?_
  rintro e w1_ ⟨rfl, b1_⟩
  have B1_ : Below w.heap.size w w1_ := kTrans (kAlloc (kAlloc (Below.refl _ _) _) _) b1_
  have n1_ : w.heap.size + 2 ≤ w1_.heap.size := by have := b1_.size; simpa using this
  have T1_ : Below w.heap.size w w1_ := B1_
  have p_1_ := Lib.hid (hP.out.below B1_ (by omega))
  have b_1_ := Lib.hid (show w1_.heap[w.heap.size]? = some (.cells #[.int .i8 wd, .int .i8 hi, .slice (some ⟨b, 0, none⟩) n cap] 30 (0, 0)) from blk_below ((Below.heap_alloc _ (.cells #[.int .i8 0, .int .i8 0, .slice none 0 0] 30) _ (by simp; try omega)).trans (heap_alloc_new w (.cells #[.int .i8 wd, .int .i8 hi, .slice (some ⟨b, 0, none⟩) n cap] 30))) b1_)
  have r_1_ := Lib.hid (show w1_.heap[w.heap.size + 1]? = some (.cells #[.int .i8 0, .int .i8 0, .slice none 0 0] 30 (0, 0)) from blk_below (show ((w.alloc (.cells #[.int .i8 wd, .int .i8 hi, .slice (some ⟨b, 0, none⟩) n cap] 30)).alloc (.cells #[.int .i8 0, .int .i8 0, .slice none 0 0] 30)).heap[w.heap.size + 1]? = some _ from by have h := heap_alloc_new (w.alloc (.cells #[.int .i8 wd, .int .i8 hi, .slice (some ⟨b, 0, none⟩) n cap] 30)) (.cells #[.int .i8 0, .int .i8 0, .slice none 0 0] 30); simpa only [World.size_alloc] using h) b1_)
  clear bE hP b1_ B1_
  cases R with
  | false =>
    obtain ⟨rfl, rfl, rfl, rfl⟩ := four_inj (show (0, 0, [], 1) = (Wr, Hr, lr, C) from (hQ.symm.trans (by unfold turnQ; rw [if_neg (by simp)]) : (Wr, Hr, lr, C) = (0, 0, [], 1)).symm)
    clear hQ
    have rs_ := r_1_.out
    go_wp2_with (refine wpList_store_row rfl 30 _ _ rfl (w.heap.size + 1) #[.int .i8 0, .int .i8 0, .slice none 0 0] rfl rfl 30 _ rs_ (by kernel_rfl) (by kernel_rfl) (by kernel_rfl) ?_)
    refine bodyPost_ret (v := .tuple #[.agg #[.int .i8 0, .int .i8 0, .slice none 0 0], .int .i64 1]) (results_cell_tmp rfl _ _ (w.heap.size + 1) 30 #[.int .i8 0, .int .i8 0, .slice none 0 0] (0, 0) _ _ rfl rfl (setRow_heap _ _ _ _ _ _ rs_) Try.underlying30 rfl (by kernel_rfl)) rfl ?_
    exact ⟨_, rfl, .empty none 0 rfl, kRowW T1_ (by omega) _⟩
  | true =>
    by_cases g1 : -100 ≤ e ∧ e ≤ 100
    · skip
      go_wp2_with fail
      refine (l00In_yes e (-100) 100 _ (by omega) (by omega)).mono ?_
      rintro e w' ⟨rfl, rfl⟩
      go_wp2_with fail
      refine (l01Copy_nn w.heap.size b 0 n cap wd hi l _ Hn.out (BdAt.of b_1_.out) p_1_.out (by omega) hmax).mono ?_
      rintro e w2_ ⟨v', rfl, hown, hnn, b2_⟩
      have n2_ : w1_.heap.size ≤ w2_.heap.size := b2_.size
      have T2_ : Below w.heap.size w w2_ := kTrans T1_ b2_
      obtain ⟨g, cp, rfl, ho, hg, hng, hcp⟩ := ownAt_of_owns hown hnn
      have ho2 := Lib.hid ho
      have hglt := ho.lt
      clear hown hnn ho hng
      have r_2_ := Lib.hid (blk_below r_1_.out b2_)
      clear p_1_ b_1_ r_1_ b2_ T1_
      have hka := Lib.hid (heap_alloc_new w2_ (.cells #[.int .i8 wd, .int .i8 hi, .slice (some ⟨g, 0, none⟩) n cp] 30))
      have hxg : g < w2_.heap.size := hglt
      have bE : Below w2_.heap.size w2_ (w2_.alloc (.cells #[.int .i8 wd, .int .i8 hi, .slice (some ⟨g, 0, none⟩) n cp] 30)) := (kAlloc (Below.refl _ _) _)
      have hf0 := fine_of_ok HR.out.symm h8
      have HF0 := Lib.hid (show Fine wd hi l ∧ l.length = n from ⟨hf0, Hn.out⟩)
      obtain ⟨m, hm⟩ : ∃ m : Nat, e % 4 = m := ⟨(e % 4).toNat, by omega⟩
      have hm3 : m ≤ 3 := by omega
      obtain ⟨⟨W1, H1, L1⟩, ht⟩ : ∃ t, turnK m wd hi l = t := ⟨_, rfl⟩
      have ht' : turnK (e % 4).toNat wd hi l = (W1, H1, L1) := by rw [hm, Int.toNat_natCast]; exact ht
      obtain ⟨rfl, rfl, rfl, rfl⟩ := four_inj (show (W1, H1, L1, (0 : Int)) = (Wr, Hr, lr, C) from by rw [← hQ]; unfold turnQ; rw [if_pos rfl, if_pos g1, ht'])
      have HQ : ∀ W : World, Calls Try.prog 88 #[.int .i8 0, .int .i64 e] W fun r w' => r = .returned (.int .i8 (m : Int)) ∧ W = w' := fun W => by have h := l01Quarters_any 0 e W (by omega) (by omega); rw [Int.zero_add, hm] at h; exact h
      have HQ2 := Lib.hid HQ
      have HK := Lib.hid ht
      clear hQ hf0 h8 hw8 hh8 ht ht' hm HQ
      go_wp2_with fail
      refine (HQ2.out _).mono ?_
      rintro e w' ⟨rfl, rfl⟩
      go_wp2
      go_loopw [7] (fun v wr => ∃ (j : Nat) (Wx Hx : Int) (L : List Pc), j ≤ 3 ∧ v = .int .i64 j ∧ Hid (turnK j Wx Hx L = (W1, H1, L1)) ∧ Hid (Fine Wx Hx L ∧ L.length = n) ∧ Hid (wr.heap[w.heap.size + 1]? = some (.cells #[.int .i8 0, .int .i8 0, .slice none 0 0] 30 (0, 0))) ∧ Hid (wr.heap[w2_.heap.size]? = some (.cells #[.int .i8 Wx, .int .i8 Hx, .slice (some ⟨g, 0, none⟩) n cp] 30 (0, 0))) ∧ Hid (OwnAt wr g L) ∧ Below w.heap.size w wr) (fun v _ => (intOf v).toNat)
      case atStart => exact ⟨m, wd, hi, l, hm3, rfl, HK, HF0, Lib.hid ((blk_below r_2_.out bE)), hka, Lib.hid ((ho2.out.below bE)), (kTrans T2_ bE)⟩
      case round =>
        skip
        obtain ⟨wo, rfl⟩ : ∃ wo : World, wo = wr := ⟨_, rfl⟩
        obtain ⟨j, Wx, Hx, L, hj3, rfl, hk_, hf_, hr_, hx_, ho_, hT_⟩ := hrel
        clear hka bE HK HF0 r_2_ ho2 T2_
        have nr_ := hT_.size
        have lx_ := blk_lt hx_.out
        have lr_ := blk_lt hr_.out
        have lo_ := ho_.out.lt
        obtain ⟨hw1, hw2, hh1, hh2, hps⟩ := hf_.out.1
        have Hps := Lib.hid hps
        have Hl := Lib.hid hf_.out.2
        clear hps
        have cx_0 : wo.cell? ⟨w2_.heap.size, 0, none⟩ = some (.int .i8 Wx) := cell_of_row _ _ 0 _ _ _ hx_.out
        have cx_1 : wo.cell? ⟨w2_.heap.size, 1, none⟩ = some (.int .i8 Hx) := cell_of_row _ _ 1 _ _ _ hx_.out
        have cx_2 : wo.cell? ⟨w2_.heap.size, 2, none⟩ = some (.slice (some ⟨g, 0, none⟩) n cp) := cell_of_row _ _ 2 _ _ _ hx_.out
        by_cases hj : 0 < j
        · skip
          obtain ⟨j2, hj2⟩ : ∃ j2, j2 + 1 = j := ⟨j - 1, by omega⟩
          have HK2 : Hid (turnK j2 Hx Wx (L.map (qt Hx)) = (W1, H1, L1)) := Lib.hid (by have h := hk_.out; rw [← hj2] at h; exact h)
          have Hj2 := Lib.hid hj2
          clear hj2
          have HF2 := Lib.hid (show Fine Hx Wx (L.map (qt Hx)) ∧ (L.map (qt Hx)).length = n from ⟨hf_.out.1.turn, by rw [List.length_map]; exact hf_.out.2⟩)
          have ho0 := Lib.hid (show OwnAt wo g (mixed (qt Hx) L 0) by rw [mixed_zero]; exact ho_.out)
          clear hk_ hf_ ho_
          go_wp2
          go_loopw [8] (fun i wr => ∃ k : Nat, k ≤ n ∧ i = .int .i64 k ∧ Hid (wr.heap[w.heap.size + 1]? = some (.cells #[.int .i8 0, .int .i8 0, .slice none 0 0] 30 (0, 0))) ∧ Hid (wr.heap[w2_.heap.size]? = some (.cells #[.int .i8 Wx, .int .i8 Hx, .slice (some ⟨g, 0, none⟩) n cp] 30 (0, 0))) ∧ Hid (OwnAt wr g (mixed (qt Hx) L k)) ∧ Below w.heap.size w wr) (fun i _ => n - (intOf i).toNat)
          case atStart => exact ⟨0, by omega, rfl, hr_, hx_, ho0, hT_⟩
          case round =>
            skip
            clear cx_0 cx_1 cx_2 hr_ hx_ ho0 hT_ nr_ lx_ lr_ lo_
            obtain ⟨k, hk, rfl, hr_, hx_, ho_, hT_⟩ := hrel
            have nr_ := hT_.size
            have lx_ := blk_lt hx_.out
            have lr_ := blk_lt hr_.out
            have lo_ := ho_.out.lt
            have cx_0 : wr.cell? ⟨w2_.heap.size, 0, none⟩ = some (.int .i8 Wx) := cell_of_row _ _ 0 _ _ _ hx_.out
            have cx_1 : wr.cell? ⟨w2_.heap.size, 1, none⟩ = some (.int .i8 Hx) := cell_of_row _ _ 1 _ _ _ hx_.out
            have cx_2 : wr.cell? ⟨w2_.heap.size, 2, none⟩ = some (.slice (some ⟨g, 0, none⟩) n cp) := cell_of_row _ _ 2 _ _ _ hx_.out
            by_cases hlt : k < n
            · skip
              have hlk : k < L.length := by rw [Hl.out]; exact hlt
              obtain ⟨hp8, hpx, hpy, hpt⟩ := Hps.out _ (List.getElem_mem hlk)
              have hxy := OwnAt.get_m hlk ho_.out
              have hx1 := Lib.hid (OwnAt.q1 ho_.out hlk)
              have hx2 := Lib.hid (fun W (h : OwnAt W g ((mixed (qt Hx) L k).set k (qh Hx L[k]))) => OwnAt.q2 hlk h)
              have hx3 := Lib.hid (fun W (h : OwnAt W g ((mixed (qt Hx) L k).set k (qh Hx L[k]))) => OwnAt.get_q hlk h)
              generalize L[k] = p at hp8 hpx hpy hpt hxy hx1 hx2 hx3
              obtain ⟨d0, d1, d2, d3, d4⟩ := hxy
              have fz := ho_.out.fz
              have kT := Lib.hid (Below.drew (kSet (kSet hT_ (p := ⟨g, k * 5, none⟩) (show w.heap.size ≤ g by omega) (.int .i8 (Hx - 1 - p.y))) (p := ⟨g, k * 5 + 1, none⟩) (show w.heap.size ≤ g by omega) (.int .i8 p.x)))
              have kr := Lib.hid (blk_drew (blk_set (blk_set hr_.out (p := ⟨g, k * 5, none⟩) (v := .int .i8 (Hx - 1 - p.y)) (show w.heap.size + 1 ≠ g by omega)) (p := ⟨g, k * 5 + 1, none⟩) (v := .int .i8 p.x) (show w.heap.size + 1 ≠ g by omega)))
              have kx := Lib.hid (blk_drew (blk_set (blk_set hx_.out (p := ⟨g, k * 5, none⟩) (v := .int .i8 (Hx - 1 - p.y)) (show w2_.heap.size ≠ g by omega)) (p := ⟨g, k * 5 + 1, none⟩) (v := .int .i8 p.x) (show w2_.heap.size ≠ g by omega)))
              clear hr_ hx_ ho_ hT_ hp8
              have e1 : IntKind.i8.wrap (Hx - 1) = Hx - 1 := IntWalk.i8_in _ (by omega)
              have e2 : IntKind.i8.wrap (Hx - 1 - p.y) = Hx - 1 - p.y := IntWalk.i8_in _ (by omega)
              go_wp2
              go_still_tail 18, (by kernel_rfl)
              clear e1 e2
              change wpList _ _ _ _ _ wr.drew
              go_wp2_with fail
              clear d0 d1 d2 d3 d4 fz cx_0 cx_1 cx_2 lo_ lx_ lr_ nr_
              generalize ((wr.setCell ⟨g, k * 5, none⟩ (.int .i8 (Hx - 1 - p.y))).setCell ⟨g, k * 5 + 1, none⟩ (.int .i8 p.x)).drew = wq at *
              refine (l01Quarters_any p.turn 1 _ hpt (by omega)).mono ?_
              rintro e' w' ⟨rfl, rfl⟩
              obtain ⟨d0, d1, d2, d3, d4⟩ := hx3.out wq hx1.out
              simp only [qh] at d3
              have fz := hx1.out.fz
              have ho9 := Lib.hid (hx2.out wq hx1.out)
              have kT2 := Lib.hid (kSet kT.out (p := ⟨g, k * 5 + 3, none⟩) (show w.heap.size ≤ g by omega) (.int .i8 ((p.turn + 1) % 4)))
              have kr2 := Lib.hid (blk_set kr.out (p := ⟨g, k * 5 + 3, none⟩) (v := .int .i8 ((p.turn + 1) % 4)) (show w.heap.size + 1 ≠ g by omega))
              have kx2 := Lib.hid (blk_set kx.out (p := ⟨g, k * 5 + 3, none⟩) (v := .int .i8 ((p.turn + 1) % 4)) (show w2_.heap.size ≠ g by omega))
              clear hx1 hx2 hx3 kT kr kx d0 d1 d2 d4
              go_wp2
              exact ⟨⟨k + 1, by omega, by go_num, kr2, kx2, ho9, kT2.out⟩, by simp [intOf]; omega⟩
            · skip
              have e0 : k = n := by omega
              have ho8 := Lib.hid (show OwnAt wr g (L.map (qt Hx)) by have h := ho_.out; rw [e0, ← Hl.out, mixed_all] at h; exact h)
              have hne : w2_.heap.size ≠ g := by omega
              have h1 := blk_set_same (i := 0) (v := .int .i8 Hx) hx_.out
              have h2 := Lib.hid (show ((wr.setCell ⟨w2_.heap.size, 0, none⟩ (.int .i8 Hx)).setCell ⟨w2_.heap.size, 1, none⟩ (.int .i8 Wx)).heap[w2_.heap.size]? = some (.cells #[.int .i8 Hx, .int .i8 Wx, .slice (some ⟨g, 0, none⟩) n cp] 30 (0, 0)) from blk_set_same (i := 1) (v := .int .i8 Wx) h1)
              have ho9 := Lib.hid (OwnAt.far (OwnAt.far ho8.out (p := ⟨w2_.heap.size, 0, none⟩) (v := .int .i8 Hx) hne) (p := ⟨w2_.heap.size, 1, none⟩) (v := .int .i8 Wx) hne)
              have kr2 := Lib.hid (blk_set (blk_set hr_.out (p := ⟨w2_.heap.size, 0, none⟩) (v := .int .i8 Hx) (by show w.heap.size + 1 ≠ w2_.heap.size; omega)) (p := ⟨w2_.heap.size, 1, none⟩) (v := .int .i8 Wx) (by show w.heap.size + 1 ≠ w2_.heap.size; omega))
              have kT2 := Lib.hid (kSet (kSet hT_ (p := ⟨w2_.heap.size, 0, none⟩) (show w.heap.size ≤ w2_.heap.size by omega) (.int .i8 Hx)) (p := ⟨w2_.heap.size, 1, none⟩) (show w.heap.size ≤ w2_.heap.size by omega) (.int .i8 Wx))
              have fz : ∀ j, wr.frozen? ⟨w2_.heap.size, j, none⟩ = false := fun j => frozen_of_row wr _ j _ _ hx_.out
              clear h1 ho8 ho_ hr_ hx_ hT_ e0 hne
              go_wp2
              exact ⟨⟨j2, Hx, Wx, L.map (qt Hx), by have := Hj2.out; omega, by have := Hj2.out; congr 1; omega, HK2, HF2, kr2, h2, ho9, kT2.out⟩, by simp [intOf]; omega⟩
        · skip
          obtain rfl : j = 0 := by omega
          have e0 := hk_.out
          simp only [turnK, Prod.mk.injEq] at e0
          obtain ⟨rfl, rfl, rfl⟩ := e0
          have hs3 := Lib.hid (show SlW g wo.heap.size wo L (.slice (some ⟨g, 0, none⟩) n cp) by have e1 := hf_.out.2; have h := OwnAt.slw ho_.out (lo := g) (cap := cp) (Nat.le_refl _) (by omega); rw [e1] at h; exact h)
          clear hk_ hf_
          have rs_ := hr_.out
          go_wp2_with (refine wpList_store_row rfl 30 _ _ rfl (w.heap.size + 1) #[.int .i8 Wx, .int .i8 Hx, .slice (some ⟨g, 0, none⟩) n cp] rfl rfl 30 _ rs_ (by kernel_rfl) (by kernel_rfl) (by kernel_rfl) ?_)
          refine bodyPost_ret (v := .tuple #[.agg #[.int .i8 Wx, .int .i8 Hx, .slice (some ⟨g, 0, none⟩) n cp], .int .i64 0]) (results_cell_tmp rfl _ _ (w.heap.size + 1) 30 #[.int .i8 Wx, .int .i8 Hx, .slice (some ⟨g, 0, none⟩) n cp] (0, 0) _ _ rfl rfl (setRow_heap _ _ _ _ _ _ rs_) Try.underlying30 rfl (by kernel_rfl)) rfl ?_
          exact ⟨_, rfl, (hs3.out.row (by omega)).mono (by omega) (by simp [World.setRow]), kRowW hT_ (by omega) _⟩
    · skip
      go_wp2_with fail
      refine (l00In_no e (-100) 100 _ (by omega)).mono ?_
      rintro e w' ⟨rfl, rfl⟩
      obtain ⟨rfl, rfl, rfl, rfl⟩ := four_inj (show (0, 0, [], 2) = (Wr, Hr, lr, C) from (hQ.symm.trans (by unfold turnQ; rw [if_pos rfl, if_neg g1]) : (Wr, Hr, lr, C) = (0, 0, [], 2)).symm)
      clear hQ
      have rs_ := r_1_.out
      go_wp2_with (refine wpList_store_row rfl 30 _ _ rfl (w.heap.size + 1) #[.int .i8 0, .int .i8 0, .slice none 0 0] rfl rfl 30 _ rs_ (by kernel_rfl) (by kernel_rfl) (by kernel_rfl) ?_)
      refine bodyPost_ret (v := .tuple #[.agg #[.int .i8 0, .int .i8 0, .slice none 0 0], .int .i64 2]) (results_cell_tmp rfl _ _ (w.heap.size + 1) 30 #[.int .i8 0, .int .i8 0, .slice none 0 0] (0, 0) _ _ rfl rfl (setRow_heap _ _ _ _ _ _ rs_) Try.underlying30 rfl (by kernel_rfl)) rfl ?_
      exact ⟨_, rfl, .empty none 0 rfl, kRowW T1_ (by omega) _⟩
end Go.Proofs.Ythancdlkkfegnaa
