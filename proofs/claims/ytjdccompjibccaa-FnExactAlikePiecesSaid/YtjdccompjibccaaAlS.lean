/- AlikePieces: the model. -/
import Derived.Test.YtjdccompjibccaaAlA
namespace Go.Proofs.Ytjdccompjibccaa
open Go.ChangeShapes Go.WideShapes Go.ChangeAt Go.RowKit
set_option linter.unusedVariables false

theorem pair_bi {a c : Bool} {b d : Int} (h : (a, b) = (c, d)) : a = c ∧ b = d := by
  injection h with h1 h2; exact ⟨h1, h2⟩
theorem PcAt.of_blk {w : World} {b : Nat} {p : Pc} {t : TypeId} (h : w.heap[b]? = some (.cells #[.int .i8 p.x, .int .i8 p.y, .int .i8 p.kind, .int .i8 p.turn, .int .i8 p.delay] t (0, 0))) : PcAt w b 0 p :=
  ⟨cell_of_row w b 0 _ _ _ h, cell_of_row w b 1 _ _ _ h, cell_of_row w b 2 _ _ _ h, cell_of_row w b 3 _ _ _ h, cell_of_row w b 4 _ _ _ h⟩
theorem Pc.ok_kt {p : Pc} (h : p.ok = true) : (0 ≤ p.kind ∧ p.kind ≤ 5) ∧ (0 ≤ p.turn ∧ p.turn ≤ 3) := by
  have := of_decide_eq_true h
  omega
set_option maxRecDepth 100000 in
set_option maxHeartbeats 4000000 in
theorem specAlike_any (p q : Pc) (w : World) (hp : p.in8) (hq : q.in8) (R : Bool) (C : Int) (hQ : alikeQ p q = (R, C)) :
    Calls Try.prog 4 #[.agg #[.int .i8 p.x, .int .i8 p.y, .int .i8 p.kind, .int .i8 p.turn, .int .i8 p.delay], .agg #[.int .i8 q.x, .int .i8 q.y, .int .i8 q.kind, .int .i8 q.turn, .int .i8 q.delay]] w fun e w' => e = .returned (.tuple #[.bool R, .int .i64 C]) ∧ Below w.heap.size w w' := by
  cases g1 : p.ok with
  | false =>
    obtain ⟨rfl, rfl⟩ := pair_bi (show (false, 1) = (R, C) from ((by unfold alikeQ; rw [if_neg (by simp [g1])]) : alikeQ p q = (false, 1)).symm.trans hQ)
    clear hQ
    have G1 := Lib.hid g1
    clear g1
    go_enter Try.func4, Try.ntmps4
    go_wp2_with fail
    refine (l01Piece_any p _ 0 _ hp (PcAt.of_blk ((Below.heap_alloc _ (.cells #[.int .i8 q.x, .int .i8 q.y, .int .i8 q.kind, .int .i8 q.turn, .int .i8 q.delay] 30) _ (by simp; try omega)).trans (heap_alloc_new w (.cells #[.int .i8 p.x, .int .i8 p.y, .int .i8 p.kind, .int .i8 p.turn, .int .i8 p.delay] 30)))) false G1.out.symm).mono ?_
    rintro e w1_ ⟨rfl, b1_⟩
    have B1_ : Below w.heap.size w w1_ := kTrans (kAlloc (kAlloc (Below.refl _ _) _) _) b1_
    have n1_ : w.heap.size + 2 ≤ w1_.heap.size := by have := b1_.size; simpa using this
    have T1_ : Below w.heap.size w w1_ := B1_
    have p_1_ := Lib.hid (show w1_.heap[w.heap.size]? = some (.cells #[.int .i8 p.x, .int .i8 p.y, .int .i8 p.kind, .int .i8 p.turn, .int .i8 p.delay] 30 (0, 0)) from blk_below ((Below.heap_alloc _ (.cells #[.int .i8 q.x, .int .i8 q.y, .int .i8 q.kind, .int .i8 q.turn, .int .i8 q.delay] 30) _ (by simp; try omega)).trans (heap_alloc_new w (.cells #[.int .i8 p.x, .int .i8 p.y, .int .i8 p.kind, .int .i8 p.turn, .int .i8 p.delay] 30))) b1_)
    have q_1_ := Lib.hid (show w1_.heap[w.heap.size + 1]? = some (.cells #[.int .i8 q.x, .int .i8 q.y, .int .i8 q.kind, .int .i8 q.turn, .int .i8 q.delay] 30 (0, 0)) from blk_below (show ((w.alloc (.cells #[.int .i8 p.x, .int .i8 p.y, .int .i8 p.kind, .int .i8 p.turn, .int .i8 p.delay] 30)).alloc (.cells #[.int .i8 q.x, .int .i8 q.y, .int .i8 q.kind, .int .i8 q.turn, .int .i8 q.delay] 30)).heap[w.heap.size + 1]? = some _ from by have h := heap_alloc_new (w.alloc (.cells #[.int .i8 p.x, .int .i8 p.y, .int .i8 p.kind, .int .i8 p.turn, .int .i8 p.delay] 30)) (.cells #[.int .i8 q.x, .int .i8 q.y, .int .i8 q.kind, .int .i8 q.turn, .int .i8 q.delay] 30); simpa only [World.size_alloc] using h) b1_)
    clear b1_ B1_
    go_wp2
    go_ret2
    exact ⟨rfl, T1_⟩
  | true =>
    have G1 := Lib.hid g1
    clear g1
    cases g2 : q.ok with
    | false =>
      obtain ⟨rfl, rfl⟩ := pair_bi (show (false, 1) = (R, C) from ((by unfold alikeQ; rw [if_neg (by simp [g2])]) : alikeQ p q = (false, 1)).symm.trans hQ)
      clear hQ
      have G2 := Lib.hid g2
      clear g2
      go_enter Try.func4, Try.ntmps4
      go_wp2_with fail
      refine (l01Piece_any p _ 0 _ hp (PcAt.of_blk ((Below.heap_alloc _ (.cells #[.int .i8 q.x, .int .i8 q.y, .int .i8 q.kind, .int .i8 q.turn, .int .i8 q.delay] 30) _ (by simp; try omega)).trans (heap_alloc_new w (.cells #[.int .i8 p.x, .int .i8 p.y, .int .i8 p.kind, .int .i8 p.turn, .int .i8 p.delay] 30)))) true G1.out.symm).mono ?_
      rintro e w1_ ⟨rfl, b1_⟩
      have B1_ : Below w.heap.size w w1_ := kTrans (kAlloc (kAlloc (Below.refl _ _) _) _) b1_
      have n1_ : w.heap.size + 2 ≤ w1_.heap.size := by have := b1_.size; simpa using this
      have T1_ : Below w.heap.size w w1_ := B1_
      have p_1_ := Lib.hid (show w1_.heap[w.heap.size]? = some (.cells #[.int .i8 p.x, .int .i8 p.y, .int .i8 p.kind, .int .i8 p.turn, .int .i8 p.delay] 30 (0, 0)) from blk_below ((Below.heap_alloc _ (.cells #[.int .i8 q.x, .int .i8 q.y, .int .i8 q.kind, .int .i8 q.turn, .int .i8 q.delay] 30) _ (by simp; try omega)).trans (heap_alloc_new w (.cells #[.int .i8 p.x, .int .i8 p.y, .int .i8 p.kind, .int .i8 p.turn, .int .i8 p.delay] 30))) b1_)
      have q_1_ := Lib.hid (show w1_.heap[w.heap.size + 1]? = some (.cells #[.int .i8 q.x, .int .i8 q.y, .int .i8 q.kind, .int .i8 q.turn, .int .i8 q.delay] 30 (0, 0)) from blk_below (show ((w.alloc (.cells #[.int .i8 p.x, .int .i8 p.y, .int .i8 p.kind, .int .i8 p.turn, .int .i8 p.delay] 30)).alloc (.cells #[.int .i8 q.x, .int .i8 q.y, .int .i8 q.kind, .int .i8 q.turn, .int .i8 q.delay] 30)).heap[w.heap.size + 1]? = some _ from by have h := heap_alloc_new (w.alloc (.cells #[.int .i8 p.x, .int .i8 p.y, .int .i8 p.kind, .int .i8 p.turn, .int .i8 p.delay] 30)) (.cells #[.int .i8 q.x, .int .i8 q.y, .int .i8 q.kind, .int .i8 q.turn, .int .i8 q.delay] 30); simpa only [World.size_alloc] using h) b1_)
      clear b1_ B1_
      go_wp2_with fail
      refine (l01Piece_any q _ 0 _ hq (PcAt.of_blk q_1_.out) false G2.out.symm).mono ?_
      rintro e w2_ ⟨rfl, b2_⟩
      have n2_ : w1_.heap.size ≤ w2_.heap.size := b2_.size
      have T2_ : Below w.heap.size w w2_ := kTrans T1_ b2_
      have p_2_ := Lib.hid (blk_below p_1_.out b2_)
      have q_2_ := Lib.hid (blk_below q_1_.out b2_)
      clear p_1_ q_1_ b2_ T1_
      go_wp2
      go_ret2
      exact ⟨rfl, T2_⟩
    | true =>
      have G2 := Lib.hid g2
      clear g2
      obtain ⟨hk1, ht1⟩ := Pc.ok_kt G1.out
      obtain ⟨hk2, ht2⟩ := Pc.ok_kt G2.out
      go_enter Try.func4, Try.ntmps4
      go_wp2_with fail
      refine (l01Piece_any p _ 0 _ hp (PcAt.of_blk ((Below.heap_alloc _ (.cells #[.int .i8 q.x, .int .i8 q.y, .int .i8 q.kind, .int .i8 q.turn, .int .i8 q.delay] 30) _ (by simp; try omega)).trans (heap_alloc_new w (.cells #[.int .i8 p.x, .int .i8 p.y, .int .i8 p.kind, .int .i8 p.turn, .int .i8 p.delay] 30)))) true G1.out.symm).mono ?_
      rintro e w1_ ⟨rfl, b1_⟩
      have B1_ : Below w.heap.size w w1_ := kTrans (kAlloc (kAlloc (Below.refl _ _) _) _) b1_
      have n1_ : w.heap.size + 2 ≤ w1_.heap.size := by have := b1_.size; simpa using this
      have T1_ : Below w.heap.size w w1_ := B1_
      have p_1_ := Lib.hid (show w1_.heap[w.heap.size]? = some (.cells #[.int .i8 p.x, .int .i8 p.y, .int .i8 p.kind, .int .i8 p.turn, .int .i8 p.delay] 30 (0, 0)) from blk_below ((Below.heap_alloc _ (.cells #[.int .i8 q.x, .int .i8 q.y, .int .i8 q.kind, .int .i8 q.turn, .int .i8 q.delay] 30) _ (by simp; try omega)).trans (heap_alloc_new w (.cells #[.int .i8 p.x, .int .i8 p.y, .int .i8 p.kind, .int .i8 p.turn, .int .i8 p.delay] 30))) b1_)
      have q_1_ := Lib.hid (show w1_.heap[w.heap.size + 1]? = some (.cells #[.int .i8 q.x, .int .i8 q.y, .int .i8 q.kind, .int .i8 q.turn, .int .i8 q.delay] 30 (0, 0)) from blk_below (show ((w.alloc (.cells #[.int .i8 p.x, .int .i8 p.y, .int .i8 p.kind, .int .i8 p.turn, .int .i8 p.delay] 30)).alloc (.cells #[.int .i8 q.x, .int .i8 q.y, .int .i8 q.kind, .int .i8 q.turn, .int .i8 q.delay] 30)).heap[w.heap.size + 1]? = some _ from by have h := heap_alloc_new (w.alloc (.cells #[.int .i8 p.x, .int .i8 p.y, .int .i8 p.kind, .int .i8 p.turn, .int .i8 p.delay] 30)) (.cells #[.int .i8 q.x, .int .i8 q.y, .int .i8 q.kind, .int .i8 q.turn, .int .i8 q.delay] 30); simpa only [World.size_alloc] using h) b1_)
      clear b1_ B1_
      go_wp2_with fail
      refine (l01Piece_any q _ 0 _ hq (PcAt.of_blk q_1_.out) true G2.out.symm).mono ?_
      rintro e w2_ ⟨rfl, b2_⟩
      have n2_ : w1_.heap.size ≤ w2_.heap.size := b2_.size
      have T2_ : Below w.heap.size w w2_ := kTrans T1_ b2_
      have p_2_ := Lib.hid (blk_below p_1_.out b2_)
      have q_2_ := Lib.hid (blk_below q_1_.out b2_)
      clear p_1_ q_1_ b2_ T1_
      have HA : Hid (∀ j : Nat, j < 0 → rxB p.kind p.turn j = rxB q.kind q.turn j) := Lib.hid (fun j h => absurd h (by omega))
      have HQ := Lib.hid hQ
      clear hQ
      go_wp2
      go_loopw [6] (fun i wr => ∃ k : Nat, k ≤ 4 ∧ i = .int .i64 k ∧ Hid (∀ j : Nat, j < k → rxB p.kind p.turn j = rxB q.kind q.turn j) ∧ Hid (wr.heap[w.heap.size]? = some (.cells #[.int .i8 p.x, .int .i8 p.y, .int .i8 p.kind, .int .i8 p.turn, .int .i8 p.delay] 30 (0, 0))) ∧ Hid (wr.heap[w.heap.size + 1]? = some (.cells #[.int .i8 q.x, .int .i8 q.y, .int .i8 q.kind, .int .i8 q.turn, .int .i8 q.delay] 30 (0, 0))) ∧ Below w.heap.size w wr) (fun i _ => 4 - (intOf i).toNat)
      case atStart => exact ⟨0, by omega, rfl, HA, p_2_, q_2_, T2_⟩
      case round =>
        obtain ⟨k, hk, rfl, hf_, p_r, q_r, T_r⟩ := hrel
        clear p_2_ q_2_ T2_
        have nr_ := T_r.size
        have lr_p := blk_lt p_r.out
        have lr_q := blk_lt q_r.out
        clear HA
        by_cases hlt : k < 4
        · skip
          obtain ⟨u, hu⟩ : ∃ u, rxB p.kind p.turn k = u := ⟨_, rfl⟩
          obtain ⟨v, hv⟩ : ∃ v, rxB q.kind q.turn k = v := ⟨_, rfl⟩
          have H1 := Lib.hid (fun W (h : PcAt W w.heap.size 0 p) (hl : w.heap.size < W.heap.size) => l01Hits_any p w.heap.size 0 k W hk1 ht1 (by omega) h hl)
          have H2 := Lib.hid (fun W (h : PcAt W (w.heap.size + 1) 0 q) (hl : w.heap.size + 1 < W.heap.size) => l01Hits_any q (w.heap.size + 1) 0 k W hk2 ht2 (by omega) h hl)
          rw [hu] at H1
          rw [hv] at H2
          have Hu := Lib.hid hu
          have Hv := Lib.hid hv
          clear hu hv
          go_wp2_with fail
          refine (H1.out _ (PcAt.of_blk p_r.out) (blk_lt p_r.out)).mono ?_
          rintro e w3_ ⟨rfl, b3_⟩
          have n3_ : wr.heap.size ≤ w3_.heap.size := b3_.size
          have T3_ : Below w.heap.size w w3_ := kTrans T_r b3_
          have p_3_ := Lib.hid (blk_below p_r.out b3_)
          have q_3_ := Lib.hid (blk_below q_r.out b3_)
          clear p_r q_r b3_ T_r
          go_wp2_with fail
          refine (H2.out _ (PcAt.of_blk q_3_.out) (blk_lt q_3_.out)).mono ?_
          rintro e w4_ ⟨rfl, b4_⟩
          have n4_ : w3_.heap.size ≤ w4_.heap.size := b4_.size
          have T4_ : Below w.heap.size w w4_ := kTrans T3_ b4_
          have p_4_ := Lib.hid (blk_below p_3_.out b4_)
          have q_4_ := Lib.hid (blk_below q_3_.out b4_)
          clear p_3_ q_3_ b4_ T3_
          by_cases he : u = v
          · skip
            have hf2 : Hid (∀ j : Nat, j < k + 1 → rxB p.kind p.turn j = rxB q.kind q.turn j) := Lib.hid (fun j hj => by
              by_cases e : j = k
              · rw [e, Hu.out, Hv.out, he]
              · exact hf_.out j (by omega))
            subst he
            clear hf_ H1 H2 Hu Hv
            go_wp2
            exact ⟨⟨k + 1, by omega, by go_num, hf2, p_4_, q_4_, T4_⟩, by simp [intOf]; omega⟩
          · skip
            have e1 : (u == v) = false := by simpa using he
            have e2 : decide (u = v) = false := by simpa using he
            have e3 : does p ≠ does q := by
              intro e
              have h4 := (does_iff p q).1 e
              have h5 : k = 0 ∨ k = 1 ∨ k = 2 ∨ k = 3 := by omega
              have h6 : rxB p.kind p.turn k = rxB q.kind q.turn k := by
                rcases h5 with rfl | rfl | rfl | rfl
                · exact h4.1
                · exact h4.2.1
                · exact h4.2.2.1
                · exact h4.2.2.2
              rw [Hu.out, Hv.out] at h6
              exact he h6
            obtain ⟨rfl, rfl⟩ := pair_bi (show (false, (0 : Int)) = (R, C) from ((by unfold alikeQ; rw [if_pos ⟨G1.out, G2.out⟩, show sameB (does p) (does q) = false from decide_eq_false e3]; rfl) : alikeQ p q = (false, 0)).symm.trans HQ.out)
            clear e3 hf_ H1 H2 Hu Hv HQ
            go_wp2
            go_ret2
            exact ⟨rfl, T4_⟩
        · skip
          obtain rfl : k = 4 := by omega
          have e3 : does p = does q := (does_iff p q).2 ⟨hf_.out 0 (by omega), hf_.out 1 (by omega), hf_.out 2 (by omega), hf_.out 3 (by omega)⟩
          have e4 : (R, C) = (decide (p.delay = q.delay), 0) := by rw [← HQ.out]; unfold alikeQ; rw [if_pos ⟨G1.out, G2.out⟩, show sameB (does p) (does q) = true from decide_eq_true e3]; rfl
          obtain ⟨rfl, rfl⟩ := pair_bi e4
          clear e3 e4 hf_ HQ
          have cp_0 : wr.cell? ⟨w.heap.size, 0, none⟩ = some (.int .i8 p.x) := cell_of_row _ _ 0 _ _ _ p_r.out
          have cp_1 : wr.cell? ⟨w.heap.size, 1, none⟩ = some (.int .i8 p.y) := cell_of_row _ _ 1 _ _ _ p_r.out
          have cp_2 : wr.cell? ⟨w.heap.size, 2, none⟩ = some (.int .i8 p.kind) := cell_of_row _ _ 2 _ _ _ p_r.out
          have cp_3 : wr.cell? ⟨w.heap.size, 3, none⟩ = some (.int .i8 p.turn) := cell_of_row _ _ 3 _ _ _ p_r.out
          have cp_4 : wr.cell? ⟨w.heap.size, 4, none⟩ = some (.int .i8 p.delay) := cell_of_row _ _ 4 _ _ _ p_r.out
          have cq_0 : wr.cell? ⟨w.heap.size + 1, 0, none⟩ = some (.int .i8 q.x) := cell_of_row _ _ 0 _ _ _ q_r.out
          have cq_1 : wr.cell? ⟨w.heap.size + 1, 1, none⟩ = some (.int .i8 q.y) := cell_of_row _ _ 1 _ _ _ q_r.out
          have cq_2 : wr.cell? ⟨w.heap.size + 1, 2, none⟩ = some (.int .i8 q.kind) := cell_of_row _ _ 2 _ _ _ q_r.out
          have cq_3 : wr.cell? ⟨w.heap.size + 1, 3, none⟩ = some (.int .i8 q.turn) := cell_of_row _ _ 3 _ _ _ q_r.out
          have cq_4 : wr.cell? ⟨w.heap.size + 1, 4, none⟩ = some (.int .i8 q.delay) := cell_of_row _ _ 4 _ _ _ q_r.out
          by_cases he : p.delay = q.delay
          · skip
            have e1 : (p.delay == q.delay) = true := by simpa using he
            have e2 : decide (p.delay = q.delay) = true := by simpa using he
            go_wp2
            go_ret2
            exact ⟨by first | rfl | simp [e2], T_r⟩
          · skip
            have e1 : (p.delay == q.delay) = false := by simpa using he
            have e2 : decide (p.delay = q.delay) = false := by simpa using he
            go_wp2
            go_ret2
            exact ⟨by first | rfl | simp [e2], T_r⟩
end Go.Proofs.Ytjdccompjibccaa
