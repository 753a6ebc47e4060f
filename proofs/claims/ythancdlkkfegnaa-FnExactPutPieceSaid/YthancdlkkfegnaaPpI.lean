/- PutPiece: the program. -/
import Derived.Test.YthancdlkkfegnaaPp
import Derived.Test.YthancdlkkfegnaaWk
import Derived.Test.YthancdlkkfegnaaMvA
import Derived.Deep.DeepCutAuto
namespace Go.Proofs.Ythancdlkkfegnaa
open Go.ChangeShapes Go.WideShapes Go.ChangeAt Go.RowKit
set_option linter.unusedVariables false

set_option maxRecDepth 100000 in
set_option maxHeartbeats 8000000 in
theorem implPutPiece_any (b n cap : Nat) (wd hi : Int) (l : List Pc) (p : Pc) (w : World) (hn : l.length = n) (hp : PcsAt w b 0 l) (hb : b < w.heap.size) (hc : n ≤ cap) (h8 : All8 l) (hp8 : p.in8) (hw8 : i8 wd) (hh8 : i8 hi) (hmax : n ≤ 1048576) (R : Bool) (hR : R = boardOk wd hi l) (Wr Hr : Int) (lr : List Pc) (C : Int) (hQ : putQ R wd hi l p = (Wr, Hr, lr, C)) :
    Calls Try.prog 29 #[.agg #[.int .i8 wd, .int .i8 hi, .slice (some ⟨b, 0, none⟩) n cap], .agg #[.int .i8 p.x, .int .i8 p.y, .int .i8 p.kind, .int .i8 p.turn, .int .i8 p.delay]] w (BoardPost Wr Hr lr C w) := by
  have Hn := Lib.hid hn
  have HR := Lib.hid hR
  have hP := Lib.hid hp
  clear hn hR hp
  have bE : Below w.heap.size w (((w.alloc (.cells #[.int .i8 wd, .int .i8 hi, .slice (some ⟨b, 0, none⟩) n cap] 30)).alloc (.cells #[.int .i8 p.x, .int .i8 p.y, .int .i8 p.kind, .int .i8 p.turn, .int .i8 p.delay] 46)).alloc (.cells #[.int .i8 0, .int .i8 0, .slice none 0 0] 30)) := (kAlloc (kAlloc (kAlloc (Below.refl _ _) _) _) _)
  have HL := Lib.hid (layoutOf_any b 0 n cap wd hi l _ Hn.out (hP.out.below bE (by omega)) (by simp only [World.size_alloc]; omega) hc h8 hmax R HR.out)
  go_enter Try.func29, Try.ntmps29
  go_wp2_with fail
  refine HL.out.mono ?_
  clear HL
  cases R with
  | false =>
    rintro e w1_ ⟨_, h1_, b1_⟩
    obtain rfl := h1_ rfl
    clear h1_
    have B1_ : Below w.heap.size w w1_ := kTrans (kAlloc (kAlloc (kAlloc (Below.refl _ _) _) _) _) b1_
    have n1_ : w.heap.size + 3 ≤ w1_.heap.size := by have := b1_.size; simpa using this
    have T1_ : Below w.heap.size w w1_ := B1_
    have p_1_ := Lib.hid (hP.out.below B1_ (by omega))
    have b_1_ := Lib.hid (show w1_.heap[w.heap.size]? = some (.cells #[.int .i8 wd, .int .i8 hi, .slice (some ⟨b, 0, none⟩) n cap] 30 (0, 0)) from blk_below ((Below.heap_alloc _ (.cells #[.int .i8 0, .int .i8 0, .slice none 0 0] 30) _ (by simp; try omega)).trans ((Below.heap_alloc _ (.cells #[.int .i8 p.x, .int .i8 p.y, .int .i8 p.kind, .int .i8 p.turn, .int .i8 p.delay] 46) _ (by simp; try omega)).trans (heap_alloc_new w (.cells #[.int .i8 wd, .int .i8 hi, .slice (some ⟨b, 0, none⟩) n cap] 30)))) b1_)
    have q_1_ := Lib.hid (show w1_.heap[w.heap.size + 1]? = some (.cells #[.int .i8 p.x, .int .i8 p.y, .int .i8 p.kind, .int .i8 p.turn, .int .i8 p.delay] 46 (0, 0)) from blk_below ((Below.heap_alloc _ (.cells #[.int .i8 0, .int .i8 0, .slice none 0 0] 30) _ (by simp; try omega)).trans (show ((w.alloc (.cells #[.int .i8 wd, .int .i8 hi, .slice (some ⟨b, 0, none⟩) n cap] 30)).alloc (.cells #[.int .i8 p.x, .int .i8 p.y, .int .i8 p.kind, .int .i8 p.turn, .int .i8 p.delay] 46)).heap[w.heap.size + 1]? = some _ from by have h := heap_alloc_new (w.alloc (.cells #[.int .i8 wd, .int .i8 hi, .slice (some ⟨b, 0, none⟩) n cap] 30)) (.cells #[.int .i8 p.x, .int .i8 p.y, .int .i8 p.kind, .int .i8 p.turn, .int .i8 p.delay] 46); simpa only [World.size_alloc] using h)) b1_)
    have r_1_ := Lib.hid (show w1_.heap[w.heap.size + 1 + 1]? = some (.cells #[.int .i8 0, .int .i8 0, .slice none 0 0] 30 (0, 0)) from blk_below (show (((w.alloc (.cells #[.int .i8 wd, .int .i8 hi, .slice (some ⟨b, 0, none⟩) n cap] 30)).alloc (.cells #[.int .i8 p.x, .int .i8 p.y, .int .i8 p.kind, .int .i8 p.turn, .int .i8 p.delay] 46)).alloc (.cells #[.int .i8 0, .int .i8 0, .slice none 0 0] 30)).heap[w.heap.size + 1 + 1]? = some _ from by have h := heap_alloc_new ((w.alloc (.cells #[.int .i8 wd, .int .i8 hi, .slice (some ⟨b, 0, none⟩) n cap] 30)).alloc (.cells #[.int .i8 p.x, .int .i8 p.y, .int .i8 p.kind, .int .i8 p.turn, .int .i8 p.delay] 46)) (.cells #[.int .i8 0, .int .i8 0, .slice none 0 0] 30); simpa only [World.size_alloc] using h) b1_)
    clear bE hP b1_ B1_
    obtain ⟨rfl, rfl, rfl, rfl⟩ := four_inj (show (0, 0, [], 1) = (Wr, Hr, lr, C) from (hQ.symm.trans (by unfold putQ; rw [if_neg (by simp)]) : (Wr, Hr, lr, C) = (0, 0, [], 1)).symm)
    clear hQ
    have bE : Below w1_.heap.size w1_ (w1_.alloc (.cells #[.int .i8 0, .int .i8 0, .map none] 94)) := (kAlloc (Below.refl _ _) _)
    have rs_ := (blk_below r_1_.out bE)
    go_wp2_with (refine wpList_store_row rfl 30 _ _ rfl (w.heap.size + 1 + 1) #[.int .i8 0, .int .i8 0, .slice none 0 0] rfl rfl 30 _ rs_ (by kernel_rfl) (by kernel_rfl) (by kernel_rfl) ?_)
    refine bodyPost_ret (v := .tuple #[.agg #[.int .i8 0, .int .i8 0, .slice none 0 0], .int .i64 1]) (results_cell_tmp rfl _ _ (w.heap.size + 1 + 1) 30 #[.int .i8 0, .int .i8 0, .slice none 0 0] (0, 0) _ _ rfl rfl (setRow_heap _ _ _ _ _ _ rs_) Try.underlying30 rfl (by kernel_rfl)) rfl ?_
    exact ⟨_, rfl, .empty none 0 rfl, kRowW (kTrans T1_ bE) (by omega) _⟩
  | true =>
    rintro e w1_ ⟨h1_, _, b1_⟩
    obtain ⟨B, rfl, hm_⟩ := h1_ rfl
    have hm1 := Lib.hid hm_
    clear h1_ hm_
    have B1_ : Below w.heap.size w w1_ := kTrans (kAlloc (kAlloc (kAlloc (Below.refl _ _) _) _) _) b1_
    have n1_ : w.heap.size + 3 ≤ w1_.heap.size := by have := b1_.size; simpa using this
    have T1_ : Below w.heap.size w w1_ := B1_
    have p_1_ := Lib.hid (hP.out.below B1_ (by omega))
    have b_1_ := Lib.hid (show w1_.heap[w.heap.size]? = some (.cells #[.int .i8 wd, .int .i8 hi, .slice (some ⟨b, 0, none⟩) n cap] 30 (0, 0)) from blk_below ((Below.heap_alloc _ (.cells #[.int .i8 0, .int .i8 0, .slice none 0 0] 30) _ (by simp; try omega)).trans ((Below.heap_alloc _ (.cells #[.int .i8 p.x, .int .i8 p.y, .int .i8 p.kind, .int .i8 p.turn, .int .i8 p.delay] 46) _ (by simp; try omega)).trans (heap_alloc_new w (.cells #[.int .i8 wd, .int .i8 hi, .slice (some ⟨b, 0, none⟩) n cap] 30)))) b1_)
    have q_1_ := Lib.hid (show w1_.heap[w.heap.size + 1]? = some (.cells #[.int .i8 p.x, .int .i8 p.y, .int .i8 p.kind, .int .i8 p.turn, .int .i8 p.delay] 46 (0, 0)) from blk_below ((Below.heap_alloc _ (.cells #[.int .i8 0, .int .i8 0, .slice none 0 0] 30) _ (by simp; try omega)).trans (show ((w.alloc (.cells #[.int .i8 wd, .int .i8 hi, .slice (some ⟨b, 0, none⟩) n cap] 30)).alloc (.cells #[.int .i8 p.x, .int .i8 p.y, .int .i8 p.kind, .int .i8 p.turn, .int .i8 p.delay] 46)).heap[w.heap.size + 1]? = some _ from by have h := heap_alloc_new (w.alloc (.cells #[.int .i8 wd, .int .i8 hi, .slice (some ⟨b, 0, none⟩) n cap] 30)) (.cells #[.int .i8 p.x, .int .i8 p.y, .int .i8 p.kind, .int .i8 p.turn, .int .i8 p.delay] 46); simpa only [World.size_alloc] using h)) b1_)
    have r_1_ := Lib.hid (show w1_.heap[w.heap.size + 1 + 1]? = some (.cells #[.int .i8 0, .int .i8 0, .slice none 0 0] 30 (0, 0)) from blk_below (show (((w.alloc (.cells #[.int .i8 wd, .int .i8 hi, .slice (some ⟨b, 0, none⟩) n cap] 30)).alloc (.cells #[.int .i8 p.x, .int .i8 p.y, .int .i8 p.kind, .int .i8 p.turn, .int .i8 p.delay] 46)).alloc (.cells #[.int .i8 0, .int .i8 0, .slice none 0 0] 30)).heap[w.heap.size + 1 + 1]? = some _ from by have h := heap_alloc_new ((w.alloc (.cells #[.int .i8 wd, .int .i8 hi, .slice (some ⟨b, 0, none⟩) n cap] 30)).alloc (.cells #[.int .i8 p.x, .int .i8 p.y, .int .i8 p.kind, .int .i8 p.turn, .int .i8 p.delay] 46)) (.cells #[.int .i8 0, .int .i8 0, .slice none 0 0] 30); simpa only [World.size_alloc] using h) b1_)
    clear bE hP b1_ B1_
    cases g1 : p.ok with
    | false =>
      have G1 := Lib.hid g1
      clear g1
      have bE : Below w1_.heap.size w1_ (w1_.alloc (.cells #[.int .i8 wd, .int .i8 hi, .map (some B)] 94)) := (kAlloc (Below.refl _ _) _)
      have cq_0 : (w1_.alloc (.cells #[.int .i8 wd, .int .i8 hi, .map (some B)] 94)).cell? ⟨w.heap.size + 1, 0, none⟩ = some (.int .i8 p.x) := cell_of_row _ _ 0 _ _ _ (blk_below q_1_.out bE)
      have cq_1 : (w1_.alloc (.cells #[.int .i8 wd, .int .i8 hi, .map (some B)] 94)).cell? ⟨w.heap.size + 1, 1, none⟩ = some (.int .i8 p.y) := cell_of_row _ _ 1 _ _ _ (blk_below q_1_.out bE)
      have cq_2 : (w1_.alloc (.cells #[.int .i8 wd, .int .i8 hi, .map (some B)] 94)).cell? ⟨w.heap.size + 1, 2, none⟩ = some (.int .i8 p.kind) := cell_of_row _ _ 2 _ _ _ (blk_below q_1_.out bE)
      have cq_3 : (w1_.alloc (.cells #[.int .i8 wd, .int .i8 hi, .map (some B)] 94)).cell? ⟨w.heap.size + 1, 3, none⟩ = some (.int .i8 p.turn) := cell_of_row _ _ 3 _ _ _ (blk_below q_1_.out bE)
      have cq_4 : (w1_.alloc (.cells #[.int .i8 wd, .int .i8 hi, .map (some B)] 94)).cell? ⟨w.heap.size + 1, 4, none⟩ = some (.int .i8 p.delay) := cell_of_row _ _ 4 _ _ _ (blk_below q_1_.out bE)
      go_wp2_with fail
      refine (implValidPiece_any p _ hp8 false G1.out.symm).mono ?_
      rintro e w2_ ⟨rfl, b2_⟩
      have B2_ : Below w1_.heap.size w1_ w2_ := kTrans (kAlloc (Below.refl _ _) _) b2_
      have n2_ : w1_.heap.size + 1 ≤ w2_.heap.size := by have := b2_.size; simpa using this
      have T2_ : Below w.heap.size w w2_ := kTrans T1_ B2_
      have p_2_ := Lib.hid (p_1_.out.below B2_ (by omega))
      have b_2_ := Lib.hid (blk_below b_1_.out B2_)
      have q_2_ := Lib.hid (blk_below q_1_.out B2_)
      have r_2_ := Lib.hid (blk_below r_1_.out B2_)
      have m_2_ := Lib.hid (hm1.out.below B2_)
      have y_2_ := Lib.hid (show w2_.heap[w1_.heap.size]? = some (.cells #[.int .i8 wd, .int .i8 hi, .map (some B)] 94 (0, 0)) from blk_below (heap_alloc_new w1_ (.cells #[.int .i8 wd, .int .i8 hi, .map (some B)] 94)) b2_)
      clear bE cq_0 cq_1 cq_2 cq_3 cq_4 p_1_ b_1_ q_1_ r_1_ hm1 b2_ B2_ T1_
      obtain ⟨rfl, rfl, rfl, rfl⟩ := four_inj (show (0, 0, [], 1) = (Wr, Hr, lr, C) from (hQ.symm.trans (by unfold putQ; rw [if_neg (by simp [G1.out])]) : (Wr, Hr, lr, C) = (0, 0, [], 1)).symm)
      clear hQ
      have rs_ := r_2_.out
      go_wp2_with (refine wpList_store_row rfl 30 _ _ rfl (w.heap.size + 1 + 1) #[.int .i8 0, .int .i8 0, .slice none 0 0] rfl rfl 30 _ rs_ (by kernel_rfl) (by kernel_rfl) (by kernel_rfl) ?_)
      refine bodyPost_ret (v := .tuple #[.agg #[.int .i8 0, .int .i8 0, .slice none 0 0], .int .i64 1]) (results_cell_tmp rfl _ _ (w.heap.size + 1 + 1) 30 #[.int .i8 0, .int .i8 0, .slice none 0 0] (0, 0) _ _ rfl rfl (setRow_heap _ _ _ _ _ _ rs_) Try.underlying30 rfl (by kernel_rfl)) rfl ?_
      exact ⟨_, rfl, .empty none 0 rfl, kRowW T2_ (by omega) _⟩
    | true =>
      have G1 := Lib.hid g1
      clear g1
      have bE : Below w1_.heap.size w1_ (w1_.alloc (.cells #[.int .i8 wd, .int .i8 hi, .map (some B)] 94)) := (kAlloc (Below.refl _ _) _)
      have cq_0 : (w1_.alloc (.cells #[.int .i8 wd, .int .i8 hi, .map (some B)] 94)).cell? ⟨w.heap.size + 1, 0, none⟩ = some (.int .i8 p.x) := cell_of_row _ _ 0 _ _ _ (blk_below q_1_.out bE)
      have cq_1 : (w1_.alloc (.cells #[.int .i8 wd, .int .i8 hi, .map (some B)] 94)).cell? ⟨w.heap.size + 1, 1, none⟩ = some (.int .i8 p.y) := cell_of_row _ _ 1 _ _ _ (blk_below q_1_.out bE)
      have cq_2 : (w1_.alloc (.cells #[.int .i8 wd, .int .i8 hi, .map (some B)] 94)).cell? ⟨w.heap.size + 1, 2, none⟩ = some (.int .i8 p.kind) := cell_of_row _ _ 2 _ _ _ (blk_below q_1_.out bE)
      have cq_3 : (w1_.alloc (.cells #[.int .i8 wd, .int .i8 hi, .map (some B)] 94)).cell? ⟨w.heap.size + 1, 3, none⟩ = some (.int .i8 p.turn) := cell_of_row _ _ 3 _ _ _ (blk_below q_1_.out bE)
      have cq_4 : (w1_.alloc (.cells #[.int .i8 wd, .int .i8 hi, .map (some B)] 94)).cell? ⟨w.heap.size + 1, 4, none⟩ = some (.int .i8 p.delay) := cell_of_row _ _ 4 _ _ _ (blk_below q_1_.out bE)
      go_wp2_with fail
      refine (implValidPiece_any p _ hp8 true G1.out.symm).mono ?_
      rintro e w2_ ⟨rfl, b2_⟩
      have B2_ : Below w1_.heap.size w1_ w2_ := kTrans (kAlloc (Below.refl _ _) _) b2_
      have n2_ : w1_.heap.size + 1 ≤ w2_.heap.size := by have := b2_.size; simpa using this
      have T2_ : Below w.heap.size w w2_ := kTrans T1_ B2_
      have p_2_ := Lib.hid (p_1_.out.below B2_ (by omega))
      have b_2_ := Lib.hid (blk_below b_1_.out B2_)
      have q_2_ := Lib.hid (blk_below q_1_.out B2_)
      have r_2_ := Lib.hid (blk_below r_1_.out B2_)
      have m_2_ := Lib.hid (hm1.out.below B2_)
      have y_2_ := Lib.hid (show w2_.heap[w1_.heap.size]? = some (.cells #[.int .i8 wd, .int .i8 hi, .map (some B)] 94 (0, 0)) from blk_below (heap_alloc_new w1_ (.cells #[.int .i8 wd, .int .i8 hi, .map (some B)] 94)) b2_)
      clear bE cq_0 cq_1 cq_2 cq_3 cq_4 p_1_ b_1_ q_1_ r_1_ hm1 b2_ B2_ T1_
      by_cases g2 : 0 ≤ p.x ∧ p.x ≤ wd - 1 ∧ 0 ≤ p.y ∧ p.y ≤ hi - 1
      · skip
        have cq_0 : w2_.cell? ⟨w.heap.size + 1, 0, none⟩ = some (.int .i8 p.x) := cell_of_row _ _ 0 _ _ _ q_2_.out
        have cq_1 : w2_.cell? ⟨w.heap.size + 1, 1, none⟩ = some (.int .i8 p.y) := cell_of_row _ _ 1 _ _ _ q_2_.out
        have cq_2 : w2_.cell? ⟨w.heap.size + 1, 2, none⟩ = some (.int .i8 p.kind) := cell_of_row _ _ 2 _ _ _ q_2_.out
        have cq_3 : w2_.cell? ⟨w.heap.size + 1, 3, none⟩ = some (.int .i8 p.turn) := cell_of_row _ _ 3 _ _ _ q_2_.out
        have cq_4 : w2_.cell? ⟨w.heap.size + 1, 4, none⟩ = some (.int .i8 p.delay) := cell_of_row _ _ 4 _ _ _ q_2_.out
        have cy_0 : w2_.cell? ⟨w1_.heap.size, 0, none⟩ = some (.int .i8 wd) := cell_of_row _ _ 0 _ _ _ y_2_.out
        have cy_1 : w2_.cell? ⟨w1_.heap.size, 1, none⟩ = some (.int .i8 hi) := cell_of_row _ _ 1 _ _ _ y_2_.out
        have cy_2 : w2_.cell? ⟨w1_.heap.size, 2, none⟩ = some (.map (some B)) := cell_of_row _ _ 2 _ _ _ y_2_.out
        go_wp2_with fail
        refine (holds_any p.x p.y wd hi _ hp8.1 hp8.2.1 hw8 hh8 true (by simp; omega)).mono ?_
        rintro e w3_ ⟨rfl, b3_⟩
        have n3_ : w2_.heap.size ≤ w3_.heap.size := b3_.size
        have T3_ : Below w.heap.size w w3_ := kTrans T2_ b3_
        have p_3_ := Lib.hid (p_2_.out.below b3_ (by omega))
        have b_3_ := Lib.hid (blk_below b_2_.out b3_)
        have q_3_ := Lib.hid (blk_below q_2_.out b3_)
        have r_3_ := Lib.hid (blk_below r_2_.out b3_)
        have m_3_ := Lib.hid (m_2_.out.below b3_)
        have y_3_ := Lib.hid (blk_below y_2_.out b3_)
        clear cq_0 cq_1 cq_2 cq_3 cq_4 cy_0 cy_1 cy_2 p_2_ b_2_ q_2_ r_2_ m_2_ y_2_ b3_ T2_
        obtain ⟨f, hf⟩ : ∃ f, findFrom p.x p.y l 0 = f := ⟨_, rfl⟩
        have cq_0 : w3_.cell? ⟨w.heap.size + 1, 0, none⟩ = some (.int .i8 p.x) := cell_of_row _ _ 0 _ _ _ q_3_.out
        have cq_1 : w3_.cell? ⟨w.heap.size + 1, 1, none⟩ = some (.int .i8 p.y) := cell_of_row _ _ 1 _ _ _ q_3_.out
        have cq_2 : w3_.cell? ⟨w.heap.size + 1, 2, none⟩ = some (.int .i8 p.kind) := cell_of_row _ _ 2 _ _ _ q_3_.out
        have cq_3 : w3_.cell? ⟨w.heap.size + 1, 3, none⟩ = some (.int .i8 p.turn) := cell_of_row _ _ 3 _ _ _ q_3_.out
        have cq_4 : w3_.cell? ⟨w.heap.size + 1, 4, none⟩ = some (.int .i8 p.delay) := cell_of_row _ _ 4 _ _ _ q_3_.out
        have cy_0 : w3_.cell? ⟨w1_.heap.size, 0, none⟩ = some (.int .i8 wd) := cell_of_row _ _ 0 _ _ _ y_3_.out
        have cy_1 : w3_.cell? ⟨w1_.heap.size, 1, none⟩ = some (.int .i8 hi) := cell_of_row _ _ 1 _ _ _ y_3_.out
        have cy_2 : w3_.cell? ⟨w1_.heap.size, 2, none⟩ = some (.map (some B)) := cell_of_row _ _ 2 _ _ _ y_3_.out
        have hix := indexAt_any wd hi p.x p.y B l _ m_3_.out
        rw [hf] at hix
        have Hix := Lib.hid hix
        have Hf := Lib.hid hf
        clear hix hf
        go_wp2_with fail
        refine (Hix.out).mono ?_
        rintro e w4_ ⟨rfl, b4_⟩
        have n4_ : w3_.heap.size ≤ w4_.heap.size := b4_.size
        have T4_ : Below w.heap.size w w4_ := kTrans T3_ b4_
        have p_4_ := Lib.hid (p_3_.out.below b4_ (by omega))
        have b_4_ := Lib.hid (blk_below b_3_.out b4_)
        have q_4_ := Lib.hid (blk_below q_3_.out b4_)
        have r_4_ := Lib.hid (blk_below r_3_.out b4_)
        have m_4_ := Lib.hid (m_3_.out.below b4_)
        have y_4_ := Lib.hid (blk_below y_3_.out b4_)
        clear cq_0 cq_1 cq_2 cq_3 cq_4 cy_0 cy_1 cy_2 p_3_ b_3_ q_3_ r_3_ m_3_ y_3_ b4_ T3_
        clear Hix
        by_cases g3 : 0 ≤ f
        · skip
          obtain ⟨rfl, rfl, rfl, rfl⟩ := four_inj (show (0, 0, [], 4) = (Wr, Hr, lr, C) from (hQ.symm.trans (by unfold putQ; rw [if_pos ⟨rfl, G1.out⟩, if_pos g2, if_pos (by rw [Hf.out]; exact g3)]) : (Wr, Hr, lr, C) = (0, 0, [], 4)).symm)
          clear hQ
          have rs_ := r_4_.out
          go_wp2_with (refine wpList_store_row rfl 30 _ _ rfl (w.heap.size + 1 + 1) #[.int .i8 0, .int .i8 0, .slice none 0 0] rfl rfl 30 _ rs_ (by kernel_rfl) (by kernel_rfl) (by kernel_rfl) ?_)
          refine bodyPost_ret (v := .tuple #[.agg #[.int .i8 0, .int .i8 0, .slice none 0 0], .int .i64 4]) (results_cell_tmp rfl _ _ (w.heap.size + 1 + 1) 30 #[.int .i8 0, .int .i8 0, .slice none 0 0] (0, 0) _ _ rfl rfl (setRow_heap _ _ _ _ _ _ rs_) Try.underlying30 rfl (by kernel_rfl)) rfl ?_
          exact ⟨_, rfl, .empty none 0 rfl, kRowW T4_ (by omega) _⟩
        · skip
          by_cases g4 : 200 ≤ n
          · skip
            have h200 := boardOk_len HR.out.symm
            have g5 : l.length = 200 := by have := Hn.out; omega
            have e1 : decide ((200 : Int) ≤ (n : Int)) = true := by simp; omega
            obtain ⟨rfl, rfl, rfl, rfl⟩ := four_inj (show (0, 0, [], 3) = (Wr, Hr, lr, C) from (hQ.symm.trans (by unfold putQ; rw [if_pos ⟨rfl, G1.out⟩, if_pos g2, if_neg (by rw [Hf.out]; exact g3), if_pos g5]) : (Wr, Hr, lr, C) = (0, 0, [], 3)).symm)
            clear hQ
            clear g5 h200
            have cb_0 : w4_.cell? ⟨w.heap.size, 0, none⟩ = some (.int .i8 wd) := cell_of_row _ _ 0 _ _ _ b_4_.out
            have cb_1 : w4_.cell? ⟨w.heap.size, 1, none⟩ = some (.int .i8 hi) := cell_of_row _ _ 1 _ _ _ b_4_.out
            have cb_2 : w4_.cell? ⟨w.heap.size, 2, none⟩ = some (.slice (some ⟨b, 0, none⟩) n cap) := cell_of_row _ _ 2 _ _ _ b_4_.out
            have rs_ := r_4_.out
            go_wp2_with (refine wpList_store_row rfl 30 _ _ rfl (w.heap.size + 1 + 1) #[.int .i8 0, .int .i8 0, .slice none 0 0] rfl rfl 30 _ rs_ (by kernel_rfl) (by kernel_rfl) (by kernel_rfl) ?_)
            refine bodyPost_ret (v := .tuple #[.agg #[.int .i8 0, .int .i8 0, .slice none 0 0], .int .i64 3]) (results_cell_tmp rfl _ _ (w.heap.size + 1 + 1) 30 #[.int .i8 0, .int .i8 0, .slice none 0 0] (0, 0) _ _ rfl rfl (setRow_heap _ _ _ _ _ _ rs_) Try.underlying30 rfl (by kernel_rfl)) rfl ?_
            exact ⟨_, rfl, .empty none 0 rfl, kRowW T4_ (by omega) _⟩
          · skip
            have e1 : decide ((200 : Int) ≤ (n : Int)) = false := by simp; omega
            obtain ⟨rfl, rfl, rfl, rfl⟩ := four_inj (show (wd, hi, l ++ [p], 0) = (Wr, Hr, lr, C) from (hQ.symm.trans (by unfold putQ; rw [if_pos ⟨rfl, G1.out⟩, if_pos g2, if_neg (by rw [Hf.out]; exact g3), if_neg (by rw [Hn.out]; omega)]) : (Wr, Hr, lr, C) = (wd, hi, l ++ [p], 0)).symm)
            clear hQ
            have cb_0 : w4_.cell? ⟨w.heap.size, 0, none⟩ = some (.int .i8 wd) := cell_of_row _ _ 0 _ _ _ b_4_.out
            have cb_1 : w4_.cell? ⟨w.heap.size, 1, none⟩ = some (.int .i8 hi) := cell_of_row _ _ 1 _ _ _ b_4_.out
            have cb_2 : w4_.cell? ⟨w.heap.size, 2, none⟩ = some (.slice (some ⟨b, 0, none⟩) n cap) := cell_of_row _ _ 2 _ _ _ b_4_.out
            have cq_0 : w4_.cell? ⟨w.heap.size + 1, 0, none⟩ = some (.int .i8 p.x) := cell_of_row _ _ 0 _ _ _ q_4_.out
            have cq_1 : w4_.cell? ⟨w.heap.size + 1, 1, none⟩ = some (.int .i8 p.y) := cell_of_row _ _ 1 _ _ _ q_4_.out
            have cq_2 : w4_.cell? ⟨w.heap.size + 1, 2, none⟩ = some (.int .i8 p.kind) := cell_of_row _ _ 2 _ _ _ q_4_.out
            have cq_3 : w4_.cell? ⟨w.heap.size + 1, 3, none⟩ = some (.int .i8 p.turn) := cell_of_row _ _ 3 _ _ _ q_4_.out
            have cq_4 : w4_.cell? ⟨w.heap.size + 1, 4, none⟩ = some (.int .i8 p.delay) := cell_of_row _ _ 4 _ _ _ q_4_.out
            have lb_ := blk_lt b_4_.out
            have lq_ := blk_lt q_4_.out
            have lr_ := blk_lt r_4_.out
            have HC := Lib.hid (fun W (hW : Below w4_.heap.size w4_ W) => clone_nn b 0 n cap l W Hn.out (p_4_.out.below hW (by omega)) (by have := hW.size; omega) hmax)
            have RP := Lib.hid r_4_.out
            have TP := T4_
            clear p_4_ b_4_ q_4_ r_4_ m_4_ y_4_ HR Hf
            obtain ⟨i0, hi0, hz0, hzz1, hzz2⟩ := info_parts info_pc
            have Hi := Lib.hid hi0
            have Hz0 := Lib.hid hz0
            have Hz1 := Lib.hid hzz1
            have Hz2 := Lib.hid hzz2
            clear hi0 hz0 hzz1 hzz2
            go_upto_region 10 with fail
            have ccb_0 := cb_0
            have ccb_1 := cb_1
            have ccb_2 := cb_2
            have ccq_0 := cq_0
            have ccq_1 := cq_1
            have ccq_2 := cq_2
            have ccq_3 := cq_3
            have ccq_4 := cq_4
            have nf0 : w.heap.size + 1 + 1 ≠ w.heap.size := by omega
            have nf1 : w.heap.size + 1 + 1 ≠ w.heap.size + 1 := by omega
            go_region_held_law (fun w' => w'.cell? ⟨w.heap.size, 0, none⟩ = some (.int .i8 wd) ∧ w'.cell? ⟨w.heap.size, 1, none⟩ = some (.int .i8 hi) ∧ w'.cell? ⟨w.heap.size, 2, none⟩ = some (.slice (some ⟨b, 0, none⟩) n cap) ∧ w'.cell? ⟨w.heap.size + 1, 0, none⟩ = some (.int .i8 p.x) ∧ w'.cell? ⟨w.heap.size + 1, 1, none⟩ = some (.int .i8 p.y) ∧ w'.cell? ⟨w.heap.size + 1, 2, none⟩ = some (.int .i8 p.kind) ∧ w'.cell? ⟨w.heap.size + 1, 3, none⟩ = some (.int .i8 p.turn) ∧ w'.cell? ⟨w.heap.size + 1, 4, none⟩ = some (.int .i8 p.delay)) (first | exact ⟨cb_0, cb_1, cb_2, cq_0, cq_1, cq_2, cq_3, cq_4⟩ | exact ⟨(World.cell?_alloc_lt _ _ _ lb_).trans cb_0, (World.cell?_alloc_lt _ _ _ lb_).trans cb_1, (World.cell?_alloc_lt _ _ _ lb_).trans cb_2, (World.cell?_alloc_lt _ _ _ lq_).trans cq_0, (World.cell?_alloc_lt _ _ _ lq_).trans cq_1, (World.cell?_alloc_lt _ _ _ lq_).trans cq_2, (World.cell?_alloc_lt _ _ _ lq_).trans cq_3, (World.cell?_alloc_lt _ _ _ lq_).trans cq_4⟩ | exact ⟨(World.cell?_alloc_lt _ _ _ lb1).trans cb_0, (World.cell?_alloc_lt _ _ _ lb1).trans cb_1, (World.cell?_alloc_lt _ _ _ lb1).trans cb_2, (World.cell?_alloc_lt _ _ _ lq1).trans cq_0, (World.cell?_alloc_lt _ _ _ lq1).trans cq_1, (World.cell?_alloc_lt _ _ _ lq1).trans cq_2, (World.cell?_alloc_lt _ _ _ lq1).trans cq_3, (World.cell?_alloc_lt _ _ _ lq1).trans cq_4⟩ | exact ⟨(World.cell?_setCell_far _ _ _ _ nf0).trans ((World.cell?_setCell_far _ _ _ _ nf0).trans ((World.cell?_setCell_far _ _ _ _ nf0).trans cb_0)), (World.cell?_setCell_far _ _ _ _ nf0).trans ((World.cell?_setCell_far _ _ _ _ nf0).trans ((World.cell?_setCell_far _ _ _ _ nf0).trans cb_1)), (World.cell?_setCell_far _ _ _ _ nf0).trans ((World.cell?_setCell_far _ _ _ _ nf0).trans ((World.cell?_setCell_far _ _ _ _ nf0).trans cb_2)), (World.cell?_setCell_far _ _ _ _ nf1).trans ((World.cell?_setCell_far _ _ _ _ nf1).trans ((World.cell?_setCell_far _ _ _ _ nf1).trans cq_0)), (World.cell?_setCell_far _ _ _ _ nf1).trans ((World.cell?_setCell_far _ _ _ _ nf1).trans ((World.cell?_setCell_far _ _ _ _ nf1).trans cq_1)), (World.cell?_setCell_far _ _ _ _ nf1).trans ((World.cell?_setCell_far _ _ _ _ nf1).trans ((World.cell?_setCell_far _ _ _ _ nf1).trans cq_2)), (World.cell?_setCell_far _ _ _ _ nf1).trans ((World.cell?_setCell_far _ _ _ _ nf1).trans ((World.cell?_setCell_far _ _ _ _ nf1).trans cq_3)), (World.cell?_setCell_far _ _ _ _ nf1).trans ((World.cell?_setCell_far _ _ _ _ nf1).trans ((World.cell?_setCell_far _ _ _ _ nf1).trans cq_4))⟩)
              (first
              | (refine step_append_own rfl _ _ 28 rfl w4_.heap.size 46 i0 _ 5 5 Try.underlying28 Hi.out Hz0.out Hz1.out Hz2.out rfl (by decide) (.slice va n vc) n (flatL l) rfl (owns_below Own1.out (by repeat (first | with_reducible exact Below.refl _ _ | (with_reducible refine kSet ?_ ?hB _; case hB => (simp; try omega)) | with_reducible refine kAlloc ?_ _ | with_reducible refine Below.drew ?_ | with_reducible refine kDrewN ?_ _ | with_reducible refine kTrans ?_ (by assumption)))) ⟨w4_.heap.size, 0, none⟩ 1 1 p.cells rfl rfl (World.news_of_block (cs := #[.int .i8 p.x, .int .i8 p.y, .int .i8 p.kind, .int .i8 p.turn, .int .i8 p.delay]) (on.out)) (pc_one p) (put_len hmax) (put_bytes hmax) (by first | exact nn1 | (simp; omega)) ?_
                 intro v7 w7 hown7 hgr hnil
                 have Own7 := Lib.hid (show w7.ownsRow w4_.heap.size 46 5 v7 (n + 1) (flatL (l ++ [p])) by rw [flatL_one_end]; exact hown7)
                 have HB7 : Below w4_.heap.size w4_ w7 := grown_below (v := .slice va n vc) (by repeat (first | with_reducible exact Below.refl _ _ | (with_reducible refine kSet ?_ ?hB _; case hB => (simp; try omega)) | with_reducible refine kAlloc ?_ _ | with_reducible refine Below.drew ?_ | with_reducible refine kDrewN ?_ _ | with_reducible refine kTrans ?_ (by assumption))) hgr (fun k hk => (owns_block Own1.out k hk).1)
                 have cb_0 := (HB7.cell (p := ⟨w.heap.size, 0, none⟩) lb_).trans ccb_0
                 have cb_1 := (HB7.cell (p := ⟨w.heap.size, 1, none⟩) lb_).trans ccb_1
                 have cb_2 := (HB7.cell (p := ⟨w.heap.size, 2, none⟩) lb_).trans ccb_2
                 have cq_0 := (HB7.cell (p := ⟨w.heap.size + 1, 0, none⟩) lq_).trans ccq_0
                 have cq_1 := (HB7.cell (p := ⟨w.heap.size + 1, 1, none⟩) lq_).trans ccq_1
                 have cq_2 := (HB7.cell (p := ⟨w.heap.size + 1, 2, none⟩) lq_).trans ccq_2
                 have cq_3 := (HB7.cell (p := ⟨w.heap.size + 1, 3, none⟩) lq_).trans ccq_3
                 have cq_4 := (HB7.cell (p := ⟨w.heap.size + 1, 4, none⟩) lq_).trans ccq_4
                 obtain ⟨vb, vd, rfl⟩ := owns_slice Own7.out
                 clear hown7 hgr hnil)
              | (refine step_append_own rfl _ _ 28 rfl w4_.heap.size 46 i0 _ 5 5 Try.underlying28 Hi.out Hz0.out Hz1.out Hz2.out rfl (by decide) (.slice va n vc) n (flatL l) rfl (owns_below Own1.out (by repeat (first | with_reducible exact Below.refl _ _ | (with_reducible refine kSet ?_ ?hB _; case hB => (simp; try omega)) | with_reducible refine kAlloc ?_ _ | with_reducible refine Below.drew ?_ | with_reducible refine kDrewN ?_ _ | with_reducible refine kTrans ?_ (by assumption)))) ⟨v1.heap.size, 0, none⟩ 1 1 p.cells rfl rfl (World.news_of_block (cs := #[.int .i8 p.x, .int .i8 p.y, .int .i8 p.kind, .int .i8 p.turn, .int .i8 p.delay]) (heap_alloc_new v1 (.cells #[.int .i8 p.x, .int .i8 p.y, .int .i8 p.kind, .int .i8 p.turn, .int .i8 p.delay] 46))) (pc_one p) (put_len hmax) (put_bytes hmax) (by first | exact nn1 | (simp; omega)) ?_
                 intro v7 w7 hown7 hgr hnil
                 have Own7 := Lib.hid (show w7.ownsRow w4_.heap.size 46 5 v7 (n + 1) (flatL (l ++ [p])) by rw [flatL_one_end]; exact hown7)
                 have HB7 : Below w4_.heap.size w4_ w7 := grown_below (v := .slice va n vc) (by repeat (first | with_reducible exact Below.refl _ _ | (with_reducible refine kSet ?_ ?hB _; case hB => (simp; try omega)) | with_reducible refine kAlloc ?_ _ | with_reducible refine Below.drew ?_ | with_reducible refine kDrewN ?_ _ | with_reducible refine kTrans ?_ (by assumption))) hgr (fun k hk => (owns_block Own1.out k hk).1)
                 have cb_0 := (HB7.cell (p := ⟨w.heap.size, 0, none⟩) lb_).trans ccb_0
                 have cb_1 := (HB7.cell (p := ⟨w.heap.size, 1, none⟩) lb_).trans ccb_1
                 have cb_2 := (HB7.cell (p := ⟨w.heap.size, 2, none⟩) lb_).trans ccb_2
                 have cq_0 := (HB7.cell (p := ⟨w.heap.size + 1, 0, none⟩) lq_).trans ccq_0
                 have cq_1 := (HB7.cell (p := ⟨w.heap.size + 1, 1, none⟩) lq_).trans ccq_1
                 have cq_2 := (HB7.cell (p := ⟨w.heap.size + 1, 2, none⟩) lq_).trans ccq_2
                 have cq_3 := (HB7.cell (p := ⟨w.heap.size + 1, 3, none⟩) lq_).trans ccq_3
                 have cq_4 := (HB7.cell (p := ⟨w.heap.size + 1, 4, none⟩) lq_).trans ccq_4
                 obtain ⟨vb, vd, rfl⟩ := owns_slice Own7.out
                 clear hown7 hgr hnil)
              | (go_at_call 80
                 refine (HC.out _ (by repeat (first | with_reducible exact Below.refl _ _ | (with_reducible refine kSet ?_ ?hB _; case hB => (simp; try omega)) | with_reducible refine kAlloc ?_ _ | with_reducible refine Below.drew ?_ | with_reducible refine kDrewN ?_ _ | with_reducible refine kTrans ?_ (by assumption)))).mono ?_
                 rintro e v1 ⟨u1, rfl, own1, nnil, b1⟩
                 have HB1 : Below w4_.heap.size w4_ v1 := by repeat (first | with_reducible exact Below.refl _ _ | (with_reducible refine kSet ?_ ?hB _; case hB => (simp; try omega)) | with_reducible refine kAlloc ?_ _ | with_reducible refine Below.drew ?_ | with_reducible refine kDrewN ?_ _ | with_reducible refine kTrans ?_ (by assumption))
                 have nn1 : w4_.heap.size ≤ v1.heap.size := HB1.size
                 have Own1 := Lib.hid (owns_mono (base2 := w4_.heap.size) (by first | exact Nat.le_refl _ | (simp; done)) own1)
                 try have on := Lib.hid (show v1.heap[w4_.heap.size]? = some (.cells #[.int .i8 p.x, .int .i8 p.y, .int .i8 p.kind, .int .i8 p.turn, .int .i8 p.delay] 46 (0, 0)) from blk_below (heap_alloc_new w4_.drew (.cells #[.int .i8 p.x, .int .i8 p.y, .int .i8 p.kind, .int .i8 p.turn, .int .i8 p.delay] 46)) b1)
                 obtain ⟨va, vc, rfl⟩ := owns_slice Own1.out
                 clear own1 nnil
                 have lb1 := Nat.lt_of_lt_of_le lb_ nn1
                 have lq1 := Nat.lt_of_lt_of_le lq_ nn1
                 have lr1 := Nat.lt_of_lt_of_le lr_ nn1
                 have cb_0 := (HB1.cell (p := ⟨w.heap.size, 0, none⟩) lb_).trans ccb_0
                 have cb_1 := (HB1.cell (p := ⟨w.heap.size, 1, none⟩) lb_).trans ccb_1
                 have cb_2 := (HB1.cell (p := ⟨w.heap.size, 2, none⟩) lb_).trans ccb_2
                 have cq_0 := (HB1.cell (p := ⟨w.heap.size + 1, 0, none⟩) lq_).trans ccq_0
                 have cq_1 := (HB1.cell (p := ⟨w.heap.size + 1, 1, none⟩) lq_).trans ccq_1
                 have cq_2 := (HB1.cell (p := ⟨w.heap.size + 1, 2, none⟩) lq_).trans ccq_2
                 have cq_3 := (HB1.cell (p := ⟨w.heap.size + 1, 3, none⟩) lq_).trans ccq_3
                 have cq_4 := (HB1.cell (p := ⟨w.heap.size + 1, 4, none⟩) lq_).trans ccq_4)
              | (go_at_call 79
                 refine (withPieces_any wd hi _ _ _ ⟨_, _, _, rfl⟩).mono ?_
                 rintro e v3 ⟨rfl, b3⟩
                 have HB3 : Below w4_.heap.size w4_ v3 := kTrans HB7 b3
                 have cb_0 := (HB3.cell (p := ⟨w.heap.size, 0, none⟩) lb_).trans ccb_0
                 have cb_1 := (HB3.cell (p := ⟨w.heap.size, 1, none⟩) lb_).trans ccb_1
                 have cb_2 := (HB3.cell (p := ⟨w.heap.size, 2, none⟩) lb_).trans ccb_2
                 have cq_0 := (HB3.cell (p := ⟨w.heap.size + 1, 0, none⟩) lq_).trans ccq_0
                 have cq_1 := (HB3.cell (p := ⟨w.heap.size + 1, 1, none⟩) lq_).trans ccq_1
                 have cq_2 := (HB3.cell (p := ⟨w.heap.size + 1, 2, none⟩) lq_).trans ccq_2
                 have cq_3 := (HB3.cell (p := ⟨w.heap.size + 1, 3, none⟩) lq_).trans ccq_3
                 have cq_4 := (HB3.cell (p := ⟨w.heap.size + 1, 4, none⟩) lq_).trans ccq_4
                 have R3 := blk_below RP.out HB3
                 have Own3 := Lib.hid (owns_below Own7.out b3)
                 have y0 := cell_of_row _ _ 0 _ _ _ R3
                 have y1 := cell_of_row _ _ 1 _ _ _ R3
                 have y2 := cell_of_row _ _ 2 _ _ _ R3
                 have yf := fun j => frozen_of_row _ _ j _ _ R3
                 have r3 := Lib.hid R3
                 clear R3
                 simp at y0 y1 y2))
            all_goals
              go_wp2
              refine bodyPost_ret (v := .tuple #[.agg #[.int .i8 wd, .int .i8 hi, .slice vb (n + 1) vd], .int .i64 0]) (results_cell_tmp rfl _ _ (w.heap.size + 1 + 1) 30 #[.int .i8 wd, .int .i8 hi, .slice vb (n + 1) vd] (0, 0) _ _ rfl rfl (box3_set r3.out) Try.underlying30 rfl (by kernel_rfl)) rfl ?_
              refine ⟨_, rfl, ?_, kSet (kSet (kSet (kTrans TP HB3) (show w.heap.size ≤ w.heap.size + 1 + 1 by omega) _) (show w.heap.size ≤ w.heap.size + 1 + 1 by omega) _) (show w.heap.size ≤ w.heap.size + 1 + 1 by omega) _⟩
              have hs := SlW.of_owns Own3.out
              rw [show (n + 1) = (l ++ [p]).length by rw [List.length_append, Hn.out]; rfl]
              rw [show (n + 1) = (l ++ [p]).length by rw [List.length_append, Hn.out]; rfl] at hs
              exact (((hs.setFar (by show w.heap.size + 1 + 1 < w4_.heap.size; omega)).setFar (by show w.heap.size + 1 + 1 < w4_.heap.size; omega)).setFar (by show w.heap.size + 1 + 1 < w4_.heap.size; omega)).mono (by have := TP.size; omega) (by simp [World.setCell])
      · skip
        have cq_0 : w2_.cell? ⟨w.heap.size + 1, 0, none⟩ = some (.int .i8 p.x) := cell_of_row _ _ 0 _ _ _ q_2_.out
        have cq_1 : w2_.cell? ⟨w.heap.size + 1, 1, none⟩ = some (.int .i8 p.y) := cell_of_row _ _ 1 _ _ _ q_2_.out
        have cq_2 : w2_.cell? ⟨w.heap.size + 1, 2, none⟩ = some (.int .i8 p.kind) := cell_of_row _ _ 2 _ _ _ q_2_.out
        have cq_3 : w2_.cell? ⟨w.heap.size + 1, 3, none⟩ = some (.int .i8 p.turn) := cell_of_row _ _ 3 _ _ _ q_2_.out
        have cq_4 : w2_.cell? ⟨w.heap.size + 1, 4, none⟩ = some (.int .i8 p.delay) := cell_of_row _ _ 4 _ _ _ q_2_.out
        have cy_0 : w2_.cell? ⟨w1_.heap.size, 0, none⟩ = some (.int .i8 wd) := cell_of_row _ _ 0 _ _ _ y_2_.out
        have cy_1 : w2_.cell? ⟨w1_.heap.size, 1, none⟩ = some (.int .i8 hi) := cell_of_row _ _ 1 _ _ _ y_2_.out
        have cy_2 : w2_.cell? ⟨w1_.heap.size, 2, none⟩ = some (.map (some B)) := cell_of_row _ _ 2 _ _ _ y_2_.out
        go_wp2_with fail
        refine (holds_any p.x p.y wd hi _ hp8.1 hp8.2.1 hw8 hh8 false (by simpa using (show ¬ (0 ≤ p.x ∧ p.x < wd ∧ 0 ≤ p.y ∧ p.y < hi) by omega))).mono ?_
        rintro e w3_ ⟨rfl, b3_⟩
        have n3_ : w2_.heap.size ≤ w3_.heap.size := b3_.size
        have T3_ : Below w.heap.size w w3_ := kTrans T2_ b3_
        have p_3_ := Lib.hid (p_2_.out.below b3_ (by omega))
        have b_3_ := Lib.hid (blk_below b_2_.out b3_)
        have q_3_ := Lib.hid (blk_below q_2_.out b3_)
        have r_3_ := Lib.hid (blk_below r_2_.out b3_)
        have m_3_ := Lib.hid (m_2_.out.below b3_)
        have y_3_ := Lib.hid (blk_below y_2_.out b3_)
        clear cq_0 cq_1 cq_2 cq_3 cq_4 cy_0 cy_1 cy_2 p_2_ b_2_ q_2_ r_2_ m_2_ y_2_ b3_ T2_
        obtain ⟨rfl, rfl, rfl, rfl⟩ := four_inj (show (0, 0, [], 2) = (Wr, Hr, lr, C) from (hQ.symm.trans (by unfold putQ; rw [if_pos ⟨rfl, G1.out⟩, if_neg g2]) : (Wr, Hr, lr, C) = (0, 0, [], 2)).symm)
        clear hQ
        have rs_ := r_3_.out
        go_wp2_with (refine wpList_store_row rfl 30 _ _ rfl (w.heap.size + 1 + 1) #[.int .i8 0, .int .i8 0, .slice none 0 0] rfl rfl 30 _ rs_ (by kernel_rfl) (by kernel_rfl) (by kernel_rfl) ?_)
        refine bodyPost_ret (v := .tuple #[.agg #[.int .i8 0, .int .i8 0, .slice none 0 0], .int .i64 2]) (results_cell_tmp rfl _ _ (w.heap.size + 1 + 1) 30 #[.int .i8 0, .int .i8 0, .slice none 0 0] (0, 0) _ _ rfl rfl (setRow_heap _ _ _ _ _ _ rs_) Try.underlying30 rfl (by kernel_rfl)) rfl ?_
        exact ⟨_, rfl, .empty none 0 rfl, kRowW T3_ (by omega) _⟩
end Go.Proofs.Ythancdlkkfegnaa
