/- TakePiece: the mathematics and the model. -/
import Derived.Test.YtlmnoopoohdbkaaDe
import Derived.Test.YtlmnoopoohdbkaaG4
import Derived.Test.YtlmnoopoohdbkaaG2
import Derived.Deep.DeepCutAuto
namespace Go.Proofs.Ytlmnoopoohdbkaa
open Go.ChangeShapes Go.WideShapes Go.ChangeAt Go.RowKit Go.Joins Go.Deep
set_option linter.unusedVariables false
set_option linter.unusedSimpArgs false

def takeQ (R : Bool) (wd hi : Int) (l : List Pc) (f : Int) : Int × Int × List Pc × Int :=
  if R = true then (if f < 0 then (0, 0, [], 6) else (wd, hi, l.eraseIdx f.toNat, 0)) else (0, 0, [], 1)
theorem takeQ_ok {R : Bool} {wd hi f : Int} {l : List Pc} {Wr Hr : Int} {lr : List Pc} {C : Int} (h8 : All8 l) (hm : l.length ≤ 1048576) (h : takeQ R wd hi l f = (Wr, Hr, lr, C)) : All8 lr ∧ lr.length ≤ 1048576 := by
  have hnil : All8 ([] : List Pc) ∧ ([] : List Pc).length ≤ 1048576 := ⟨fun p h => absurd h (by simp), by simp⟩
  unfold takeQ at h
  split at h
  · split at h
    · obtain ⟨_, _, rfl, _⟩ := four_inj h; exact hnil
    · obtain ⟨_, _, rfl, _⟩ := four_inj h
      exact ⟨fun p hp => h8 p (List.mem_of_mem_eraseIdx hp), by have := List.length_eraseIdx_le l f.toNat; omega⟩
  · obtain ⟨_, _, rfl, _⟩ := four_inj h; exact hnil
theorem bd0T {w : World} {b : Nat} {wd hi : Int} {v : Value} (h : BdAt w b 0 wd hi v) : w.cell? ⟨b, 0, none⟩ = some (.int .i8 wd) ∧ w.cell? ⟨b, 1, none⟩ = some (.int .i8 hi) ∧ w.cell? ⟨b, 2, none⟩ = some v := h
theorem BdAt.rowT {w : World} {b g : Nat} {wd hi : Int} {v : Value} {cs : Array Value} (h : BdAt w b 0 wd hi v) (hne : b ≠ g) : BdAt (w.setRow g cs) b 0 wd hi v := by
  have hb : (w.setRow g cs).heap[b]? = w.heap[b]? := setRow_other _ _ _ _ hne
  have hc : ∀ j, (w.setRow g cs).cell? ⟨b, j, none⟩ = w.cell? ⟨b, j, none⟩ := fun j => World.cell?_of_block (w := w) hb
  exact ⟨(hc _).trans h.1, (hc _).trans h.2.1, (hc _).trans h.2.2⟩
theorem find_lt {x y f : Int} {l : List Pc} (h : findFrom x y l 0 = f) (h0 : 0 ≤ f) : f.toNat < l.length := by
  have key : ∀ (l : List Pc) (j : Int), findFrom x y l j < j + l.length ∨ findFrom x y l j = -1 := by
    intro l
    induction l with
    | nil => intro j; exact .inr rfl
    | cons p l ih =>
      intro j
      unfold findFrom
      split
      · left; simp; omega
      · rcases ih (j + 1) with h | h
        · left; simp; omega
        · exact .inr h
  rcases key l 0 with g | g <;> omega
theorem own_some {w : World} {base n : Nat} {e : TypeId} {v : Value} {xs : List Value} {k : Nat} (h : w.ownsRow base e k v n xs) (h0 : 0 < n) : ∃ g c, v = .slice (some ⟨g, 0, none⟩) n c ∧ n ≤ c ∧ c ≤ maxLen ∧ base ≤ g ∧ g < w.heap.size := by
  rcases h.2 with ⟨h1, h2⟩ | ⟨g, c, cur, h1, h2, h3, h4, h5, _⟩
  · omega
  · exact ⟨g, c, h1, h4, h5, h2, (Array.getElem?_eq_some_iff.1 h3).1⟩
theorem own_take {w : World} {base n i g c : Nat} {e : TypeId} {l : List Pc} (hn : l.length = n) (hi : i ≤ n) (h : w.ownsRow base e 5 (.slice (some ⟨g, 0, none⟩) n c) n (flatL l)) : w.ownsRow base e 5 (.slice (some ⟨g, 0, none⟩) i c) i (flatL (l.take i)) := by
  refine ⟨by rw [flatL_length, List.length_take]; omega, .inr ?_⟩
  rcases h.2 with ⟨h1, h2⟩ | ⟨g', c', cur, h1, h2, h3, h4, h5, h6, h7⟩
  · simp at h1
  · obtain ⟨rfl, rfl⟩ : g' = g ∧ c' = c := by simp at h1; exact ⟨h1.1.symm, h1.2.symm⟩
    refine ⟨g', c', cur, rfl, h2, h3, by omega, h5, h6, ?_⟩
    have e1 : cur.toList.take (i * 5) = (cur.toList.take (n * 5)).take (i * 5) := by rw [List.take_take, Nat.min_eq_left (by omega)]
    have e2 : flatL l = flatL (l.take i) ++ flatL (l.drop i) := by rw [← flatL_append, List.take_append_drop]
    rw [e1, h7, e2, List.take_left' (by rw [flatL_length, List.length_take]; omega)]
theorem erase_flat (l : List Pc) (i : Nat) : flatL (l.eraseIdx i) = flatL (l.take i) ++ flatL (l.drop (i + 1)) := by rw [List.eraseIdx_eq_take_drop_succ, flatL_append]
theorem PcsAt.dropT {w : World} {b i n : Nat} {l : List Pc} (h : PcsAt w b 0 l) (hn : l.length = n) (j : Nat) (u : Value) (hu : (flatL (l.drop (i + 1)))[j]? = some u) : w.cell? ⟨b, (i + 1) * 5 + j, none⟩ = some u := by
  have h2 := h.news ((i + 1) * 5 + j) u (by
    rw [show flatL l = flatL (l.take (i + 1)) ++ flatL (l.drop (i + 1)) by rw [← flatL_append, List.take_append_drop]]
    by_cases hi : i + 1 ≤ l.length
    · rw [List.getElem?_append_right (by rw [flatL_length, List.length_take]; omega), flatL_length, List.length_take, show (i + 1) * 5 + j - min (i + 1) l.length * 5 = j by omega]
      exact hu
    · rw [List.drop_of_length_le (by omega)] at hu
      simp [flatL] at hu)
  rw [Addr.add_lit] at h2
  simpa using h2
set_option maxRecDepth 100000 in
set_option maxHeartbeats 8000000 in
theorem specTakePiece_any (b n : Nat) (wd hi x y : Int) (l : List Pc) (w : World) (hn : l.length = n) (hp : PcsAt w b 0 l) (hb : b < w.heap.size) (h8 : All8 l) (hw8 : i8 wd) (hh8 : i8 hi) (hmax : n ≤ 1048576) (R : Bool) (hR : R = boardOk wd hi l) (f : Int) (hf : findFrom x y l 0 = f) (Wr Hr : Int) (lr : List Pc) (C : Int) (hQ : takeQ R wd hi l f = (Wr, Hr, lr, C)) :
    Calls Try.prog 10 #[.agg #[.int .i8 wd, .int .i8 hi, .slice (some ⟨b, 0, none⟩) n n], .agg #[.int .i8 x, .int .i8 y]] w (BoardPost Wr Hr lr C w) := by
  obtain ⟨W0, hW⟩ : ∃ W0, ((w.alloc (.cells #[.int .i8 wd, .int .i8 hi, .slice (some ⟨b, 0, none⟩) n n] 30)).alloc (.cells #[.int .i8 x, .int .i8 y] 34)).alloc (.cells #[.int .i8 0, .int .i8 0, .slice none 0 0] 30) = W0 := ⟨_, rfl⟩
  have k0 : Below w.heap.size w W0 := by rw [← hW]; exact kAlloc (kAlloc (kAlloc (Below.refl _ _) _) _) _
  have hs0 : w.heap.size + 3 ≤ W0.heap.size := by rw [← hW]; simp
  have bX : W0.heap[w.heap.size]? = some (.cells #[.int .i8 wd, .int .i8 hi, .slice (some ⟨b, 0, none⟩) n n] 30 (0, 0)) := by
    rw [← hW]; exact (Below.heap_alloc _ _ _ (by simp; omega)).trans ((Below.heap_alloc _ _ _ (by simp)).trans (heap_alloc_new _ _))
  have bY : W0.heap[w.heap.size + 1]? = some (.cells #[.int .i8 x, .int .i8 y] 34 (0, 0)) := by
    rw [← hW]; exact (Below.heap_alloc _ _ _ (by simp)).trans (heap_two _ _ _)
  have bR : W0.heap[w.heap.size + 1 + 1]? = some (.cells #[.int .i8 0, .int .i8 0, .slice none 0 0] 30 (0, 0)) := by
    rw [← hW]
    have h := heap_alloc_new ((w.alloc (.cells #[.int .i8 wd, .int .i8 hi, .slice (some ⟨b, 0, none⟩) n n] 30)).alloc (.cells #[.int .i8 x, .int .i8 y] 34)) (.cells #[.int .i8 0, .int .i8 0, .slice none 0 0] 30)
    simpa only [World.size_alloc] using h
  have hx := BdAt.of bX
  have hlx := hx.lt
  have HX := Lib.hid (fun W2 (h2 : Below W0.heap.size W0 W2) => hx.below h2 hx.lt)
  have HBR := Lib.hid (fun W2 (h2 : Below W0.heap.size W0 W2) => blk_below bR h2)
  have HBY := Lib.hid (fun W2 (h2 : Below W0.heap.size W0 W2) => blk_below bY h2)
  have HP := Lib.hid (fun W2 (h2 : Below W0.heap.size W0 W2) => hp.below (kTrans k0 h2) hb)
  have HV := Lib.hid (fun W2 (h2 : Below W0.heap.size W0 W2) => l01Ok_any w.heap.size 0 b 0 n n wd hi l W2 hn (hx.below h2 hx.lt) (hp.below (kTrans k0 h2) hb) (Nat.lt_of_lt_of_le hb (kTrans k0 h2).size) (Nat.le_refl _) h8 hw8 hh8 hmax R hR)
  have HF := Lib.hid (fun W2 (h2 : Below W0.heap.size W0 W2) => l01Find_to w.heap.size 0 b 0 n n wd hi x y f l W2 hn (hx.below h2 hx.lt) (hp.below (kTrans k0 h2) hb) (Nat.lt_of_lt_of_le hb (kTrans k0 h2).size) (Nat.le_refl _) hmax hf)
  have HC := Lib.hid (fun W2 (h2 : Below W0.heap.size W0 W2) => l01Copy_any w.heap.size b 0 n n wd hi l W2 hn (hx.below h2 hx.lt) (hp.below (kTrans k0 h2) hb) (Nat.lt_of_lt_of_le hb (kTrans k0 h2).size) hmax)
  have hlt := find_lt hf
  have HK0 := Lib.hid k0
  have HW := Lib.hid hW
  have Hn := Lib.hid hn
  have hbW : b < W0.heap.size := Nat.lt_of_lt_of_le hb k0.size
  obtain ⟨x0, x1, x2⟩ := bd0T hx
  have y0 : W0.cell? ⟨w.heap.size + 1, 0, none⟩ = some (.int .i8 x) := cell_of_row _ _ 0 _ _ _ bY
  have y1 : W0.cell? ⟨w.heap.size + 1, 1, none⟩ = some (.int .i8 y) := cell_of_row _ _ 1 _ _ _ bY
  have ly := blk_lt bY
  clear hR h8 hp hb hW bX bY bR k0 hx
  have HQ := Lib.hid hQ
  clear hQ hf
  go_enter Try.func10, Try.ntmps10
  go_upto_region 1 with fail
  try rw [HW.out]
  clear x0 x1 x2 y0 y1 ly HW
  go_wp2_with fail
  refine (HV.out _ (Below.refl _ _)).mono ?_
  rintro e w1 ⟨rfl, hb1⟩
  clear HV
  have hz1 := hb1.size
  cases R with
  | false =>
    obtain ⟨rfl, rfl, rfl, rfl⟩ := four_inj (show ((0, 0, [], 1) : Int × Int × List Pc × Int) = (Wr, Hr, lr, C) from HQ.out)
    clear HQ HF HC HX HBY HP
    have rs_ := HBR.out _ hb1
    have HT := Lib.hid (kTrans HK0.out hb1)
    clear HBR
    go_wp2_with (refine wpList_store_row rfl 30 _ _ rfl (w.heap.size + 1 + 1) #[.int .i8 0, .int .i8 0, .slice none 0 0] rfl rfl 30 _ rs_ (by kernel_rfl) (by kernel_rfl) (by kernel_rfl) ?_)
    refine bodyPost_ret (v := .tuple #[.agg #[.int .i8 0, .int .i8 0, .slice none 0 0], .int .i64 1]) (results_cell_tmp rfl _ _ (w.heap.size + 1 + 1) 30 #[.int .i8 0, .int .i8 0, .slice none 0 0] (0, 0) _ _ rfl rfl (setRow_heap _ _ _ _ _ _ rs_) Try.underlying30 rfl (by kernel_rfl)) rfl ?_
    exact ⟨_, rfl, .empty _ _ rfl, kRowW HT.out (by omega) _⟩
  | true =>
    have bY1 := HBY.out _ hb1
    have y0 : w1.cell? ⟨w.heap.size + 1, 0, none⟩ = some (.int .i8 x) := cell_of_row _ _ 0 _ _ _ bY1
    have y1 : w1.cell? ⟨w.heap.size + 1, 1, none⟩ = some (.int .i8 y) := cell_of_row _ _ 1 _ _ _ bY1
    have ly := blk_lt bY1
    have HB1 := Lib.hid hb1
    clear bY1 hb1 HBY
    go_wp2_with fail
    refine (HF.out _ HB1.out).mono ?_
    rintro e w2 ⟨rfl, hb2⟩
    have HB2 := Lib.hid (kTrans HB1.out hb2)
    have hz2 := hb2.size
    clear y0 y1 ly hb2 HB1 HF
    by_cases hf0 : f < 0
    · obtain ⟨rfl, rfl, rfl, rfl⟩ := four_inj (show ((0, 0, [], 6) : Int × Int × List Pc × Int) = (Wr, Hr, lr, C) by have h := HQ.out; unfold takeQ at h; rw [if_pos rfl, if_pos hf0] at h; exact h)
      have e1 : decide (f < 0) = true := by simpa using hf0
      clear HQ HC HX HP
      have rs_ := HBR.out _ HB2.out
      have HT := Lib.hid (kTrans HK0.out HB2.out)
      clear HBR
      go_wp2_with (refine wpList_store_row rfl 30 _ _ rfl (w.heap.size + 1 + 1) #[.int .i8 0, .int .i8 0, .slice none 0 0] rfl rfl 30 _ rs_ (by kernel_rfl) (by kernel_rfl) (by kernel_rfl) ?_)
      refine bodyPost_ret (v := .tuple #[.agg #[.int .i8 0, .int .i8 0, .slice none 0 0], .int .i64 6]) (results_cell_tmp rfl _ _ (w.heap.size + 1 + 1) 30 #[.int .i8 0, .int .i8 0, .slice none 0 0] (0, 0) _ _ rfl rfl (setRow_heap _ _ _ _ _ _ rs_) Try.underlying30 rfl (by kernel_rfl)) rfl ?_
      exact ⟨_, rfl, .empty _ _ rfl, kRowW HT.out (by omega) _⟩
    · obtain ⟨i, rfl⟩ : ∃ i : Nat, f = i := ⟨f.toNat, by omega⟩
      obtain ⟨rfl, rfl, rfl, rfl⟩ := four_inj (show ((wd, hi, l.eraseIdx i, 0) : Int × Int × List Pc × Int) = (Wr, Hr, lr, C) by have h := HQ.out; unfold takeQ at h; rw [if_pos rfl, if_neg hf0, Int.toNat_natCast] at h; exact h)
      have hin : i < n := by have := hlt (by omega); rw [Int.toNat_natCast] at this; rw [← Hn.out]; exact this
      have hi0 : ¬ ((i : Int) < 0) := by omega
      have hi0' : decide ((i : Int) < 0) = false := by simp
      clear HQ hlt hf0
      go_wp2_with fail
      refine (HC.out _ HB2.out).mono ?_
      rintro e w3 ⟨v, rfl, hown, hb3⟩
      obtain ⟨g, c, rfl, hgc, hcm, hbg, hgl⟩ := own_some hown (by omega)
      have HB3 := Lib.hid (kTrans HB2.out hb3)
      have hz3 := hb3.size
      obtain ⟨W3, hW3⟩ : ∃ z, w3.alloc (.cells #[.int .i8 wd, .int .i8 hi, .slice (some ⟨g, 0, none⟩) n c] 30) = z := ⟨_, rfl⟩
      have k3 : Below w3.heap.size w3 W3 := by rw [← hW3]; exact kAlloc (Below.refl _ _) _
      have b3 : W3.heap[w3.heap.size]? = some (.cells #[.int .i8 wd, .int .i8 hi, .slice (some ⟨g, 0, none⟩) n c] 30 (0, 0)) := by rw [← hW3]; exact heap_alloc_new _ _
      have HB4 := Lib.hid (kTrans HB3.out k3)
      have Hown := Lib.hid (owns_below hown k3)
      have HW3 := Lib.hid hW3
      have hz4 := k3.size
      have hz5 := blk_lt b3
      clear hW3 hown hb3 HC k3 HB2
      go_upto_region 7 with fail
      try rw [HW3.out]
      clear HW3
      obtain ⟨Y, hY⟩ : ∃ z, w3.heap.size = z := ⟨_, rfl⟩
      rw [hY] at b3 hz5 ⊢
      obtain ⟨x0, x1, x2⟩ := bd0T (HX.out _ HB4.out)
      have lx := (HX.out _ HB4.out).lt
      obtain ⟨q0, q1, q2⟩ := bd0T (BdAt.of b3)
      have qf : ∀ j, W3.frozen? ⟨Y, j, none⟩ = false := fun j => frozen_of_row _ _ j _ _ b3
      obtain ⟨j0, hj0, hj1, hj2, hj3⟩ := info_parts info_pc
      have Hj := Lib.hid hj0
      have Hj1 := Lib.hid hj1
      have Hj2 := Lib.hid hj2
      have Hj3 := Lib.hid hj3
      have hYg : Y ≠ g := by omega
      have hYr : Y ≠ w.heap.size + 1 + 1 := by omega
      have hXg : w.heap.size ≠ g := by omega
      have hXY : w.heap.size ≠ Y := by omega
      obtain ⟨A, hA, hsrc⟩ : ∃ A : Addr, (if n = i + 1 then some (⟨b, 0, none⟩ : Addr) else some ⟨b, (i + 1) * 5, none⟩) = some A ∧ Hid (∀ W, Below W0.heap.size W0 W → ∀ j u, (flatL (l.drop (i + 1)))[j]? = some u → W.cell? (A.add j) = some u) := by
        by_cases h : n = i + 1
        · refine ⟨⟨b, 0, none⟩, by simp [h], fun W hW j u hu => ?_⟩
          rw [List.drop_of_length_le (by rw [Hn.out]; omega)] at hu
          simp [flatL] at hu
        · exact ⟨⟨b, (i + 1) * 5, none⟩, by simp [h], fun W hW j u hu => by rw [Addr.add_lit]; exact (HP.out W hW).dropT Hn.out j u hu⟩
      have Hlen := Lib.hid (show (flatL (l.drop (i + 1))).length = (n - (i + 1)) * 5 by rw [flatL_length, List.length_drop, Hn.out])
      have Htk := Lib.hid (own_take (i := i) Hn.out (by omega) Hown.out)
      have hic : i ≤ c := by omega
      have hc63 : c ≤ 9223372036854775807 := by unfold maxLen at hcm; omega
      have hwr : IntKind.i64.wrap ((i : Int) + 1) = (i : Int) + 1 := by rw [IntKind.wrap_i64]; omega
      have hp0 : (0 : Int) ≤ (i : Int) + 1 := by omega
      have hp1 : (i : Int) + 1 ≤ (n : Int) := by omega
      have hp2 : ((i : Int) + 1).toNat = i + 1 := by omega
      have hin2 : i + 1 ≤ n := by omega
      have hgW : g < W3.heap.size := by omega
      have hYl : w2.heap.size ≤ Y := by omega
      have hrY : w.heap.size + 1 + 1 < W3.heap.size := by omega
      have hA2 := hA
      clear hj0 hj1 hj2 hj3 HX HP hgl hcm
      go_region_law (refine step_append_own rfl (.tmp 20) (.tmp 25) 28 rfl w2.heap.size 66 j0 _ 5 5 Try.underlying28 Hj.out Hj1.out Hj2.out Hj3.out rfl (by decide) (.slice (some ⟨g, 0, none⟩) i c) i (flatL (l.take i)) (by simp [Act.eval, Act.put]) (owns_below Htk.out (by repeat (first | with_reducible exact Below.refl _ _ | (with_reducible refine kSet ?_ ?hB _; case hB => (simp; try omega)) | with_reducible refine kAlloc ?_ _ | with_reducible refine Below.drew ?_ | with_reducible refine kDrewN ?_ _ | with_reducible refine kTrans ?_ (by assumption)))) A (n - (i + 1)) (n - (i + 1)) (flatL (l.drop (i + 1))) (by simp [Act.eval, Act.put]) Hlen.out (hsrc.out _ (kTrans HB4.out (by repeat (first | with_reducible exact Below.refl _ _ | (with_reducible refine kSet ?_ ?hB _; case hB => (simp; try omega)) | with_reducible refine kAlloc ?_ _ | with_reducible refine Below.drew ?_ | with_reducible refine kDrewN ?_ _ | with_reducible refine kTrans ?_ (by assumption))))) (flatL_one _) (by unfold maxLen; omega) (by omega) (by simp; omega) ?_
                     intro v7 w7 hown7 hgr hnil
                     rw [show i + (n - (i + 1)) = n - 1 by omega, ← erase_flat] at hown7
                     obtain ⟨vb, vd, rfl⟩ := owns_slice hown7
                     have hY7 : w7.heap[Y]? = some (.cells #[.int .i8 wd, .int .i8 hi, .slice (some ⟨g, 0, none⟩) n c] 30 (0, 0)) := (hgr.block Y hz5 (by simp [Value.ownBlock]; omega)).trans b3
                     have hr7 := (hgr.block (w.heap.size + 1 + 1) hrY (by simp [Value.ownBlock]; omega)).trans (HBR.out _ (Below.drew HB4.out))
                     have T7 : Below w.heap.size w w7 := (Below.drew (kTrans HK0.out HB4.out)).grown hgr (by show w.heap.size ≤ W3.heap.size; omega) (by intro k hk; simp [Value.ownBlock] at hk; omega)
                     have q0 := cell_of_row _ _ 0 _ _ _ hY7
                     have q1 := cell_of_row _ _ 1 _ _ _ hY7
                     have q2 := cell_of_row _ _ 2 _ _ _ hY7
                     have qf : ∀ j, w7.frozen? ⟨Y, j, none⟩ = false := fun j => frozen_of_row _ _ j _ _ hY7
                     have hs7 : W3.heap.size ≤ w7.heap.size := hgr.size
                     have Own7 := Lib.hid hown7
                     have HY7 := Lib.hid hY7
                     have HR7 := Lib.hid hr7
                     have HT7 := Lib.hid T7
                     have hY7s := blk_lt hY7
                     have hr7s := blk_lt hr7
                     clear hown7 hgr hnil hY7 hr7 T7)
      all_goals
        obtain ⟨w8, hw8⟩ : ∃ z, w7.setCell ⟨Y, 2, none⟩ (.slice vb (n - 1) vd) = z := ⟨_, rfl⟩
        have y8 : w8.heap[Y]? = some (.cells #[.int .i8 wd, .int .i8 hi, .slice vb (n - 1) vd] 30 (0, 0)) := by rw [← hw8]; exact blk_set_same' HY7.out
        have rs_ : w8.heap[w.heap.size + 1 + 1]? = some (.cells #[.int .i8 0, .int .i8 0, .slice none 0 0] 30 (0, 0)) := by rw [← hw8]; exact blk_set HR7.out hYr.symm
        have Own8 := Lib.hid (show w8.ownsRow w2.heap.size 66 5 (.slice vb (n - 1) vd) (n - 1) (flatL (l.eraseIdx i)) by rw [← hw8]; exact owns_set_far Own7.out HY7.out (by decide) 2 _)
        have HT8 := Lib.hid (show Below w.heap.size w w8 by rw [← hw8]; exact kSet HT7.out (by show w.heap.size ≤ Y; omega) _)
        have hs8 : w7.heap.size = w8.heap.size := by rw [← hw8]; simp [World.setCell]
        try rw [hw8]
        clear hw8 q0 q1 q2 qf HY7 HR7 Own7 HT7
        have q0 : w8.cell? ⟨Y, 0, none⟩ = some (.int .i8 wd) := cell_of_row _ _ 0 _ _ _ y8
        have q1 : w8.cell? ⟨Y, 1, none⟩ = some (.int .i8 hi) := cell_of_row _ _ 1 _ _ _ y8
        have q2 : w8.cell? ⟨Y, 2, none⟩ = some (.slice vb (n - 1) vd) := cell_of_row _ _ 2 _ _ _ y8
        have ly8 := blk_lt y8
        have hl8 : (l.eraseIdx i).length = n - 1 := by rw [List.length_eraseIdx_of_lt (by rw [Hn.out]; exact hin), Hn.out]
        go_wp2_with (refine wpList_store_row rfl 30 _ _ rfl (w.heap.size + 1 + 1) #[.int .i8 wd, .int .i8 hi, .slice vb (n - 1) vd] rfl rfl 30 _ rs_ (by kernel_rfl) (by kernel_rfl) (by kernel_rfl) ?_)
        refine bodyPost_ret (v := .tuple #[.agg #[.int .i8 wd, .int .i8 hi, .slice vb (n - 1) vd], .int .i64 0]) (results_cell_tmp rfl _ _ (w.heap.size + 1 + 1) 30 #[.int .i8 wd, .int .i8 hi, .slice vb (n - 1) vd] (0, 0) _ _ rfl rfl (setRow_heap _ _ _ _ _ _ rs_) Try.underlying30 rfl (by kernel_rfl)) rfl ?_
        refine ⟨_, rfl, ?_, kRowW HT8.out (by omega) _⟩
        have hs := SlW.of_owns (l := l.eraseIdx i) (n := n - 1) Own8.out
        exact (hs.row (by omega)).mono (by omega) (by simp [World.setRow])
end Go.Proofs.Ytlmnoopoohdbkaa
