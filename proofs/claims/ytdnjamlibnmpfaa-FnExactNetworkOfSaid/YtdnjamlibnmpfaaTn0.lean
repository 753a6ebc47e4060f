/- Lists of nodes and places: relinked, put, itemsAt. -/
import Derived.Test.YtdnjamlibnmpfaaTr0
import Derived.RegionTactic
import Derived.ChangeAlike
import Derived.Deep.RegionLaw
namespace Go.Proofs.Ytdnjamlibnmpfaa
open Go.ChangeShapes Go.WideShapes Go.ChangeAt Go.RowKit Go.Joins Go.Deep
set_option linter.unusedVariables false
set_option linter.unusedSimpArgs false
theorem keep3N {w : World} {O b k g i j q t : Nat} {u v x : Value} (h1 : w.cell? ⟨b, i, none⟩ = some u) (h2 : w.cell? ⟨k, j, none⟩ = some v) (h3 : w.cell? ⟨g, q, none⟩ = some x) (n1 : O ≠ b) (n2 : O ≠ k) (n3 : O ≠ g) :
    (∀ y, (w.setCell ⟨O, t, none⟩ y).cell? ⟨b, i, none⟩ = some u) ∧ (∀ y, (w.setCell ⟨O, t, none⟩ y).cell? ⟨k, j, none⟩ = some v) ∧ (∀ y, (w.setCell ⟨O, t, none⟩ y).cell? ⟨g, q, none⟩ = some x) :=
  ⟨fun y => (World.cell?_setCell_far _ _ _ _ n1).trans h1, fun y => (World.cell?_setCell_far _ _ _ _ n2).trans h2, fun y => (World.cell?_setCell_far _ _ _ _ n3).trans h3⟩
theorem one_setN {w : World} {b : Nat} {u u' : Value} {t : TypeId} (h : w.heap[b]? = some (.cells #[u] t (0, 0))) : (w.setCell ⟨b, 0, none⟩ u').heap[b]? = some (.cells #[u'] t (0, 0)) := by
  have := blk_set_same' (i := 0) (v := u') h
  simpa using this
theorem gate_any (x : Nd) (w : World) (R : Bool) (hR : R = decide (x.kind = 2 ∨ x.kind = 3)) :
    Calls Try.prog 57 #[.agg #[.int .i8 x.kind, .int .i16 x.a, .int .i16 x.b]] w fun e w' => e = .returned (.bool R) ∧ Below w.heap.size w w' := by
  by_cases h2 : x.kind = 2
  · obtain rfl : R = true := by rw [hR]; simp [h2]
    have h2' : (x.kind == 2) = true := by simpa using h2
    clear hR h2
    go_enter Try.func57, Try.ntmps57
    go_wp2
    go_ret
    exact ⟨rfl, by repeat (first | with_reducible exact Below.refl _ _ | (with_reducible refine kSet ?_ ?hB _; case hB => (simp; try omega)) | with_reducible refine kAlloc ?_ _ | with_reducible refine Below.drew ?_ | with_reducible refine kDrewN ?_ _ | with_reducible refine kTrans ?_ (by assumption))⟩
  · by_cases h3 : x.kind = 3
    · obtain rfl : R = true := by rw [hR]; simp [h3]
      have h2' : (x.kind == 2) = false := by simpa using h2
      have h3' : (x.kind == 3) = true := by simpa using h3
      clear hR h2 h3
      go_enter Try.func57, Try.ntmps57
      go_wp2
      go_ret
      exact ⟨rfl, by repeat (first | with_reducible exact Below.refl _ _ | (with_reducible refine kSet ?_ ?hB _; case hB => (simp; try omega)) | with_reducible refine kAlloc ?_ _ | with_reducible refine Below.drew ?_ | with_reducible refine kDrewN ?_ _ | with_reducible refine kTrans ?_ (by assumption))⟩
    · obtain rfl : R = false := by rw [hR]; simp [h2, h3]
      have h2' : (x.kind == 2) = false := by simpa using h2
      have h3' : (x.kind == 3) = false := by simpa using h3
      clear hR
      go_enter Try.func57, Try.ntmps57
      go_wp2
      go_ret
      exact ⟨rfl, by repeat (first | with_reducible exact Below.refl _ _ | (with_reducible refine kSet ?_ ?hB _; case hB => (simp; try omega)) | with_reducible refine kAlloc ?_ _ | with_reducible refine Below.drew ?_ | with_reducible refine kDrewN ?_ _ | with_reducible refine kTrans ?_ (by assumption))⟩
theorem relinked_no (x : Nd) (v : Value) (w : World) (hx : ¬ (x.kind = 2 ∨ x.kind = 3)) :
    Calls Try.prog 26 #[.agg #[.int .i8 x.kind, .int .i16 x.a, .int .i16 x.b], v] w fun e w' => e = .returned (.agg #[.int .i8 x.kind, .int .i16 x.a, .int .i16 x.b]) ∧ Below w.heap.size w w' := by
  have HG := Lib.hid (fun W => gate_any x W false (by simp [hx]))
  obtain ⟨xk, xa, xb⟩ := x
  simp only at HG ⊢
  obtain ⟨W, hW⟩ : ∃ W, (w.alloc (.cells #[.int .i8 xk, .int .i16 xa, .int .i16 xb] 48)).alloc (.cells #[.int .i8 0, .int .i16 0, .int .i16 0] 48) = W := ⟨_, rfl⟩
  have kW : Below w.heap.size w W := by rw [← hW]; exact kAlloc (kAlloc (Below.refl _ _) _) _
  have b0 : W.heap[w.heap.size]? = some (.cells #[.int .i8 xk, .int .i16 xa, .int .i16 xb] 48 (0, 0)) := by rw [← hW]; exact (Below.heap_alloc _ _ _ (by simp)).trans (heap_alloc_new _ _)
  have b1 : W.heap[w.heap.size + 1]? = some (.cells #[.int .i8 0, .int .i16 0, .int .i16 0] 48 (0, 0)) := by rw [← hW]; exact heap_two _ _ _
  have c0 : W.cell? ⟨w.heap.size, 0, none⟩ = some (.int .i8 xk) := cell_of_row _ _ 0 _ _ _ b0
  have c1 : W.cell? ⟨w.heap.size, 1, none⟩ = some (.int .i16 xa) := cell_of_row _ _ 1 _ _ _ b0
  have c2 : W.cell? ⟨w.heap.size, 2, none⟩ = some (.int .i16 xb) := cell_of_row _ _ 2 _ _ _ b0
  have HB0 := Lib.hid b0
  have HB1 := Lib.hid b1
  have HK := Lib.hid kW
  have HW := Lib.hid hW
  have lw := blk_lt b1
  clear hW b0 b1 kW hx
  go_enter Try.func26, Try.ntmps26
  go_upto_region 1 with fail
  try rw [HW.out]
  go_wp2_with fail
  refine (HG.out _).mono ?_
  rintro e w1 ⟨rfl, hb1⟩
  have B0 := blk_below HB0.out hb1
  have B1 := blk_below HB1.out hb1
  have HT := Lib.hid (kTrans HK.out hb1)
  have l1 := blk_lt B1
  clear c0 c1 c2 HB0 HB1 HG hb1 HW HK
  have c0 : w1.cell? ⟨w.heap.size, 0, none⟩ = some (.int .i8 xk) := cell_of_row _ _ 0 _ _ _ B0
  have c1 : w1.cell? ⟨w.heap.size, 1, none⟩ = some (.int .i16 xa) := cell_of_row _ _ 1 _ _ _ B0
  have c2 : w1.cell? ⟨w.heap.size, 2, none⟩ = some (.int .i16 xb) := cell_of_row _ _ 2 _ _ _ B0
  have rs_ := B1
  clear B0 B1
  go_wp2_with (refine wpList_store_row rfl 48 _ _ rfl (w.heap.size + 1) #[.int .i8 xk, .int .i16 xa, .int .i16 xb] rfl rfl 48 _ rs_ (by kernel_rfl) (by kernel_rfl) (by kernel_rfl) ?_)
  refine bodyPost_ret (v := .agg #[.int .i8 xk, .int .i16 xa, .int .i16 xb]) (results_cell_row rfl _ _ (w.heap.size + 1) 48 #[.int .i8 xk, .int .i16 xa, .int .i16 xb] (0, 0) _ rfl (setRow_heap _ _ _ _ _ _ rs_) Try.underlying48 rfl (by kernel_rfl)) rfl ?_
  exact ⟨rfl, kRowW HT.out (by omega) _⟩
set_option maxRecDepth 100000 in
set_option maxHeartbeats 4000000 in
theorem relinked_yes (kd : Int) (a c g N cap : Nat) (P : Nat → Int) (w : World) (hk : kd = 2 ∨ kd = 3) (hS : SRow w g N P) (ha : a < N) (hc : c < N) (hN : N ≤ 1000) (hcap : N ≤ cap) :
    Calls Try.prog 26 #[.agg #[.int .i8 kd, .int .i16 a, .int .i16 c], .slice (some ⟨g, 0, none⟩) N cap] w fun e w' => e = .returned (.agg #[.int .i8 kd, .int .i16 (P a), .int .i16 (P c)]) ∧ Below w.heap.size w w' := by
  have HG := Lib.hid (fun W => gate_any ⟨kd, a, c⟩ W true (by simp [hk]))
  obtain ⟨W, hW⟩ : ∃ W, (w.alloc (.cells #[.int .i8 kd, .int .i16 a, .int .i16 c] 48)).alloc (.cells #[.int .i8 0, .int .i16 0, .int .i16 0] 48) = W := ⟨_, rfl⟩
  have kW : Below w.heap.size w W := by rw [← hW]; exact kAlloc (kAlloc (Below.refl _ _) _) _
  have b0 : W.heap[w.heap.size]? = some (.cells #[.int .i8 kd, .int .i16 a, .int .i16 c] 48 (0, 0)) := by rw [← hW]; exact (Below.heap_alloc _ _ _ (by simp)).trans (heap_alloc_new _ _)
  have b1 : W.heap[w.heap.size + 1]? = some (.cells #[.int .i8 0, .int .i16 0, .int .i16 0] 48 (0, 0)) := by rw [← hW]; exact heap_two _ _ _
  have c0 : W.cell? ⟨w.heap.size, 0, none⟩ = some (.int .i8 kd) := cell_of_row _ _ 0 _ _ _ b0
  have c1 : W.cell? ⟨w.heap.size, 1, none⟩ = some (.int .i16 a) := cell_of_row _ _ 1 _ _ _ b0
  have c2 : W.cell? ⟨w.heap.size, 2, none⟩ = some (.int .i16 c) := cell_of_row _ _ 2 _ _ _ b0
  have HB0 := Lib.hid b0
  have HB1 := Lib.hid b1
  have HK := Lib.hid kW
  have HW := Lib.hid hW
  have lw := blk_lt b1
  have HS := Lib.hid (fun w2 (h2 : Below w.heap.size w w2) => hS.below h2)
  have lg := hS.lt
  clear hW b0 b1 kW hk hS
  go_enter Try.func26, Try.ntmps26
  go_upto_region 1 with fail
  try rw [HW.out]
  go_wp2_with fail
  refine (HG.out _).mono ?_
  rintro e w1 ⟨rfl, hb1⟩
  have B0 := blk_below HB0.out hb1
  have B1 := blk_below HB1.out hb1
  have HT := Lib.hid (kTrans HK.out hb1)
  have l1 := blk_lt B1
  clear c0 c1 c2 HB0 HB1 HG hb1 HW HK
  have c0 : w1.cell? ⟨w.heap.size, 0, none⟩ = some (.int .i8 kd) := cell_of_row _ _ 0 _ _ _ B0
  have c1 : w1.cell? ⟨w.heap.size, 1, none⟩ = some (.int .i16 a) := cell_of_row _ _ 1 _ _ _ B0
  have c2 : w1.cell? ⟨w.heap.size, 2, none⟩ = some (.int .i16 c) := cell_of_row _ _ 2 _ _ _ B0
  have f1 : w1.frozen? ⟨w.heap.size, 1, none⟩ = false := frozen_of_row _ _ 1 _ _ B0
  have f2 : w1.frozen? ⟨w.heap.size, 2, none⟩ = false := frozen_of_row _ _ 2 _ _ B0
  have ca := (HS.out _ HT.out).at_ a ha
  have cc := (HS.out _ HT.out).at_ c hc
  have lg1 := (HS.out _ HT.out).lt
  have HBB0 := Lib.hid B0
  have HBB1 := Lib.hid B1
  clear B0 B1 HS
  go_upto_region 2 with fail
  go_region
  have q0 : (((w1.setCell ⟨w.heap.size, 1, none⟩ (.int .i16 (P a))).setCell ⟨w.heap.size, 2, none⟩ (.int .i16 (P c))).drew).heap[w.heap.size]? = some (.cells #[.int .i8 kd, .int .i16 (P a), .int .i16 (P c)] 48 (0, 0)) := by
    have h := blk_set_same' (i := 2) (v := .int .i16 (P c)) (blk_set_same' (i := 1) (v := .int .i16 (P a)) HBB0.out)
    exact h
  have rs_ : (((w1.setCell ⟨w.heap.size, 1, none⟩ (.int .i16 (P a))).setCell ⟨w.heap.size, 2, none⟩ (.int .i16 (P c))).drew).heap[w.heap.size + 1]? = some (.cells #[.int .i8 0, .int .i16 0, .int .i16 0] 48 (0, 0)) :=
    blk_set (p := ⟨w.heap.size, 2, none⟩) (v := .int .i16 (P c)) (blk_set (p := ⟨w.heap.size, 1, none⟩) (v := .int .i16 (P a)) HBB1.out (show w.heap.size + 1 ≠ w.heap.size by omega)) (show w.heap.size + 1 ≠ w.heap.size by omega)
  have kT : Below w.heap.size w (((w1.setCell ⟨w.heap.size, 1, none⟩ (.int .i16 (P a))).setCell ⟨w.heap.size, 2, none⟩ (.int .i16 (P c))).drew) := Below.drew (kSet (kSet HT.out (p := ⟨w.heap.size, 1, none⟩) (Nat.le_refl _) (.int .i16 (P a))) (p := ⟨w.heap.size, 2, none⟩) (Nat.le_refl _) (.int .i16 (P c)))
  generalize (((w1.setCell ⟨w.heap.size, 1, none⟩ (.int .i16 (P a))).setCell ⟨w.heap.size, 2, none⟩ (.int .i16 (P c))).drew) = w3 at q0 rs_ kT ⊢
  clear c0 c1 c2 f1 f2 ca cc lg1 HBB0 HBB1 HT
  have c0 : w3.cell? ⟨w.heap.size, 0, none⟩ = some (.int .i8 kd) := cell_of_row _ _ 0 _ _ _ q0
  have c1 : w3.cell? ⟨w.heap.size, 1, none⟩ = some (.int .i16 (P a)) := cell_of_row _ _ 1 _ _ _ q0
  have c2 : w3.cell? ⟨w.heap.size, 2, none⟩ = some (.int .i16 (P c)) := cell_of_row _ _ 2 _ _ _ q0
  clear q0
  go_wp2_with (refine wpList_store_row rfl 48 _ _ rfl (w.heap.size + 1) #[.int .i8 kd, .int .i16 (P a), .int .i16 (P c)] rfl rfl 48 _ rs_ (by kernel_rfl) (by kernel_rfl) (by kernel_rfl) ?_)
  refine bodyPost_ret (v := .agg #[.int .i8 kd, .int .i16 (P a), .int .i16 (P c)]) (results_cell_row rfl _ _ (w.heap.size + 1) 48 #[.int .i8 kd, .int .i16 (P a), .int .i16 (P c)] (0, 0) _ rfl (setRow_heap _ _ _ _ _ _ rs_) Try.underlying48 rfl (by kernel_rfl)) rfl ?_
  exact ⟨rfl, kRowW kT (by omega) _⟩
theorem info_NdL : (Try.prog.info? 48).map (fun i => (i.zero, i.size, i.bytes)) = some (some (.agg #[.int .i8 0, .int .i16 0, .int .i16 0]), 3, 6) := by kernel_rfl
set_option maxRecDepth 100000 in
set_option maxHeartbeats 4000000 in
theorem putN_any (P base : Nat) (v : Value) (acc : List Nd) (t : Nd) (w : World) (hP : w.heap[P]? = some (.cells #[v] 52 (0, 0))) (hown : w.ownsRow base 48 3 v acc.length (flatNd acc)) (hPb : P < base) (hbase : base ≤ w.heap.size) (hlen : acc.length ≤ 1000) :
    Calls Try.prog 25 #[.pointer (some ⟨P, 0, none⟩), .agg #[.int .i8 t.kind, .int .i16 t.a, .int .i16 t.b]] w fun e w' => e = .returned (.int .i16 acc.length) ∧
      (∃ v', w'.heap[P]? = some (.cells #[v'] 52 (0, 0)) ∧ w'.ownsRow base 48 3 v' (acc ++ [t]).length (flatNd (acc ++ [t]))) ∧ Below P w w' := by
  obtain ⟨i0, hi0, hz0, hzz1, hzz2⟩ := info_parts info_NdL
  have Hi := Lib.hid hi0
  have Hz0 := Lib.hid hz0
  have Hz1 := Lib.hid hzz1
  have Hz2 := Lib.hid hzz2
  have hPl := blk_lt hP
  obtain ⟨tk, ta, tb⟩ := t
  obtain ⟨va, vc, rfl⟩ := owns_slice hown
  obtain ⟨W, hW⟩ : ∃ W, w.alloc (.cells #[.int .i8 tk, .int .i16 ta, .int .i16 tb] 48) = W := ⟨_, rfl⟩
  have kW : Below w.heap.size w W := by rw [← hW]; exact kAlloc (Below.refl _ _) _
  have bX : W.heap[w.heap.size]? = some (.cells #[.int .i8 tk, .int .i16 ta, .int .i16 tb] 48 (0, 0)) := by rw [← hW]; exact heap_alloc_new _ _
  have hP1 := blk_below hP kW
  have hown1 := owns_below hown kW
  have hblk0 : ∀ k, (Value.slice va acc.length vc).ownBlock = some k → base ≤ k ∧ k < w.heap.size := owns_block hown
  have HK := Lib.hid kW
  have HW := Lib.hid hW
  obtain ⟨X, hX⟩ : ∃ X, w.heap.size = X := ⟨_, rfl⟩
  have HX := Lib.hid (Nat.le_of_eq hX.symm)
  rw [hX] at bX hbase hPl hblk0
  clear hP hown kW hW hi0 hz0 hzz1 hzz2
  have c1 : W.cell? ⟨P, 0, none⟩ = some (.slice va acc.length vc) := cell_of_row _ _ 0 _ _ _ hP1
  have x0 : W.cell? ⟨X, 0, none⟩ = some (.int .i8 tk) := cell_of_row _ _ 0 _ _ _ bX
  have x1 : W.cell? ⟨X, 1, none⟩ = some (.int .i16 ta) := cell_of_row _ _ 1 _ _ _ bX
  have x2 : W.cell? ⟨X, 2, none⟩ = some (.int .i16 tb) := cell_of_row _ _ 2 _ _ _ bX
  have lX := blk_lt bX
  have lP := blk_lt hP1
  have Hown := Lib.hid hown1
  have Hblk := Lib.hid hblk0
  have HP := Lib.hid hP1
  have HBX := Lib.hid bX
  obtain ⟨m, hm⟩ : ∃ m, acc.length = m := ⟨_, rfl⟩
  have Hm := Lib.hid hm
  rw [hm] at Hown Hblk c1 HP hlen ⊢
  clear hP1 hown1 bX hm hblk0
  go_enter Try.func25, Try.ntmps25
  go_upto_region 1 with fail
  try rw [HW.out]
  try rw [hX]
  clear HW hX
  have HD := Lib.hid (show Below W.heap.size W (W.alloc (.cells #[.int .i8 tk, .int .i16 ta, .int .i16 tb] 48)).drew from Below.drew (kAlloc (Below.refl _ _) _))
  have hbX := Nat.le_trans (Nat.le_trans hbase (Nat.le_of_lt lX)) HD.out.size
  have hml : m + 1 ≤ maxLen := by unfold maxLen; omega
  have hmb : (m + 1) * 6 ≤ 140737488355328 := by omega
  go_region_law
    (first
    | (refine step_append_own rfl _ _ 52 rfl base 48 i0 _ 3 6 Try.underlying52 Hi.out Hz0.out Hz1.out Hz2.out rfl (by decide) (.slice va m vc) m (flatNd acc) rfl (owns_below Hown.out HD.out) ⟨W.heap.size, 0, none⟩ 1 1 [.int .i8 tk, .int .i16 ta, .int .i16 tb] rfl rfl (fun j u hu => World.news_of_block (w := (W.alloc (.cells #[.int .i8 tk, .int .i16 ta, .int .i16 tb] 48)).drew) (cs := #[.int .i8 tk, .int .i16 ta, .int .i16 tb]) (heap_alloc_new W _) j u hu) (by simp [Value.oneCell']) hml hmb hbX ?_
       intro v6 w6 hown6 hgr hnil
       have hne : (Value.slice va m vc).ownBlock ≠ some P := fun e => by have := (Hblk.out P e).1; omega
       have HBX6 : w6.heap[X]? = some (.cells #[.int .i8 tk, .int .i16 ta, .int .i16 tb] 48 (0, 0)) := (hgr.block X (Nat.lt_of_lt_of_le lX HD.out.size) (fun e => by have := (Hblk.out X e.symm).2; omega)).trans (blk_below HBX.out HD.out)
       have hP6 : w6.heap[P]? = some (.cells #[.slice va m vc] 52 (0, 0)) := (hgr.block P (Nat.lt_of_lt_of_le lP HD.out.size) (fun e => hne e.symm)).trans (blk_below HP.out HD.out)
       have B6 : Below P W w6 := ((HD.out.mono (Nat.le_of_lt lP)).grown hgr (Nat.le_trans (Nat.le_of_lt lP) HD.out.size) (fun k hk => by have := (Hblk.out k hk).1; omega))
       have Hown6 := Lib.hid (show w6.ownsRow base 48 3 v6 (acc ++ [(⟨tk, ta, tb⟩ : Nd)]).length (flatNd (acc ++ [⟨tk, ta, tb⟩])) by rw [flatNd_end, List.length_append, Hm.out]; exact hown6)
       have f6 : w6.frozen? ⟨P, 0, none⟩ = false := frozen_of_row _ _ 0 _ _ hP6
       have c1 : w6.cell? ⟨P, 0, none⟩ = some (.slice va m vc) := cell_of_row _ _ 0 _ _ _ hP6
       have hl6 := blk_lt hP6
       have x0 : w6.cell? ⟨X, 0, none⟩ = some (.int .i8 tk) := cell_of_row _ _ 0 _ _ _ HBX6
       have x1 : w6.cell? ⟨X, 1, none⟩ = some (.int .i16 ta) := cell_of_row _ _ 1 _ _ _ HBX6
       have x2 : w6.cell? ⟨X, 2, none⟩ = some (.int .i16 tb) := cell_of_row _ _ 2 _ _ _ HBX6
       have HB6 := Lib.hid B6
       have HP6 := Lib.hid hP6
       obtain ⟨ua, uc, rfl⟩ := owns_slice Hown6.out
       have hal : (acc ++ [(⟨tk, ta, tb⟩ : Nd)]).length = m + 1 := by rw [List.length_append, Hm.out]; rfl
       have Hal := Lib.hid hal
       rw [hal] at Hown6 ⊢
       clear hown6 hgr hnil hP6 hne B6 hal HBX6))
  all_goals
    have hm16 : IntKind.i16.wrap (m : Int) = m := IntWalk.i16_in _ (by omega)
    go_wp2
    go_ret
    refine ⟨rfl, ⟨_, one_setN HP6.out, ?_⟩, ?_⟩
    · rw [Hal.out]
      exact owns_set_far (t := 52) Hown6.out HP6.out (by decide) 0 _
    · exact (((HK.out).mono (by have := HX.out; omega)).trans HB6.out).setCell (Nat.le_refl _) _
set_option maxRecDepth 100000 in
set_option maxHeartbeats 4000000 in
theorem itemsS_any (g N vc k q kc : Nat) (P : Nat → Int) (p : List Int) (w : World) (hS : SRow w g N P) (hcap : N ≤ vc) (hp : ShsAt w k 0 p) (hk : k < w.heap.size) (hq : p.length = q) (hN : N ≤ 1000) (hq8 : q ≤ 8) (hr : ∀ x ∈ p, 0 ≤ x ∧ x < N) (L : List Int) (hL : pickP P p = L) :
    Calls Try.prog 28 #[.slice (some ⟨g, 0, none⟩) N vc, .slice (some ⟨k, 0, none⟩) q kc] w fun e w' => ∃ v, e = .returned v ∧ SlWSh w.heap.size w'.heap.size w' L v ∧ Below w.heap.size w w' := by
  obtain ⟨i0, hi, hz0, hz1, hz2⟩ := info_parts info_i16n
  have Hq := Lib.hid hq
  have HR := Lib.hid hr
  have HLt := Lib.hid (show L.length = q by rw [← hL, pickP_length, hq])
  have HLg : Hid (∀ (i : Nat) (h : i < L.length) (h' : i < p.length), L[i] = P (p[i]).toNat) := Lib.hid (by subst hL; exact fun i h h' => by simp [pickP])
  have HS := Lib.hid (fun W (hW : Below w.heap.size w W) => hS.below hW)
  clear hq hr hL hS
  go_enter Try.func28, Try.ntmps28
  go_wp2_with (refine wpList_make_full _ rfl _ _ 24 rfl w.heap.size 46 i0 _ 1 Try.underlying24 hi hz0 hz1 _ _ _ _ q rfl rfl rfl rfl ?c1 ?c2 ?c3 ?_)
  case c1 => rw [hz2]; omega
  case c2 => unfold maxLen; omega
  case c3 => exact Nat.le_refl _
  intro w1 hown hgr
  have hF : FilledSh w1 w.heap.size 0 q L 0 := FilledSh.made (w' := w) (v := .int .i16 0) hown
  have hB : Below w.heap.size w w1 := (Below.refl _ _).grown hgr (Nat.le_refl _) (by intro k hk; cases hk)
  have HF := Lib.hid hF
  clear hown hgr hz0 hz1 hz2 hi i0 hF
  go_wp2
  go_loopw [6, 7, 13] (fun _ _ i wr => ∃ j : Nat, j ≤ q ∧ i = .int .i64 j ∧ Hid (FilledSh wr w.heap.size 0 q L j) ∧ Below w.heap.size w wr) (fun _ _ i _ => q - (intOf i).toNat)
  case atStart => exact ⟨0, by omega, rfl, HF, hB⟩
  case round =>
    clear HF hB
    obtain ⟨j, hj, rfl, hf, hbr⟩ := hrel
    by_cases hlt : j < q
    · have hlk : j < p.length := by rw [Hq.out]; exact hlt
      have hlL : j < L.length := by rw [HLt.out]; exact hlt
      have hpc := (hp.below hbr hk) j hlk
      have hgt := HLg.out j hlL hlk
      have hrr := HR.out _ (List.getElem_mem hlk)
      generalize p[j] = x at hpc hgt hrr
      obtain ⟨kx, rfl⟩ : ∃ kx : Nat, x = kx := ⟨x.toNat, by omega⟩
      have hkN : kx < N := by omega
      rw [Int.toNat_natCast] at hgt
      have ht := (HS.out _ hbr).at_ kx hkN
      have hgl := (HS.out _ hbr).lt
      generalize P kx = y at hgt ht
      simp only [Nat.zero_add] at hpc
      have hbx := hf.out.1
      obtain ⟨v0, d0⟩ := hf.out.2.2.1 j hlt
      have f0 := hf.out.2.2.2 j
      have HF3 := Lib.hid (hf.out.store hlL hgt hlt)
      have HB3 := Lib.hid (kSet hbr (show w.heap.size ≤ (⟨w.heap.size, 0 + j, none⟩ : Addr).block from Nat.le_refl _) (.int .i16 y))
      have hk3 := Nat.lt_of_lt_of_le hk hbr.size
      simp only [Nat.zero_add] at d0 HF3 HB3
      clear hgt hf
      go_wp2
      exact ⟨⟨j + 1, by omega, by go_num, HF3, HB3.out⟩, by simp [intOf]; omega⟩
    · obtain rfl : j = q := by omega
      have H1 : Hid (SlWSh w.heap.size wr.heap.size wr L (.slice (some ⟨w.heap.size, 0, none⟩) j j)) := Lib.hid (by
        have h := SlWSh.mk (lo := w.heap.size) (hi := wr.heap.size) (w := wr) (l := L) w.heap.size 0 j (fun i hi => hf.out.2.1 i hi (by have := HLt.out; omega)) (Nat.le_refl _) hf.out.1 hf.out.1 hf.out.2.2.2 (by rw [HLt.out]; exact Nat.le_refl _)
        rwa [HLt.out] at h)
      clear hf
      go_wp2
      go_ret
      exact ⟨_, rfl, H1.out, hbr⟩
end Go.Proofs.Ytdnjamlibnmpfaa
