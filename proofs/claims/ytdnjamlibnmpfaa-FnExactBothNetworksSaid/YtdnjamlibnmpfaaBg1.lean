/- BothNetworks: the model, where it tells a code. -/
import Derived.Test.YtdnjamlibnmpfaaBh0
import Derived.Test.YtdnjamlibnmpfaaMgo
namespace Go.Proofs.Ytdnjamlibnmpfaa
open Go.ChangeShapes Go.WideShapes Go.ChangeAt Go.RowKit Go.Joins Go.Deep
set_option linter.unusedVariables false
set_option linter.unusedSimpArgs false
theorem nwo_nil {lo hi : Nat} {w : World} (h : lo ≤ hi) : NwO lo hi w [] [] (.slice none 0 0) (.slice none 0 0) := ⟨.empty _ _ rfl, .empty _ _ rfl⟩
set_option maxRecDepth 100000 in
set_option maxHeartbeats 4000000 in
theorem specBoth_bad (b k b' k' : Nat) (ni nj : Int) (l l' : List Nd) (p p' : List Int) (w : World) (h : NK w b k l p) (h' : NK w b' k' l' p') (h8 : NdsWf l) (h9 : ShsWf p) (h8' : NdsWf l') (h9' : ShsWf p') (bw : i8 ni) (bw' : i8 nj) (m0 : l.length ≤ 1048576) (m1 : p.length ≤ 1048576) (m0' : l'.length ≤ 1048576) (m1' : p'.length ≤ 1048576) (R R' : Bool) (hR : R = netOk ni l p) (hR' : R' = netOk nj l' p') (hb : ¬ (R = true ∧ R' = true)) (Nr : Int) (lr : List Nd) (pr : List Int) (C : Int) (hQ : boQ R R' ni nj l l' p p' = (Nr, lr, pr, C)) :
    Calls Try.prog 7 #[.agg #[.int .i8 ni, .slice (some ⟨b, 0, none⟩) l.length l.length, .slice (some ⟨k, 0, none⟩) p.length p.length], .agg #[.int .i8 nj, .slice (some ⟨b', 0, none⟩) l'.length l'.length, .slice (some ⟨k', 0, none⟩) p'.length p'.length]] w fun e w' => ∃ v u, e = .returned (.tuple #[.agg #[.int .i8 Nr, v, u], .int .i64 C]) ∧ NwO w.heap.size w'.heap.size w' lr pr v u ∧ Below w.heap.size w w' := by
  obtain ⟨W0, hW⟩ : ∃ W0, ((w.alloc (.cells #[.int .i8 ni, .slice (some ⟨b, 0, none⟩) l.length l.length, .slice (some ⟨k, 0, none⟩) p.length p.length] 30)).alloc (.cells #[.int .i8 nj, .slice (some ⟨b', 0, none⟩) l'.length l'.length, .slice (some ⟨k', 0, none⟩) p'.length p'.length] 30)).alloc (.cells #[.int .i8 0, .slice none 0 0, .slice none 0 0] 30) = W0 := ⟨_, rfl⟩
  have k0 : Below w.heap.size w W0 := by rw [← hW]; exact kAlloc (kAlloc (kAlloc (Below.refl _ _) _) _) _
  have hs0 : w.heap.size + 3 ≤ W0.heap.size := by rw [← hW]; simp
  have bX : W0.heap[w.heap.size]? = some (.cells #[.int .i8 ni, .slice (some ⟨b, 0, none⟩) l.length l.length, .slice (some ⟨k, 0, none⟩) p.length p.length] 30 (0, 0)) := by
    rw [← hW]; exact (Below.heap_alloc _ _ _ (by simp; omega)).trans ((Below.heap_alloc _ _ _ (by simp)).trans (heap_alloc_new _ _))
  have bY : W0.heap[w.heap.size + 1]? = some (.cells #[.int .i8 nj, .slice (some ⟨b', 0, none⟩) l'.length l'.length, .slice (some ⟨k', 0, none⟩) p'.length p'.length] 30 (0, 0)) := by
    rw [← hW]; exact (Below.heap_alloc _ _ _ (by simp)).trans (heap_two _ _ _)
  have bR : W0.heap[w.heap.size + 1 + 1]? = some (.cells #[.int .i8 0, .slice none 0 0, .slice none 0 0] 30 (0, 0)) := by
    rw [← hW]
    have h := heap_alloc_new ((w.alloc (.cells #[.int .i8 ni, .slice (some ⟨b, 0, none⟩) l.length l.length, .slice (some ⟨k, 0, none⟩) p.length p.length] 30)).alloc (.cells #[.int .i8 nj, .slice (some ⟨b', 0, none⟩) l'.length l'.length, .slice (some ⟨k', 0, none⟩) p'.length p'.length] 30)) (.cells #[.int .i8 0, .slice none 0 0, .slice none 0 0] 30)
    simpa only [World.size_alloc] using h
  have hnx := NwAt.of bX
  have hny := NwAt.of bY
  have hlx := hnx.lt
  have hly := hny.lt
  have HX := Lib.hid (fun W2 (h2 : Below W0.heap.size W0 W2) => hnx.below h2 hlx)
  have HY := Lib.hid (fun W2 (h2 : Below W0.heap.size W0 W2) => hny.below h2 hly)
  have HBR := Lib.hid (fun W2 (h2 : Below W0.heap.size W0 W2) => blk_below bR h2)
  have HV := Lib.hid (fun W2 (h2 : Below W0.heap.size W0 W2) => l04Ok_any w.heap.size b k ni l p W2 (hnx.below h2 hlx) (h.below (kTrans k0 h2)) h8 h9 bw m0 m1 R hR)
  have HV' := Lib.hid (fun W2 (h2 : Below W0.heap.size W0 W2) => l04Ok_any (w.heap.size + 1) b' k' nj l' p' W2 (hny.below h2 hly) (h'.below (kTrans k0 h2)) h8' h9' bw' m0' m1' R' hR')
  have HK := Lib.hid (fun W2 (h2 : Below W0.heap.size W0 W2) => h.below (kTrans k0 h2))
  have HK' := Lib.hid (fun W2 (h2 : Below W0.heap.size W0 W2) => h'.below (kTrans k0 h2))
  have HK0 := Lib.hid k0
  have HW := Lib.hid hW
  obtain ⟨x0, x1, x2⟩ := hnx
  obtain ⟨y0, y1, y2⟩ := hny
  rw [boQ, if_neg hb] at hQ
  obtain ⟨rfl, rfl, rfl, rfl⟩ := quad_N (show (((0 : Int), ([] : List Nd), ([] : List Int), (1 : Int)) : Int × List Nd × List Int × Int) = (Nr, lr, pr, C) from hQ)
  cases R with
  | false =>
    clear hb
    clear hQ hR hR' h8 h9 h8' h9' h h' hW bX bY bR k0 HX HY HK HK' m0 m1 m0' m1'
    go_enter Try.func7, Try.ntmps7
    go_upto_region 1 with fail
    try rw [HW.out]
    go_wp2_with fail
    refine (HV.out _ (Below.refl _ _)).mono ?_
    rintro e w1 ⟨rfl, hb1⟩
    have hz1 := hb1.size
    clear x0 x1 x2 y0 y1 y2 HV HV' HW
    have rs_ := HBR.out _ hb1
    have HT := Lib.hid (kTrans HK0.out hb1)
    have hz : w.heap.size ≤ (w1.setRow (w.heap.size + 1 + 1) #[.int .i8 0, .slice none 0 0, .slice none 0 0]).heap.size := by have h := blk_lt rs_; simp; omega
    clear HBR
    go_wp2_with (refine wpList_store_row rfl 30 _ _ rfl (w.heap.size + 1 + 1) #[.int .i8 0, .slice none 0 0, .slice none 0 0] rfl rfl 30 _ rs_ (by kernel_rfl) (by kernel_rfl) (by kernel_rfl) ?_)
    refine bodyPost_ret (v := .tuple #[.agg #[.int .i8 0, .slice none 0 0, .slice none 0 0], .int .i64 1]) (results_cell_tmp rfl _ _ (w.heap.size + 1 + 1) 30 #[.int .i8 0, .slice none 0 0, .slice none 0 0] (0, 0) _ _ rfl rfl (setRow_heap _ _ _ _ _ _ rs_) Try.underlying30 rfl (by kernel_rfl)) rfl ?_
    exact ⟨_, _, rfl, nwo_nil hz, kRowW HT.out (by omega) _⟩
  | true =>
    obtain rfl : R' = false := by cases R' with | false => rfl | true => exact absurd ⟨rfl, rfl⟩ hb
    clear hb
    clear hQ hR hR' h8 h9 h8' h9' h h' hW bX bY bR k0 HX HY HK HK' m0 m1 m0' m1'
    go_enter Try.func7, Try.ntmps7
    go_upto_region 1 with fail
    try rw [HW.out]
    go_wp2_with fail
    refine (HV.out _ (Below.refl _ _)).mono ?_
    rintro e w1 ⟨rfl, hb1⟩
    have hz1 := hb1.size
    clear x0 x1 x2 y0 y1 y2
    go_wp2_with fail
    refine (HV'.out _ hb1).mono ?_
    rintro e w2 ⟨rfl, hb2⟩
    have hb3 := kTrans hb1 hb2
    clear HV HV' HW
    have rs_ := HBR.out _ hb3
    have HT := Lib.hid (kTrans HK0.out hb3)
    have hz : w.heap.size ≤ (w2.setRow (w.heap.size + 1 + 1) #[.int .i8 0, .slice none 0 0, .slice none 0 0]).heap.size := by have h := blk_lt rs_; simp; omega
    clear HBR
    go_wp2_with (refine wpList_store_row rfl 30 _ _ rfl (w.heap.size + 1 + 1) #[.int .i8 0, .slice none 0 0, .slice none 0 0] rfl rfl 30 _ rs_ (by kernel_rfl) (by kernel_rfl) (by kernel_rfl) ?_)
    refine bodyPost_ret (v := .tuple #[.agg #[.int .i8 0, .slice none 0 0, .slice none 0 0], .int .i64 1]) (results_cell_tmp rfl _ _ (w.heap.size + 1 + 1) 30 #[.int .i8 0, .slice none 0 0, .slice none 0 0] (0, 0) _ _ rfl rfl (setRow_heap _ _ _ _ _ _ rs_) Try.underlying30 rfl (by kernel_rfl)) rfl ?_
    exact ⟨_, _, rfl, nwo_nil hz, kRowW HT.out (by omega) _⟩
set_option maxRecDepth 100000 in
set_option maxHeartbeats 4000000 in
theorem specBoth_state (b k b' k' : Nat) (ni nj : Int) (l l' : List Nd) (p p' : List Int) (w : World) (h : NK w b k l p) (h' : NK w b' k' l' p') (h8 : NdsWf l) (h9 : ShsWf p) (h8' : NdsWf l') (h9' : ShsWf p') (bw : i8 ni) (bw' : i8 nj) (m0 : l.length ≤ 1048576) (m1 : p.length ≤ 1048576) (m0' : l'.length ≤ 1048576) (m1' : p'.length ≤ 1048576) (R R' : Bool) (hR : R = netOk ni l p) (hR' : R' = netOk nj l' p') (hr : R = true) (hr' : R' = true) (hne : ¬ ni = nj) (Nr : Int) (lr : List Nd) (pr : List Int) (C : Int) (hQ : boQ R R' ni nj l l' p p' = (Nr, lr, pr, C)) :
    Calls Try.prog 7 #[.agg #[.int .i8 ni, .slice (some ⟨b, 0, none⟩) l.length l.length, .slice (some ⟨k, 0, none⟩) p.length p.length], .agg #[.int .i8 nj, .slice (some ⟨b', 0, none⟩) l'.length l'.length, .slice (some ⟨k', 0, none⟩) p'.length p'.length]] w fun e w' => ∃ v u, e = .returned (.tuple #[.agg #[.int .i8 Nr, v, u], .int .i64 C]) ∧ NwO w.heap.size w'.heap.size w' lr pr v u ∧ Below w.heap.size w w' := by
  obtain ⟨W0, hW⟩ : ∃ W0, ((w.alloc (.cells #[.int .i8 ni, .slice (some ⟨b, 0, none⟩) l.length l.length, .slice (some ⟨k, 0, none⟩) p.length p.length] 30)).alloc (.cells #[.int .i8 nj, .slice (some ⟨b', 0, none⟩) l'.length l'.length, .slice (some ⟨k', 0, none⟩) p'.length p'.length] 30)).alloc (.cells #[.int .i8 0, .slice none 0 0, .slice none 0 0] 30) = W0 := ⟨_, rfl⟩
  have k0 : Below w.heap.size w W0 := by rw [← hW]; exact kAlloc (kAlloc (kAlloc (Below.refl _ _) _) _) _
  have hs0 : w.heap.size + 3 ≤ W0.heap.size := by rw [← hW]; simp
  have bX : W0.heap[w.heap.size]? = some (.cells #[.int .i8 ni, .slice (some ⟨b, 0, none⟩) l.length l.length, .slice (some ⟨k, 0, none⟩) p.length p.length] 30 (0, 0)) := by
    rw [← hW]; exact (Below.heap_alloc _ _ _ (by simp; omega)).trans ((Below.heap_alloc _ _ _ (by simp)).trans (heap_alloc_new _ _))
  have bY : W0.heap[w.heap.size + 1]? = some (.cells #[.int .i8 nj, .slice (some ⟨b', 0, none⟩) l'.length l'.length, .slice (some ⟨k', 0, none⟩) p'.length p'.length] 30 (0, 0)) := by
    rw [← hW]; exact (Below.heap_alloc _ _ _ (by simp)).trans (heap_two _ _ _)
  have bR : W0.heap[w.heap.size + 1 + 1]? = some (.cells #[.int .i8 0, .slice none 0 0, .slice none 0 0] 30 (0, 0)) := by
    rw [← hW]
    have h := heap_alloc_new ((w.alloc (.cells #[.int .i8 ni, .slice (some ⟨b, 0, none⟩) l.length l.length, .slice (some ⟨k, 0, none⟩) p.length p.length] 30)).alloc (.cells #[.int .i8 nj, .slice (some ⟨b', 0, none⟩) l'.length l'.length, .slice (some ⟨k', 0, none⟩) p'.length p'.length] 30)) (.cells #[.int .i8 0, .slice none 0 0, .slice none 0 0] 30)
    simpa only [World.size_alloc] using h
  have hnx := NwAt.of bX
  have hny := NwAt.of bY
  have hlx := hnx.lt
  have hly := hny.lt
  have HX := Lib.hid (fun W2 (h2 : Below W0.heap.size W0 W2) => hnx.below h2 hlx)
  have HY := Lib.hid (fun W2 (h2 : Below W0.heap.size W0 W2) => hny.below h2 hly)
  have HBR := Lib.hid (fun W2 (h2 : Below W0.heap.size W0 W2) => blk_below bR h2)
  have HV := Lib.hid (fun W2 (h2 : Below W0.heap.size W0 W2) => l04Ok_any w.heap.size b k ni l p W2 (hnx.below h2 hlx) (h.below (kTrans k0 h2)) h8 h9 bw m0 m1 R hR)
  have HV' := Lib.hid (fun W2 (h2 : Below W0.heap.size W0 W2) => l04Ok_any (w.heap.size + 1) b' k' nj l' p' W2 (hny.below h2 hly) (h'.below (kTrans k0 h2)) h8' h9' bw' m0' m1' R' hR')
  have HK := Lib.hid (fun W2 (h2 : Below W0.heap.size W0 W2) => h.below (kTrans k0 h2))
  have HK' := Lib.hid (fun W2 (h2 : Below W0.heap.size W0 W2) => h'.below (kTrans k0 h2))
  have HK0 := Lib.hid k0
  have HW := Lib.hid hW
  obtain ⟨x0, x1, x2⟩ := hnx
  obtain ⟨y0, y1, y2⟩ := hny
  rw [boQ, if_pos ⟨hr, hr'⟩, if_neg hne] at hQ
  obtain ⟨rfl, rfl, rfl, rfl⟩ := quad_N (show (((0 : Int), ([] : List Nd), ([] : List Int), (4 : Int)) : Int × List Nd × List Int × Int) = (Nr, lr, pr, C) from hQ)
  subst hr hr'
  have e1 : (ni == nj) = false := by simpa using hne
  have e2 : (ni != nj) = true := by simpa using hne
  clear hne
  clear hQ hR hR' h8 h9 h8' h9' h h' hW bX bY bR k0 HK HK' m0 m1 m0' m1'
  go_enter Try.func7, Try.ntmps7
  go_upto_region 1 with fail
  try rw [HW.out]
  go_wp2_with fail
  refine (HV.out _ (Below.refl _ _)).mono ?_
  rintro e w1 ⟨rfl, hb1⟩
  have hz1 := hb1.size
  clear x0 x1 x2 y0 y1 y2
  go_wp2_with fail
  refine (HV'.out _ hb1).mono ?_
  rintro e w2 ⟨rfl, hb2⟩
  have hb3 := kTrans hb1 hb2
  obtain ⟨x0, x1, x2⟩ := HX.out _ hb3
  obtain ⟨y0, y1, y2⟩ := HY.out _ hb3
  have lx3 := Nat.lt_of_lt_of_le hlx hb3.size
  have ly3 := Nat.lt_of_lt_of_le hly hb3.size
  clear HV HV' HW
  have rs_ := HBR.out _ hb3
  have HT := Lib.hid (kTrans HK0.out hb3)
  have hz : w.heap.size ≤ (w2.setRow (w.heap.size + 1 + 1) #[.int .i8 0, .slice none 0 0, .slice none 0 0]).heap.size := by have h := blk_lt rs_; simp; omega
  clear HBR
  go_wp2_with (refine wpList_store_row rfl 30 _ _ rfl (w.heap.size + 1 + 1) #[.int .i8 0, .slice none 0 0, .slice none 0 0] rfl rfl 30 _ rs_ (by kernel_rfl) (by kernel_rfl) (by kernel_rfl) ?_)
  refine bodyPost_ret (v := .tuple #[.agg #[.int .i8 0, .slice none 0 0, .slice none 0 0], .int .i64 4]) (results_cell_tmp rfl _ _ (w.heap.size + 1 + 1) 30 #[.int .i8 0, .slice none 0 0, .slice none 0 0] (0, 0) _ _ rfl rfl (setRow_heap _ _ _ _ _ _ rs_) Try.underlying30 rfl (by kernel_rfl)) rfl ?_
  exact ⟨_, _, rfl, nwo_nil hz, kRowW HT.out (by omega) _⟩
set_option maxRecDepth 100000 in
set_option maxHeartbeats 4000000 in
theorem specBoth_many (b k b' k' : Nat) (ni nj : Int) (l l' : List Nd) (p p' : List Int) (w : World) (h : NK w b k l p) (h' : NK w b' k' l' p') (h8 : NdsWf l) (h9 : ShsWf p) (h8' : NdsWf l') (h9' : ShsWf p') (bw : i8 ni) (bw' : i8 nj) (m0 : l.length ≤ 1048576) (m1 : p.length ≤ 1048576) (m0' : l'.length ≤ 1048576) (m1' : p'.length ≤ 1048576) (R R' : Bool) (hR : R = netOk ni l p) (hR' : R' = netOk nj l' p') (hr : R = true) (hr' : R' = true) (hne : ni = nj) (hm : ¬ l.length + l'.length ≤ 80) (Nr : Int) (lr : List Nd) (pr : List Int) (C : Int) (hQ : boQ R R' ni nj l l' p p' = (Nr, lr, pr, C)) :
    Calls Try.prog 7 #[.agg #[.int .i8 ni, .slice (some ⟨b, 0, none⟩) l.length l.length, .slice (some ⟨k, 0, none⟩) p.length p.length], .agg #[.int .i8 nj, .slice (some ⟨b', 0, none⟩) l'.length l'.length, .slice (some ⟨k', 0, none⟩) p'.length p'.length]] w fun e w' => ∃ v u, e = .returned (.tuple #[.agg #[.int .i8 Nr, v, u], .int .i64 C]) ∧ NwO w.heap.size w'.heap.size w' lr pr v u ∧ Below w.heap.size w w' := by
  have n1 := netOk_parts (show netOk ni l p = true by rw [← hR, hr])
  have n2 := netOk_parts (show netOk nj l' p' = true by rw [← hR', hr'])
  subst hne
  obtain ⟨W0, hW⟩ : ∃ W0, ((w.alloc (.cells #[.int .i8 ni, .slice (some ⟨b, 0, none⟩) l.length l.length, .slice (some ⟨k, 0, none⟩) p.length p.length] 30)).alloc (.cells #[.int .i8 ni, .slice (some ⟨b', 0, none⟩) l'.length l'.length, .slice (some ⟨k', 0, none⟩) p'.length p'.length] 30)).alloc (.cells #[.int .i8 0, .slice none 0 0, .slice none 0 0] 30) = W0 := ⟨_, rfl⟩
  have k0 : Below w.heap.size w W0 := by rw [← hW]; exact kAlloc (kAlloc (kAlloc (Below.refl _ _) _) _) _
  have hs0 : w.heap.size + 3 ≤ W0.heap.size := by rw [← hW]; simp
  have bX : W0.heap[w.heap.size]? = some (.cells #[.int .i8 ni, .slice (some ⟨b, 0, none⟩) l.length l.length, .slice (some ⟨k, 0, none⟩) p.length p.length] 30 (0, 0)) := by
    rw [← hW]; exact (Below.heap_alloc _ _ _ (by simp; omega)).trans ((Below.heap_alloc _ _ _ (by simp)).trans (heap_alloc_new _ _))
  have bY : W0.heap[w.heap.size + 1]? = some (.cells #[.int .i8 ni, .slice (some ⟨b', 0, none⟩) l'.length l'.length, .slice (some ⟨k', 0, none⟩) p'.length p'.length] 30 (0, 0)) := by
    rw [← hW]; exact (Below.heap_alloc _ _ _ (by simp)).trans (heap_two _ _ _)
  have bR : W0.heap[w.heap.size + 1 + 1]? = some (.cells #[.int .i8 0, .slice none 0 0, .slice none 0 0] 30 (0, 0)) := by
    rw [← hW]
    have h := heap_alloc_new ((w.alloc (.cells #[.int .i8 ni, .slice (some ⟨b, 0, none⟩) l.length l.length, .slice (some ⟨k, 0, none⟩) p.length p.length] 30)).alloc (.cells #[.int .i8 ni, .slice (some ⟨b', 0, none⟩) l'.length l'.length, .slice (some ⟨k', 0, none⟩) p'.length p'.length] 30)) (.cells #[.int .i8 0, .slice none 0 0, .slice none 0 0] 30)
    simpa only [World.size_alloc] using h
  have hnx := NwAt.of bX
  have hny := NwAt.of bY
  have hlx := hnx.lt
  have hly := hny.lt
  have HX := Lib.hid (fun W2 (h2 : Below W0.heap.size W0 W2) => hnx.below h2 hlx)
  have HY := Lib.hid (fun W2 (h2 : Below W0.heap.size W0 W2) => hny.below h2 hly)
  have HBR := Lib.hid (fun W2 (h2 : Below W0.heap.size W0 W2) => blk_below bR h2)
  have HV := Lib.hid (fun W2 (h2 : Below W0.heap.size W0 W2) => l04Ok_any w.heap.size b k ni l p W2 (hnx.below h2 hlx) (h.below (kTrans k0 h2)) h8 h9 bw m0 m1 R hR)
  have HV' := Lib.hid (fun W2 (h2 : Below W0.heap.size W0 W2) => l04Ok_any (w.heap.size + 1) b' k' ni l' p' W2 (hny.below h2 hly) (h'.below (kTrans k0 h2)) h8' h9' bw' m0' m1' R' hR')
  have HK := Lib.hid (fun W2 (h2 : Below W0.heap.size W0 W2) => h.below (kTrans k0 h2))
  have HK' := Lib.hid (fun W2 (h2 : Below W0.heap.size W0 W2) => h'.below (kTrans k0 h2))
  have HK0 := Lib.hid k0
  have HW := Lib.hid hW
  obtain ⟨x0, x1, x2⟩ := hnx
  obtain ⟨y0, y1, y2⟩ := hny
  rw [boQ, if_pos ⟨hr, hr'⟩, if_pos rfl, if_neg (by omega)] at hQ
  obtain ⟨rfl, rfl, rfl, rfl⟩ := quad_N (show (((0 : Int), ([] : List Nd), ([] : List Int), (3 : Int)) : Int × List Nd × List Int × Int) = (Nr, lr, pr, C) from hQ)
  subst hr hr'
  have g1 : (l.length : Int) ≤ 80 := by omega
  have g2 : (l'.length : Int) ≤ 80 := by omega
  have g3 : (p.length : Int) ≤ 8 := by omega
  have g4 : (p'.length : Int) ≤ 8 := by omega
  have e3 : (80 : Int) < (l.length : Int) + l'.length := by omega
  clear hm
  clear n1 n2
  clear hQ hR hR' h8 h9 h8' h9' h h' hW bX bY bR k0 HK HK' m0 m1 m0' m1'
  go_enter Try.func7, Try.ntmps7
  go_upto_region 1 with fail
  try rw [HW.out]
  go_wp2_with fail
  refine (HV.out _ (Below.refl _ _)).mono ?_
  rintro e w1 ⟨rfl, hb1⟩
  have hz1 := hb1.size
  clear x0 x1 x2 y0 y1 y2
  go_wp2_with fail
  refine (HV'.out _ hb1).mono ?_
  rintro e w2 ⟨rfl, hb2⟩
  have hb3 := kTrans hb1 hb2
  obtain ⟨x0, x1, x2⟩ := HX.out _ hb3
  obtain ⟨y0, y1, y2⟩ := HY.out _ hb3
  have lx3 := Nat.lt_of_lt_of_le hlx hb3.size
  have ly3 := Nat.lt_of_lt_of_le hly hb3.size
  clear HV HV' HW
  have rs_ := HBR.out _ hb3
  have HT := Lib.hid (kTrans HK0.out hb3)
  have hz : w.heap.size ≤ (w2.setRow (w.heap.size + 1 + 1) #[.int .i8 0, .slice none 0 0, .slice none 0 0]).heap.size := by have h := blk_lt rs_; simp; omega
  clear HBR
  go_wp2_with (refine wpList_store_row rfl 30 _ _ rfl (w.heap.size + 1 + 1) #[.int .i8 0, .slice none 0 0, .slice none 0 0] rfl rfl 30 _ rs_ (by kernel_rfl) (by kernel_rfl) (by kernel_rfl) ?_)
  refine bodyPost_ret (v := .tuple #[.agg #[.int .i8 0, .slice none 0 0, .slice none 0 0], .int .i64 3]) (results_cell_tmp rfl _ _ (w.heap.size + 1 + 1) 30 #[.int .i8 0, .slice none 0 0, .slice none 0 0] (0, 0) _ _ rfl rfl (setRow_heap _ _ _ _ _ _ rs_) Try.underlying30 rfl (by kernel_rfl)) rfl ?_
  exact ⟨_, _, rfl, nwo_nil hz, kRowW HT.out (by omega) _⟩
set_option maxRecDepth 100000 in
set_option maxHeartbeats 4000000 in
theorem specBoth_outs (b k b' k' : Nat) (ni nj : Int) (l l' : List Nd) (p p' : List Int) (w : World) (h : NK w b k l p) (h' : NK w b' k' l' p') (h8 : NdsWf l) (h9 : ShsWf p) (h8' : NdsWf l') (h9' : ShsWf p') (bw : i8 ni) (bw' : i8 nj) (m0 : l.length ≤ 1048576) (m1 : p.length ≤ 1048576) (m0' : l'.length ≤ 1048576) (m1' : p'.length ≤ 1048576) (R R' : Bool) (hR : R = netOk ni l p) (hR' : R' = netOk nj l' p') (hr : R = true) (hr' : R' = true) (hne : ni = nj) (h80 : l.length + l'.length ≤ 80) (hm : ¬ p.length + p'.length ≤ 8) (Nr : Int) (lr : List Nd) (pr : List Int) (C : Int) (hQ : boQ R R' ni nj l l' p p' = (Nr, lr, pr, C)) :
    Calls Try.prog 7 #[.agg #[.int .i8 ni, .slice (some ⟨b, 0, none⟩) l.length l.length, .slice (some ⟨k, 0, none⟩) p.length p.length], .agg #[.int .i8 nj, .slice (some ⟨b', 0, none⟩) l'.length l'.length, .slice (some ⟨k', 0, none⟩) p'.length p'.length]] w fun e w' => ∃ v u, e = .returned (.tuple #[.agg #[.int .i8 Nr, v, u], .int .i64 C]) ∧ NwO w.heap.size w'.heap.size w' lr pr v u ∧ Below w.heap.size w w' := by
  have n1 := netOk_parts (show netOk ni l p = true by rw [← hR, hr])
  have n2 := netOk_parts (show netOk nj l' p' = true by rw [← hR', hr'])
  subst hne
  obtain ⟨W0, hW⟩ : ∃ W0, ((w.alloc (.cells #[.int .i8 ni, .slice (some ⟨b, 0, none⟩) l.length l.length, .slice (some ⟨k, 0, none⟩) p.length p.length] 30)).alloc (.cells #[.int .i8 ni, .slice (some ⟨b', 0, none⟩) l'.length l'.length, .slice (some ⟨k', 0, none⟩) p'.length p'.length] 30)).alloc (.cells #[.int .i8 0, .slice none 0 0, .slice none 0 0] 30) = W0 := ⟨_, rfl⟩
  have k0 : Below w.heap.size w W0 := by rw [← hW]; exact kAlloc (kAlloc (kAlloc (Below.refl _ _) _) _) _
  have hs0 : w.heap.size + 3 ≤ W0.heap.size := by rw [← hW]; simp
  have bX : W0.heap[w.heap.size]? = some (.cells #[.int .i8 ni, .slice (some ⟨b, 0, none⟩) l.length l.length, .slice (some ⟨k, 0, none⟩) p.length p.length] 30 (0, 0)) := by
    rw [← hW]; exact (Below.heap_alloc _ _ _ (by simp; omega)).trans ((Below.heap_alloc _ _ _ (by simp)).trans (heap_alloc_new _ _))
  have bY : W0.heap[w.heap.size + 1]? = some (.cells #[.int .i8 ni, .slice (some ⟨b', 0, none⟩) l'.length l'.length, .slice (some ⟨k', 0, none⟩) p'.length p'.length] 30 (0, 0)) := by
    rw [← hW]; exact (Below.heap_alloc _ _ _ (by simp)).trans (heap_two _ _ _)
  have bR : W0.heap[w.heap.size + 1 + 1]? = some (.cells #[.int .i8 0, .slice none 0 0, .slice none 0 0] 30 (0, 0)) := by
    rw [← hW]
    have h := heap_alloc_new ((w.alloc (.cells #[.int .i8 ni, .slice (some ⟨b, 0, none⟩) l.length l.length, .slice (some ⟨k, 0, none⟩) p.length p.length] 30)).alloc (.cells #[.int .i8 ni, .slice (some ⟨b', 0, none⟩) l'.length l'.length, .slice (some ⟨k', 0, none⟩) p'.length p'.length] 30)) (.cells #[.int .i8 0, .slice none 0 0, .slice none 0 0] 30)
    simpa only [World.size_alloc] using h
  have hnx := NwAt.of bX
  have hny := NwAt.of bY
  have hlx := hnx.lt
  have hly := hny.lt
  have HX := Lib.hid (fun W2 (h2 : Below W0.heap.size W0 W2) => hnx.below h2 hlx)
  have HY := Lib.hid (fun W2 (h2 : Below W0.heap.size W0 W2) => hny.below h2 hly)
  have HBR := Lib.hid (fun W2 (h2 : Below W0.heap.size W0 W2) => blk_below bR h2)
  have HV := Lib.hid (fun W2 (h2 : Below W0.heap.size W0 W2) => l04Ok_any w.heap.size b k ni l p W2 (hnx.below h2 hlx) (h.below (kTrans k0 h2)) h8 h9 bw m0 m1 R hR)
  have HV' := Lib.hid (fun W2 (h2 : Below W0.heap.size W0 W2) => l04Ok_any (w.heap.size + 1) b' k' ni l' p' W2 (hny.below h2 hly) (h'.below (kTrans k0 h2)) h8' h9' bw' m0' m1' R' hR')
  have HK := Lib.hid (fun W2 (h2 : Below W0.heap.size W0 W2) => h.below (kTrans k0 h2))
  have HK' := Lib.hid (fun W2 (h2 : Below W0.heap.size W0 W2) => h'.below (kTrans k0 h2))
  have HK0 := Lib.hid k0
  have HW := Lib.hid hW
  obtain ⟨x0, x1, x2⟩ := hnx
  obtain ⟨y0, y1, y2⟩ := hny
  rw [boQ, if_pos ⟨hr, hr'⟩, if_pos rfl, if_neg (by omega)] at hQ
  obtain ⟨rfl, rfl, rfl, rfl⟩ := quad_N (show (((0 : Int), ([] : List Nd), ([] : List Int), (3 : Int)) : Int × List Nd × List Int × Int) = (Nr, lr, pr, C) from hQ)
  subst hr hr'
  have g1 : (l.length : Int) ≤ 80 := by omega
  have g2 : (l'.length : Int) ≤ 80 := by omega
  have g3 : (p.length : Int) ≤ 8 := by omega
  have g4 : (p'.length : Int) ≤ 8 := by omega
  have e3 : decide ((80 : Int) < (l.length : Int) + l'.length) = false := by simp; omega
  have e3' : ¬ (80 : Int) < (l.length : Int) + l'.length := by omega
  have e4 : (8 : Int) < (p.length : Int) + p'.length := by omega
  clear hm h80
  clear n1 n2
  clear hQ hR hR' h8 h9 h8' h9' h h' hW bX bY bR k0 HK HK' m0 m1 m0' m1'
  go_enter Try.func7, Try.ntmps7
  go_upto_region 1 with fail
  try rw [HW.out]
  go_wp2_with fail
  refine (HV.out _ (Below.refl _ _)).mono ?_
  rintro e w1 ⟨rfl, hb1⟩
  have hz1 := hb1.size
  clear x0 x1 x2 y0 y1 y2
  go_wp2_with fail
  refine (HV'.out _ hb1).mono ?_
  rintro e w2 ⟨rfl, hb2⟩
  have hb3 := kTrans hb1 hb2
  obtain ⟨x0, x1, x2⟩ := HX.out _ hb3
  obtain ⟨y0, y1, y2⟩ := HY.out _ hb3
  have lx3 := Nat.lt_of_lt_of_le hlx hb3.size
  have ly3 := Nat.lt_of_lt_of_le hly hb3.size
  clear HV HV' HW
  have rs_ := HBR.out _ hb3
  have HT := Lib.hid (kTrans HK0.out hb3)
  have hz : w.heap.size ≤ (w2.setRow (w.heap.size + 1 + 1) #[.int .i8 0, .slice none 0 0, .slice none 0 0]).heap.size := by have h := blk_lt rs_; simp; omega
  clear HBR
  go_wp2_with (refine wpList_store_row rfl 30 _ _ rfl (w.heap.size + 1 + 1) #[.int .i8 0, .slice none 0 0, .slice none 0 0] rfl rfl 30 _ rs_ (by kernel_rfl) (by kernel_rfl) (by kernel_rfl) ?_)
  refine bodyPost_ret (v := .tuple #[.agg #[.int .i8 0, .slice none 0 0, .slice none 0 0], .int .i64 3]) (results_cell_tmp rfl _ _ (w.heap.size + 1 + 1) 30 #[.int .i8 0, .slice none 0 0, .slice none 0 0] (0, 0) _ _ rfl rfl (setRow_heap _ _ _ _ _ _ rs_) Try.underlying30 rfl (by kernel_rfl)) rfl ?_
  exact ⟨_, _, rfl, nwo_nil hz, kRowW HT.out (by omega) _⟩
end Go.Proofs.Ytdnjamlibnmpfaa
