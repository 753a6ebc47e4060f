/- NetworkOf, both sides. -/
import Derived.Test.YtdnjamlibnmpfaaNtb
namespace Go.Proofs.Ytdnjamlibnmpfaa
open Go.ChangeShapes Go.WideShapes Go.ChangeAt Go.RowKit Go.Joins Go.Deep
set_option linter.unusedVariables false
set_option linter.unusedSimpArgs false
set_option maxRecDepth 100000 in
set_option maxHeartbeats 4000000 in
theorem implNk_bad (ni t : Int) (w : World) (ht : 0 ≤ t ∧ t ≤ 18446744073709551615) (hR : (decide (1 ≤ ni ∧ ni ≤ 6) && (Go.bits .andNot .u64 t (fullF ni.toNat) == 0)) = false) (Nr : Int) (lr : List Nd) (pr : List Int) (C : Int) (hQ : nkQ false ni.toNat t = (Nr, lr, pr, C)) :
    Calls Try.prog 16 #[.int .i64 ni, .int .u64 t] w fun e w' => ∃ v u, e = .returned (.tuple #[.agg #[.int .i8 Nr, v, u], .int .i64 C]) ∧ NwR w.heap.size w'.heap.size w' lr pr v u ∧ Below w.heap.size w w' := by
  obtain ⟨rfl, rfl, rfl, rfl⟩ := quad_N (show ((0, [], [], 2) : Int × List Nd × List Int × Int) = (Nr, lr, pr, C) from hQ)
  have rs_ : (w.alloc (.cells #[.int .i8 0, .slice none 0 0, .slice none 0 0] 30)).heap[w.heap.size]? = some (.cells #[.int .i8 0, .slice none 0 0, .slice none 0 0] 30 (0, 0)) := heap_alloc_new _ _
  have hz : w.heap.size ≤ ((w.alloc (.cells #[.int .i8 0, .slice none 0 0, .slice none 0 0] 30)).setRow w.heap.size #[.int .i8 0, .slice none 0 0, .slice none 0 0]).heap.size := by simp
  by_cases hi : 1 ≤ ni ∧ ni ≤ 6
  · have hn : (Go.bits .andNot .u64 t (fullF ni.toNat) == 0) = false := by rw [decide_eq_true hi, Bool.true_and] at hR; exact hR
    obtain ⟨n, rfl⟩ : ∃ n : Nat, ni = n := ⟨ni.toNat, by omega⟩
    rw [Int.toNat_natCast] at hn
    have HC := Lib.hid (isInputs_any (n : Int) (w.alloc (.cells #[.int .i8 0, .slice none 0 0, .slice none 0 0] 30)) true (by simp; omega))
    have HF := Lib.hid (allRowsF_any n (w.alloc (.cells #[.int .i8 0, .slice none 0 0, .slice none 0 0] 30)) (by omega))
    obtain ⟨z, hz0⟩ : ∃ z, Go.bits .andNot .u64 t (fullF n) = z := ⟨_, rfl⟩
    rw [hz0] at hn
    have hn2 : (z != 0) = true := by simpa using hn
    have hz0' := hz0
    have q8 : IntKind.i8.wrap (n : Int) = n := IntWalk.i8_in _ (by omega)
    clear hR hQ hi ht
    go_enter Try.func16, Try.ntmps16
    go_wp2_with fail
    refine (HC.out).mono ?_
    rintro e w1 ⟨rfl, rfl⟩
    go_wp2_with fail
    refine (HF.out).mono ?_
    rintro e w1 ⟨rfl, rfl⟩
    clear HC HF
    go_wp2_with (refine wpList_store_row rfl 30 _ _ rfl w.heap.size #[.int .i8 0, .slice none 0 0, .slice none 0 0] rfl rfl 30 _ rs_ (by kernel_rfl) (by kernel_rfl) (by kernel_rfl) ?_)
    refine bodyPost_ret (v := .tuple #[.agg #[.int .i8 0, .slice none 0 0, .slice none 0 0], .int .i64 2]) (results_cell_tmp rfl _ _ w.heap.size 30 #[.int .i8 0, .slice none 0 0, .slice none 0 0] (0, 0) _ _ rfl rfl (setRow_heap _ _ _ _ _ _ rs_) Try.underlying30 rfl (by kernel_rfl)) rfl ?_
    exact ⟨_, _, rfl, nwr_nil hz, kRowW (kAlloc (Below.refl _ _) _) (Nat.le_refl _) _⟩
  · have HC := Lib.hid (isInputs_any ni (w.alloc (.cells #[.int .i8 0, .slice none 0 0, .slice none 0 0] 30)) false (by simp; omega))
    clear hR hQ hi ht
    go_enter Try.func16, Try.ntmps16
    go_wp2_with fail
    refine (HC.out).mono ?_
    rintro e w1 ⟨rfl, rfl⟩
    clear HC
    go_wp2_with (refine wpList_store_row rfl 30 _ _ rfl w.heap.size #[.int .i8 0, .slice none 0 0, .slice none 0 0] rfl rfl 30 _ rs_ (by kernel_rfl) (by kernel_rfl) (by kernel_rfl) ?_)
    refine bodyPost_ret (v := .tuple #[.agg #[.int .i8 0, .slice none 0 0, .slice none 0 0], .int .i64 2]) (results_cell_tmp rfl _ _ w.heap.size 30 #[.int .i8 0, .slice none 0 0, .slice none 0 0] (0, 0) _ _ rfl rfl (setRow_heap _ _ _ _ _ _ rs_) Try.underlying30 rfl (by kernel_rfl)) rfl ?_
    exact ⟨_, _, rfl, nwr_nil hz, kRowW (kAlloc (Below.refl _ _) _) (Nat.le_refl _) _⟩
set_option maxRecDepth 100000 in
set_option maxHeartbeats 8000000 in
theorem implNk_limit (n : Nat) (t : Int) (w : World) (ht : 0 ≤ t ∧ t ≤ 18446744073709551615) (hn : 1 ≤ n ∧ n ≤ 6) (hz : Go.bits .andNot .u64 t (fullF n) = 0) (hL : 80 < (tabT n t []).1.length) (Nr : Int) (lr : List Nd) (pr : List Int) (C : Int) (hQ : nkQ true n t = (Nr, lr, pr, C)) :
    Calls Try.prog 16 #[.int .i64 n, .int .u64 t] w fun e w' => ∃ v u, e = .returned (.tuple #[.agg #[.int .i8 Nr, v, u], .int .i64 C]) ∧ NwR w.heap.size w'.heap.size w' lr pr v u ∧ Below w.heap.size w w' := by
  have htf := andNot_zero (n := n) (by omega) ht.1 ht.2 hz
  obtain ⟨A, r, hAr⟩ : ∃ A r, tabT n t [] = (A, r) := ⟨_, _, rfl⟩
  have hok' := @tab_net n t hn
  have hlt := tabT_len n t []
  rw [nkQ, if_pos rfl] at hQ
  rw [hAr] at hQ hL hok' hlt
  simp only at hL hok' hQ hlt
  have hp64 : 2 ^ n ≤ 64 := (pow6_le hn).2
  obtain ⟨W0, hW⟩ : ∃ W0, (w.alloc (.cells #[.int .i8 0, .slice none 0 0, .slice none 0 0] 30)).alloc (.cells #[.slice none 0 0] 72) = W0 := ⟨_, rfl⟩
  have k0 : Below w.heap.size w W0 := by rw [← hW]; exact kAlloc (kAlloc (Below.refl _ _) _) _
  have bR : W0.heap[w.heap.size]? = some (.cells #[.int .i8 0, .slice none 0 0, .slice none 0 0] 30 (0, 0)) := by rw [← hW]; exact (Below.heap_alloc _ _ _ (by simp)).trans (heap_alloc_new _ _)
  have bB : W0.heap[w.heap.size + 1]? = some (.cells #[.slice none 0 0] 72 (0, 0)) := by rw [← hW]; exact heap_two _ _ _
  have HS0 : Hid (BS W0 (w.heap.size + 1) 72 []) := Lib.hid ⟨_, bB, nilT_owns⟩
  have HTB := Lib.hid (by have h := implTab_any (w.heap.size + 1) n t [] W0 (by omega) ht.1 htf (by simp; omega) HS0.out; rw [hAr] at h; exact h)
  have HC := Lib.hid (isInputs_any (n : Int) (w.alloc (.cells #[.int .i8 0, .slice none 0 0, .slice none 0 0] 30)) true (by simp; omega))
  have HF := Lib.hid (allRowsF_any n (w.alloc (.cells #[.int .i8 0, .slice none 0 0, .slice none 0 0] 30)) (by omega))
  have q8 : IntKind.i8.wrap (n : Int) = n := IntWalk.i8_in _ (by omega)
  have HBR := Lib.hid bR
  have HK0 := Lib.hid k0
  have HW := Lib.hid hW
  have hsz0 := blk_lt bB
  have hn6 : n ≤ 6 := hn.2
  have hz0 := hz
  rw [if_neg (by omega)] at hQ
  obtain ⟨rfl, rfl, rfl, rfl⟩ := quad_N (show ((0, [], [], 3) : Int × List Nd × List Int × Int) = (Nr, lr, pr, C) from hQ)
  clear hQ hok' htf ht hn hlt hp64 hW k0 bR bB HS0 hAr hz
  go_enter Try.func16, Try.ntmps16
  go_wp2_with fail
  refine (HC.out).mono ?_
  rintro e w1 ⟨rfl, rfl⟩
  go_wp2_with fail
  refine (HF.out).mono ?_
  rintro e w1 ⟨rfl, rfl⟩
  clear HC HF
  go_upto_region 4 with fail
  try rw [HW.out]
  clear HW
  obtain ⟨B, hB⟩ : ∃ B, w.heap.size + 1 = B := ⟨_, rfl⟩
  have hWB : w.heap.size + 1 ≤ B := Nat.le_of_eq hB
  rw [hB] at HTB hsz0 ⊢
  clear hB hz0
  go_wp2_with fail
  refine (HTB.out).mono ?_
  rintro e w2 ⟨rfl, hs2, hb2, hk2⟩
  obtain ⟨v2, hx1, hx2⟩ := hs2.ex
  obtain ⟨va2, vc2, rfl⟩ := owns_slice hx2
  have HB2 := Lib.hid (hb2.mono hWB)
  have hsB := blk_lt hx1
  obtain ⟨M, hM⟩ : ∃ M, A.length = M := ⟨_, rfl⟩
  rw [hM] at hx1
  have HM := Lib.hid hM
  have HND := Lib.hid (network_limit B n M vc2 va2 r w2 hx1 (by omega) hn6)
  clear hs2 hb2 hk2 hx1 hx2 hM HTB
  go_wp2_with fail
  refine (HND.out).mono ?_
  rintro e w3 ⟨rfl, hb3⟩
  have HT3 := Lib.hid (HB2.out.trans (hb3.mono (by have h1 := HB2.out.size; omega)))
  have kX := Lib.hid (kAlloc (Below.refl w3.heap.size w3) (.cells #[.int .i8 0, .slice none 0 0, .slice none 0 0] 30))
  have HTX := Lib.hid (HT3.out.trans (kX.out.mono (by have h1 := HT3.out.size; omega)))
  have rs_ := (HTX.out.block w.heap.size (Nat.lt_succ_self _)).trans HBR.out
  have lR := blk_lt rs_
  have hz9 : w.heap.size ≤ ((w3.alloc (.cells #[.int .i8 0, .slice none 0 0, .slice none 0 0] 30)).setRow w.heap.size #[.int .i8 0, .slice none 0 0, .slice none 0 0]).heap.size := by have := blk_lt rs_; simp at *; omega
  clear hb3 HND
  go_wp2_with (refine wpList_store_row rfl 30 _ _ rfl w.heap.size #[.int .i8 0, .slice none 0 0, .slice none 0 0] rfl rfl 30 _ rs_ (by kernel_rfl) (by kernel_rfl) (by kernel_rfl) ?_)
  refine bodyPost_ret (v := .tuple #[.agg #[.int .i8 0, .slice none 0 0, .slice none 0 0], .int .i64 3]) (results_cell_tmp rfl _ _ w.heap.size 30 #[.int .i8 0, .slice none 0 0, .slice none 0 0] (0, 0) _ _ rfl rfl (setRow_heap _ _ _ _ _ _ rs_) Try.underlying30 rfl (by kernel_rfl)) rfl ?_
  exact ⟨_, _, rfl, nwr_nil hz9, kRowW (HK0.out.trans (HTX.out.mono (Nat.le_succ _))) (Nat.le_refl _) _⟩
set_option maxRecDepth 100000 in
set_option maxHeartbeats 8000000 in
theorem implNk_ok (n : Nat) (t : Int) (w : World) (ht : 0 ≤ t ∧ t ≤ 18446744073709551615) (hn : 1 ≤ n ∧ n ≤ 6) (hz : Go.bits .andNot .u64 t (fullF n) = 0) (hL : (tabT n t []).1.length ≤ 80) (Nr : Int) (lr : List Nd) (pr : List Int) (C : Int) (hQ : nkQ true n t = (Nr, lr, pr, C)) :
    Calls Try.prog 16 #[.int .i64 n, .int .u64 t] w fun e w' => ∃ v u, e = .returned (.tuple #[.agg #[.int .i8 Nr, v, u], .int .i64 C]) ∧ NwR w.heap.size w'.heap.size w' lr pr v u ∧ Below w.heap.size w w' := by
  have htf := andNot_zero (n := n) (by omega) ht.1 ht.2 hz
  obtain ⟨A, r, hAr⟩ : ∃ A r, tabT n t [] = (A, r) := ⟨_, _, rfl⟩
  have hok' := @tab_net n t hn
  have hlt := tabT_len n t []
  rw [nkQ, if_pos rfl] at hQ
  rw [hAr] at hQ hL hok' hlt
  simp only at hL hok' hQ hlt
  have hp64 : 2 ^ n ≤ 64 := (pow6_le hn).2
  obtain ⟨W0, hW⟩ : ∃ W0, (w.alloc (.cells #[.int .i8 0, .slice none 0 0, .slice none 0 0] 30)).alloc (.cells #[.slice none 0 0] 72) = W0 := ⟨_, rfl⟩
  have k0 : Below w.heap.size w W0 := by rw [← hW]; exact kAlloc (kAlloc (Below.refl _ _) _) _
  have bR : W0.heap[w.heap.size]? = some (.cells #[.int .i8 0, .slice none 0 0, .slice none 0 0] 30 (0, 0)) := by rw [← hW]; exact (Below.heap_alloc _ _ _ (by simp)).trans (heap_alloc_new _ _)
  have bB : W0.heap[w.heap.size + 1]? = some (.cells #[.slice none 0 0] 72 (0, 0)) := by rw [← hW]; exact heap_two _ _ _
  have HS0 : Hid (BS W0 (w.heap.size + 1) 72 []) := Lib.hid ⟨_, bB, nilT_owns⟩
  have HTB := Lib.hid (by have h := implTab_any (w.heap.size + 1) n t [] W0 (by omega) ht.1 htf (by simp; omega) HS0.out; rw [hAr] at h; exact h)
  have HC := Lib.hid (isInputs_any (n : Int) (w.alloc (.cells #[.int .i8 0, .slice none 0 0, .slice none 0 0] 30)) true (by simp; omega))
  have HF := Lib.hid (allRowsF_any n (w.alloc (.cells #[.int .i8 0, .slice none 0 0, .slice none 0 0] 30)) (by omega))
  have q8 : IntKind.i8.wrap (n : Int) = n := IntWalk.i8_in _ (by omega)
  have HBR := Lib.hid bR
  have HK0 := Lib.hid k0
  have HW := Lib.hid hW
  have hsz0 := blk_lt bB
  have hn6 : n ≤ 6 := hn.2
  have hz0 := hz
  have hok := hok' hL
  obtain ⟨P, K, hPK⟩ : ∃ P K, simT n A [r] = (P, K) := ⟨_, _, rfl⟩
  rw [if_pos hL, hPK] at hQ
  obtain ⟨rfl, rfl, rfl, rfl⟩ := quad_N (show (((n : Int), P, K, 0) : Int × List Nd × List Int × Int) = (Nr, lr, pr, C) from hQ)
  have hacc := (netOk_parts hok).2.1
  have HSIM := Lib.hid (fun g1 g2 c1 c2 W (hn : NK W g1 g2 A [r]) => simplified_any g1 g2 n c1 c2 A [r] W hn hok (P, K) hPK)
  clear hok hPK
  clear hQ hok' htf ht hn hlt hp64 hW k0 bR bB HS0 hAr hz
  go_enter Try.func16, Try.ntmps16
  go_wp2_with fail
  refine (HC.out).mono ?_
  rintro e w1 ⟨rfl, rfl⟩
  go_wp2_with fail
  refine (HF.out).mono ?_
  rintro e w1 ⟨rfl, rfl⟩
  clear HC HF
  go_upto_region 4 with fail
  try rw [HW.out]
  clear HW
  obtain ⟨B, hB⟩ : ∃ B, w.heap.size + 1 = B := ⟨_, rfl⟩
  have hWB : w.heap.size + 1 ≤ B := Nat.le_of_eq hB
  rw [hB] at HTB hsz0 ⊢
  clear hB hz0
  go_wp2_with fail
  refine (HTB.out).mono ?_
  rintro e w2 ⟨rfl, hs2, hb2, hk2⟩
  obtain ⟨v2, hx1, hx2⟩ := hs2.ex
  obtain ⟨g1, c1, rfl, hNd, hz1⟩ := nd_row hx2 hacc.1
  have HB2 := Lib.hid (hb2.mono hWB)
  have hsB := blk_lt hx1
  obtain ⟨M, hM⟩ : ∃ M, A.length = M := ⟨_, rfl⟩
  rw [hM] at hx1
  have HM := Lib.hid hM
  have HND := Lib.hid (network_ok B n M c1 (some ⟨g1, 0, none⟩) r w2 hx1 (by omega) hn6)
  have HN2 := Lib.hid hNd
  clear hs2 hb2 hk2 hx1 hx2 hM HTB hNd
  go_wp2_with fail
  refine (HND.out).mono ?_
  rintro e w3 ⟨g2, rfl, hS3, hz2, -, -, hb3⟩
  have HT3 := Lib.hid (HB2.out.trans (hb3.mono (by have h1 := HB2.out.size; omega)))
  have HNK := Lib.hid (show NK w3 g1 g2 A [r] from ⟨HN2.out.below hb3 hz1, hS3, Nat.lt_of_lt_of_le hz1 hb3.size, hz2⟩)
  obtain ⟨wX, hwX⟩ : ∃ z, w3.alloc (.cells #[.int .i8 n, .slice (some ⟨g1, 0, none⟩) M c1, .slice (some ⟨g2, 0, none⟩) 1 1] 30) = z := ⟨_, rfl⟩
  have kX : Below w3.heap.size w3 wX := by rw [← hwX]; exact kAlloc (Below.refl _ _) _
  have bM : wX.heap[w3.heap.size]? = some (.cells #[.int .i8 n, .slice (some ⟨g1, 0, none⟩) M c1, .slice (some ⟨g2, 0, none⟩) 1 1] 30 (0, 0)) := by rw [← hwX]; exact nNew _ _
  have hnx := NwAt.of bM
  have HTC := Lib.hid (by have h := HSIM.out g1 g2 c1 1 wX (HNK.out.below kX); rw [HM.out] at h; exact h)
  have HTX := Lib.hid (HT3.out.trans (kX.mono (by have h1 := HT3.out.size; omega)))
  have rs0 := (HTX.out.block w.heap.size (Nat.lt_succ_self _)).trans HBR.out
  have HRS := Lib.hid rs0
  have lR := blk_lt rs0
  have HwX := Lib.hid hwX
  have HBM := Lib.hid bM
  clear hwX kX bM hnx rs0 hb3 HND HNK HSIM HB2
  go_upto_region 6 with fail
  try rw [HwX.out]
  obtain ⟨z0, z1, z2⟩ := NwAt.of HBM.out
  have lz := blk_lt HBM.out
  clear HwX
  go_wp2_with fail
  refine (HTC.out).mono ?_
  rintro e w9 ⟨v, u, rfl, hn9, hb9⟩
  obtain ⟨va9, vc9, ua9, uc9, rfl, rfl⟩ := hn9.form
  have rs_ := blk_below HRS.out hb9
  have HTT := Lib.hid (HTX.out.trans (hb9.mono (Nat.succ_le_of_lt lR)))
  have HNW := Lib.hid ((hn9.out (keptRowN (g := w.heap.size) (cs := #[.int .i8 n, .slice va9 P.length vc9, .slice ua9 K.length uc9])) (.inr (by omega))).mono (show w.heap.size ≤ wX.heap.size by omega) (show w9.heap.size ≤ (w9.setRow w.heap.size #[.int .i8 n, .slice va9 P.length vc9, .slice ua9 K.length uc9]).heap.size by simp))
  clear z0 z1 z2 lz hn9 hb9 HTC
  go_wp2_with (refine wpList_store_row rfl 30 _ _ rfl w.heap.size #[.int .i8 n, .slice va9 P.length vc9, .slice ua9 K.length uc9] rfl rfl 30 _ rs_ (by kernel_rfl) (by kernel_rfl) (by kernel_rfl) ?_)
  refine bodyPost_ret (v := .tuple #[.agg #[.int .i8 n, .slice va9 P.length vc9, .slice ua9 K.length uc9], .int .i64 0]) (results_cell_tmp rfl _ _ w.heap.size 30 #[.int .i8 n, .slice va9 P.length vc9, .slice ua9 K.length uc9] (0, 0) _ _ rfl rfl (setRow_heap _ _ _ _ _ _ rs_) Try.underlying30 rfl (by kernel_rfl)) rfl ?_
  exact ⟨_, _, rfl, HNW.out, kRowW (HK0.out.trans (HTT.out.mono (Nat.le_succ _))) (Nat.le_refl _) _⟩
theorem implNetworkOf_any (ni t : Int) (w : World) (ht : 0 ≤ t ∧ t ≤ 18446744073709551615) (R : Bool) (hR : R = (decide (1 ≤ ni ∧ ni ≤ 6) && (Go.bits .andNot .u64 t (fullF ni.toNat) == 0))) (Nr : Int) (lr : List Nd) (pr : List Int) (C : Int) (hQ : nkQ R ni.toNat t = (Nr, lr, pr, C)) :
    Calls Try.prog 16 #[.int .i64 ni, .int .u64 t] w fun e w' => ∃ v u, e = .returned (.tuple #[.agg #[.int .i8 Nr, v, u], .int .i64 C]) ∧ NwR w.heap.size w'.heap.size w' lr pr v u ∧ Below w.heap.size w w' := by
  cases R with
  | false => exact implNk_bad ni t w ht hR.symm Nr lr pr C hQ
  | true =>
    have h := hR.symm
    rw [Bool.and_eq_true] at h
    have hn := of_decide_eq_true h.1
    obtain ⟨n, rfl⟩ : ∃ n : Nat, ni = n := ⟨ni.toNat, by omega⟩
    rw [Int.toNat_natCast] at hQ h
    have hz : Go.bits .andNot .u64 t (fullF n) = 0 := by simpa using h.2
    by_cases hL : (tabT n t []).1.length ≤ 80
    · exact implNk_ok n t w ht (by omega) hz hL Nr lr pr C hQ
    · exact implNk_limit n t w ht (by omega) hz (by omega) Nr lr pr C hQ
set_option maxRecDepth 100000 in
set_option maxHeartbeats 4000000 in
theorem specNk_bad (ni t : Int) (w : World) (ht : 0 ≤ t ∧ t ≤ 18446744073709551615) (hR : (decide (1 ≤ ni ∧ ni ≤ 6) && (Go.bits .andNot .u64 t (fullF ni.toNat) == 0)) = false) (Nr : Int) (lr : List Nd) (pr : List Int) (C : Int) (hQ : nkQ false ni.toNat t = (Nr, lr, pr, C)) :
    Calls Try.prog 15 #[.int .i64 ni, .int .u64 t] w fun e w' => ∃ v u, e = .returned (.tuple #[.agg #[.int .i8 Nr, v, u], .int .i64 C]) ∧ NwR w.heap.size w'.heap.size w' lr pr v u ∧ Below w.heap.size w w' := by
  obtain ⟨rfl, rfl, rfl, rfl⟩ := quad_N (show ((0, [], [], 2) : Int × List Nd × List Int × Int) = (Nr, lr, pr, C) from hQ)
  have rs_ : (w.alloc (.cells #[.int .i8 0, .slice none 0 0, .slice none 0 0] 30)).heap[w.heap.size]? = some (.cells #[.int .i8 0, .slice none 0 0, .slice none 0 0] 30 (0, 0)) := heap_alloc_new _ _
  have hz : w.heap.size ≤ ((w.alloc (.cells #[.int .i8 0, .slice none 0 0, .slice none 0 0] 30)).setRow w.heap.size #[.int .i8 0, .slice none 0 0, .slice none 0 0]).heap.size := by simp
  by_cases hi : 1 ≤ ni ∧ ni ≤ 6
  · have hn : (Go.bits .andNot .u64 t (fullF ni.toNat) == 0) = false := by rw [decide_eq_true hi, Bool.true_and] at hR; exact hR
    obtain ⟨n, rfl⟩ : ∃ n : Nat, ni = n := ⟨ni.toNat, by omega⟩
    rw [Int.toNat_natCast] at hn
    have HC := Lib.hid (l00In_any (n : Int) 1 6 (w.alloc (.cells #[.int .i8 0, .slice none 0 0, .slice none 0 0] 30)) true (by simp; omega))
    have HF := Lib.hid (l04FullF_any n (w.alloc (.cells #[.int .i8 0, .slice none 0 0, .slice none 0 0] 30)) (by omega))
    obtain ⟨z, hz0⟩ : ∃ z, Go.bits .andNot .u64 t (fullF n) = z := ⟨_, rfl⟩
    rw [hz0] at hn
    have hn2 : (z != 0) = true := by simpa using hn
    have hz0' := hz0
    clear hR hQ hi ht
    go_enter Try.func15, Try.ntmps15
    go_wp2_with fail
    refine (HC.out).mono ?_
    rintro e w1 ⟨rfl, rfl⟩
    go_wp2_with fail
    refine (HF.out).mono ?_
    rintro e w1 ⟨rfl, rfl⟩
    clear HC HF
    go_wp2_with (refine wpList_store_row rfl 30 _ _ rfl w.heap.size #[.int .i8 0, .slice none 0 0, .slice none 0 0] rfl rfl 30 _ rs_ (by kernel_rfl) (by kernel_rfl) (by kernel_rfl) ?_)
    refine bodyPost_ret (v := .tuple #[.agg #[.int .i8 0, .slice none 0 0, .slice none 0 0], .int .i64 2]) (results_cell_tmp rfl _ _ w.heap.size 30 #[.int .i8 0, .slice none 0 0, .slice none 0 0] (0, 0) _ _ rfl rfl (setRow_heap _ _ _ _ _ _ rs_) Try.underlying30 rfl (by kernel_rfl)) rfl ?_
    exact ⟨_, _, rfl, nwr_nil hz, kRowW (kAlloc (Below.refl _ _) _) (Nat.le_refl _) _⟩
  · have HC := Lib.hid (l00In_any ni 1 6 (w.alloc (.cells #[.int .i8 0, .slice none 0 0, .slice none 0 0] 30)) false (by simp; omega))
    clear hR hQ hi ht
    go_enter Try.func15, Try.ntmps15
    go_wp2_with fail
    refine (HC.out).mono ?_
    rintro e w1 ⟨rfl, rfl⟩
    clear HC
    go_wp2_with (refine wpList_store_row rfl 30 _ _ rfl w.heap.size #[.int .i8 0, .slice none 0 0, .slice none 0 0] rfl rfl 30 _ rs_ (by kernel_rfl) (by kernel_rfl) (by kernel_rfl) ?_)
    refine bodyPost_ret (v := .tuple #[.agg #[.int .i8 0, .slice none 0 0, .slice none 0 0], .int .i64 2]) (results_cell_tmp rfl _ _ w.heap.size 30 #[.int .i8 0, .slice none 0 0, .slice none 0 0] (0, 0) _ _ rfl rfl (setRow_heap _ _ _ _ _ _ rs_) Try.underlying30 rfl (by kernel_rfl)) rfl ?_
    exact ⟨_, _, rfl, nwr_nil hz, kRowW (kAlloc (Below.refl _ _) _) (Nat.le_refl _) _⟩
set_option maxRecDepth 100000 in
set_option maxHeartbeats 8000000 in
theorem specNk_limit (n : Nat) (t : Int) (w : World) (ht : 0 ≤ t ∧ t ≤ 18446744073709551615) (hn : 1 ≤ n ∧ n ≤ 6) (hz : Go.bits .andNot .u64 t (fullF n) = 0) (hL : 80 < (tabT n t []).1.length) (Nr : Int) (lr : List Nd) (pr : List Int) (C : Int) (hQ : nkQ true n t = (Nr, lr, pr, C)) :
    Calls Try.prog 15 #[.int .i64 n, .int .u64 t] w fun e w' => ∃ v u, e = .returned (.tuple #[.agg #[.int .i8 Nr, v, u], .int .i64 C]) ∧ NwR w.heap.size w'.heap.size w' lr pr v u ∧ Below w.heap.size w w' := by
  have htf := andNot_zero (n := n) (by omega) ht.1 ht.2 hz
  obtain ⟨A, r, hAr⟩ : ∃ A r, tabT n t [] = (A, r) := ⟨_, _, rfl⟩
  have hok' := @tab_net n t hn
  have hlt := tabT_len n t []
  rw [nkQ, if_pos rfl] at hQ
  rw [hAr] at hQ hL hok' hlt
  simp only at hL hok' hQ hlt
  have hp64 : 2 ^ n ≤ 64 := (pow6_le hn).2
  obtain ⟨W0, hW⟩ : ∃ W0, (w.alloc (.cells #[.int .i8 0, .slice none 0 0, .slice none 0 0] 30)).alloc (.cells #[.slice none 0 0] 66) = W0 := ⟨_, rfl⟩
  have k0 : Below w.heap.size w W0 := by rw [← hW]; exact kAlloc (kAlloc (Below.refl _ _) _) _
  have bR : W0.heap[w.heap.size]? = some (.cells #[.int .i8 0, .slice none 0 0, .slice none 0 0] 30 (0, 0)) := by rw [← hW]; exact (Below.heap_alloc _ _ _ (by simp)).trans (heap_alloc_new _ _)
  have bB : W0.heap[w.heap.size + 1]? = some (.cells #[.slice none 0 0] 66 (0, 0)) := by rw [← hW]; exact heap_two _ _ _
  have HS0 : Hid (BS W0 (w.heap.size + 1) 66 []) := Lib.hid ⟨_, bB, nilT_owns⟩
  have HTB := Lib.hid (by have h := specTab_any (w.heap.size + 1) n t [] W0 (by omega) ht.1 htf (by simp; omega) HS0.out; rw [hAr] at h; exact h)
  have HC := Lib.hid (l00In_any (n : Int) 1 6 (w.alloc (.cells #[.int .i8 0, .slice none 0 0, .slice none 0 0] 30)) true (by simp; omega))
  have HF := Lib.hid (l04FullF_any n (w.alloc (.cells #[.int .i8 0, .slice none 0 0, .slice none 0 0] 30)) (by omega))
  have q8 : IntKind.i8.wrap (n : Int) = n := IntWalk.i8_in _ (by omega)
  have HBR := Lib.hid bR
  have HK0 := Lib.hid k0
  have HW := Lib.hid hW
  have hsz0 := blk_lt bB
  have hn6 : n ≤ 6 := hn.2
  have hz0 := hz
  rw [if_neg (by omega)] at hQ
  obtain ⟨rfl, rfl, rfl, rfl⟩ := quad_N (show ((0, [], [], 3) : Int × List Nd × List Int × Int) = (Nr, lr, pr, C) from hQ)
  clear hQ hok' htf ht hn hlt hp64 hW k0 bR bB HS0 hAr hz
  go_enter Try.func15, Try.ntmps15
  go_wp2_with fail
  refine (HC.out).mono ?_
  rintro e w1 ⟨rfl, rfl⟩
  go_wp2_with fail
  refine (HF.out).mono ?_
  rintro e w1 ⟨rfl, rfl⟩
  clear HC HF
  go_upto_region 4 with fail
  try rw [HW.out]
  clear HW
  obtain ⟨B, hB⟩ : ∃ B, w.heap.size + 1 = B := ⟨_, rfl⟩
  have hWB : w.heap.size + 1 ≤ B := Nat.le_of_eq hB
  rw [hB] at HTB hsz0 ⊢
  clear hB hz0
  go_wp2_with fail
  refine (HTB.out).mono ?_
  rintro e w2 ⟨rfl, hs2, hb2, hk2⟩
  obtain ⟨v2, hx1, hx2⟩ := hs2.ex
  obtain ⟨va2, vc2, rfl⟩ := owns_slice hx2
  have HB2 := Lib.hid (hb2.mono hWB)
  have hsB := blk_lt hx1
  obtain ⟨M, hM⟩ : ∃ M, A.length = M := ⟨_, rfl⟩
  rw [hM] at hx1
  have HM := Lib.hid hM
  obtain ⟨w2a, hwa⟩ : ∃ z, w2.alloc (.cells #[.int .i16 r] 46) = z := ⟨_, rfl⟩
  have ka : Below w2.heap.size w2 w2a := by rw [← hwa]; exact kAlloc (Below.refl _ _) _
  have ba : w2a.heap[w2.heap.size]? = some (.cells #[.int .i16 r] 46 (0, 0)) := by rw [← hwa]; exact nNew _ _
  have HND := Lib.hid (made_limit B n M 1 vc2 1 va2 (some ⟨w2.heap.size, 0, none⟩) w2a (blk_below hx1 ka) (by omega) hn6)
  have HBa := Lib.hid (HB2.out.trans (ka.mono (by have h1 := HB2.out.size; omega)))
  have Hwa := Lib.hid hwa
  clear hs2 hb2 hk2 hx1 hx2 hM HTB hwa ka ba
  go_wp2_with fail
  rw [Hwa.out]
  refine (HND.out).mono ?_
  rintro e w3 ⟨rfl, hb3⟩
  have HT3 := Lib.hid (HBa.out.trans (hb3.mono (by have h1 := HBa.out.size; omega)))
  have kX := Lib.hid (kAlloc (Below.refl w3.heap.size w3) (.cells #[.int .i8 0, .slice none 0 0, .slice none 0 0] 30))
  have HTX := Lib.hid (HT3.out.trans (kX.out.mono (by have h1 := HT3.out.size; omega)))
  have rs_ := (HTX.out.block w.heap.size (Nat.lt_succ_self _)).trans HBR.out
  have lR := blk_lt rs_
  have hz9 : w.heap.size ≤ ((w3.alloc (.cells #[.int .i8 0, .slice none 0 0, .slice none 0 0] 30)).setRow w.heap.size #[.int .i8 0, .slice none 0 0, .slice none 0 0]).heap.size := by have := blk_lt rs_; simp at *; omega
  clear hb3 HND
  go_wp2_with (refine wpList_store_row rfl 30 _ _ rfl w.heap.size #[.int .i8 0, .slice none 0 0, .slice none 0 0] rfl rfl 30 _ rs_ (by kernel_rfl) (by kernel_rfl) (by kernel_rfl) ?_)
  refine bodyPost_ret (v := .tuple #[.agg #[.int .i8 0, .slice none 0 0, .slice none 0 0], .int .i64 3]) (results_cell_tmp rfl _ _ w.heap.size 30 #[.int .i8 0, .slice none 0 0, .slice none 0 0] (0, 0) _ _ rfl rfl (setRow_heap _ _ _ _ _ _ rs_) Try.underlying30 rfl (by kernel_rfl)) rfl ?_
  exact ⟨_, _, rfl, nwr_nil hz9, kRowW (HK0.out.trans (HTX.out.mono (Nat.le_succ _))) (Nat.le_refl _) _⟩
set_option maxRecDepth 100000 in
set_option maxHeartbeats 8000000 in
theorem specNk_ok (n : Nat) (t : Int) (w : World) (ht : 0 ≤ t ∧ t ≤ 18446744073709551615) (hn : 1 ≤ n ∧ n ≤ 6) (hz : Go.bits .andNot .u64 t (fullF n) = 0) (hL : (tabT n t []).1.length ≤ 80) (Nr : Int) (lr : List Nd) (pr : List Int) (C : Int) (hQ : nkQ true n t = (Nr, lr, pr, C)) :
    Calls Try.prog 15 #[.int .i64 n, .int .u64 t] w fun e w' => ∃ v u, e = .returned (.tuple #[.agg #[.int .i8 Nr, v, u], .int .i64 C]) ∧ NwR w.heap.size w'.heap.size w' lr pr v u ∧ Below w.heap.size w w' := by
  have htf := andNot_zero (n := n) (by omega) ht.1 ht.2 hz
  obtain ⟨A, r, hAr⟩ : ∃ A r, tabT n t [] = (A, r) := ⟨_, _, rfl⟩
  have hok' := @tab_net n t hn
  have hlt := tabT_len n t []
  rw [nkQ, if_pos rfl] at hQ
  rw [hAr] at hQ hL hok' hlt
  simp only at hL hok' hQ hlt
  have hp64 : 2 ^ n ≤ 64 := (pow6_le hn).2
  obtain ⟨W0, hW⟩ : ∃ W0, (w.alloc (.cells #[.int .i8 0, .slice none 0 0, .slice none 0 0] 30)).alloc (.cells #[.slice none 0 0] 66) = W0 := ⟨_, rfl⟩
  have k0 : Below w.heap.size w W0 := by rw [← hW]; exact kAlloc (kAlloc (Below.refl _ _) _) _
  have bR : W0.heap[w.heap.size]? = some (.cells #[.int .i8 0, .slice none 0 0, .slice none 0 0] 30 (0, 0)) := by rw [← hW]; exact (Below.heap_alloc _ _ _ (by simp)).trans (heap_alloc_new _ _)
  have bB : W0.heap[w.heap.size + 1]? = some (.cells #[.slice none 0 0] 66 (0, 0)) := by rw [← hW]; exact heap_two _ _ _
  have HS0 : Hid (BS W0 (w.heap.size + 1) 66 []) := Lib.hid ⟨_, bB, nilT_owns⟩
  have HTB := Lib.hid (by have h := specTab_any (w.heap.size + 1) n t [] W0 (by omega) ht.1 htf (by simp; omega) HS0.out; rw [hAr] at h; exact h)
  have HC := Lib.hid (l00In_any (n : Int) 1 6 (w.alloc (.cells #[.int .i8 0, .slice none 0 0, .slice none 0 0] 30)) true (by simp; omega))
  have HF := Lib.hid (l04FullF_any n (w.alloc (.cells #[.int .i8 0, .slice none 0 0, .slice none 0 0] 30)) (by omega))
  have q8 : IntKind.i8.wrap (n : Int) = n := IntWalk.i8_in _ (by omega)
  have HBR := Lib.hid bR
  have HK0 := Lib.hid k0
  have HW := Lib.hid hW
  have hsz0 := blk_lt bB
  have hn6 : n ≤ 6 := hn.2
  have hz0 := hz
  have hok := hok' hL
  obtain ⟨P, K, hPK⟩ : ∃ P K, simT n A [r] = (P, K) := ⟨_, _, rfl⟩
  rw [if_pos hL, hPK] at hQ
  obtain ⟨rfl, rfl, rfl, rfl⟩ := quad_N (show (((n : Int), P, K, 0) : Int × List Nd × List Int × Int) = (Nr, lr, pr, C) from hQ)
  have hacc := (netOk_parts hok).2.1
  have HSIM := Lib.hid (fun bb g1 g2 c1 c2 W (h0 : NwAt W bb n (.slice (some ⟨g1, 0, none⟩) A.length c1) (.slice (some ⟨g2, 0, none⟩) [r].length c2)) (hn : NK W g1 g2 A [r]) => l04Simplify_anyC n bb g1 g2 c1 c2 A [r] W h0 hn hok (P, K) hPK)
  clear hok hPK
  clear hQ hok' htf ht hn hlt hp64 hW k0 bR bB HS0 hAr hz
  go_enter Try.func15, Try.ntmps15
  go_wp2_with fail
  refine (HC.out).mono ?_
  rintro e w1 ⟨rfl, rfl⟩
  go_wp2_with fail
  refine (HF.out).mono ?_
  rintro e w1 ⟨rfl, rfl⟩
  clear HC HF
  go_upto_region 4 with fail
  try rw [HW.out]
  clear HW
  obtain ⟨B, hB⟩ : ∃ B, w.heap.size + 1 = B := ⟨_, rfl⟩
  have hWB : w.heap.size + 1 ≤ B := Nat.le_of_eq hB
  rw [hB] at HTB hsz0 ⊢
  clear hB hz0
  go_wp2_with fail
  refine (HTB.out).mono ?_
  rintro e w2 ⟨rfl, hs2, hb2, hk2⟩
  obtain ⟨v2, hx1, hx2⟩ := hs2.ex
  obtain ⟨g1, c1, rfl, hNd, hz1⟩ := nd_row hx2 hacc.1
  have HB2 := Lib.hid (hb2.mono hWB)
  have hsB := blk_lt hx1
  obtain ⟨M, hM⟩ : ∃ M, A.length = M := ⟨_, rfl⟩
  rw [hM] at hx1
  have HM := Lib.hid hM
  obtain ⟨w2a, hwa⟩ : ∃ z, w2.alloc (.cells #[.int .i16 r] 46) = z := ⟨_, rfl⟩
  have ka : Below w2.heap.size w2 w2a := by rw [← hwa]; exact kAlloc (Below.refl _ _) _
  have ba : w2a.heap[w2.heap.size]? = some (.cells #[.int .i16 r] 46 (0, 0)) := by rw [← hwa]; exact nNew _ _
  have HND := Lib.hid (made_ok B n M 1 c1 1 (some ⟨g1, 0, none⟩) (some ⟨w2.heap.size, 0, none⟩) w2a (blk_below hx1 ka) (by omega) hn6)
  have HN2 := Lib.hid (hNd.below ka hz1)
  have hz1a := Nat.lt_of_lt_of_le hz1 ka.size
  have HSa := Lib.hid (show ShsAt w2a w2.heap.size 0 [r] from fun i hi => by
    have hi0 : i = 0 := by simp at hi; omega
    subst hi0
    exact cell_of_row _ _ 0 _ _ _ ba)
  have hz2a := blk_lt ba
  have HBa := Lib.hid (HB2.out.trans (ka.mono (by have h1 := HB2.out.size; omega)))
  have Hwa := Lib.hid hwa
  clear hs2 hb2 hk2 hx1 hx2 hM HTB hwa ka ba hNd
  go_wp2_with fail
  rw [Hwa.out]
  refine (HND.out).mono ?_
  rintro e w3 ⟨rfl, hb3⟩
  have HT3 := Lib.hid (HBa.out.trans (hb3.mono (by have h1 := HBa.out.size; omega)))
  have HNK := Lib.hid (show NK w3 g1 w2.heap.size A [r] from ⟨HN2.out.below hb3 hz1a, HSa.out.below hb3 hz2a, Nat.lt_of_lt_of_le hz1a hb3.size, Nat.lt_of_lt_of_le hz2a hb3.size⟩)
  obtain ⟨wX, hwX⟩ : ∃ z, w3.alloc (.cells #[.int .i8 n, .slice (some ⟨g1, 0, none⟩) M c1, .slice (some ⟨w2.heap.size, 0, none⟩) 1 1] 30) = z := ⟨_, rfl⟩
  have kX : Below w3.heap.size w3 wX := by rw [← hwX]; exact kAlloc (Below.refl _ _) _
  have bM : wX.heap[w3.heap.size]? = some (.cells #[.int .i8 n, .slice (some ⟨g1, 0, none⟩) M c1, .slice (some ⟨w2.heap.size, 0, none⟩) 1 1] 30 (0, 0)) := by rw [← hwX]; exact nNew _ _
  have hnx := NwAt.of bM
  have HTC := Lib.hid (HSIM.out w3.heap.size g1 w2.heap.size c1 1 wX (by rw [HM.out]; exact hnx) (HNK.out.below kX))
  have HTX := Lib.hid (HT3.out.trans (kX.mono (by have h1 := HT3.out.size; omega)))
  have rs0 := (HTX.out.block w.heap.size (Nat.lt_succ_self _)).trans HBR.out
  have HRS := Lib.hid rs0
  have lR := blk_lt rs0
  have HwX := Lib.hid hwX
  have HBM := Lib.hid bM
  clear hwX kX bM hnx rs0 hb3 HND HNK HSIM HB2
  go_upto_region 6 with fail
  try rw [HwX.out]
  obtain ⟨z0, z1, z2⟩ := NwAt.of HBM.out
  have lz := blk_lt HBM.out
  clear HwX
  go_wp2_with fail
  refine (HTC.out).mono ?_
  rintro e w9 ⟨v, u, rfl, hn9, hb9⟩
  obtain ⟨va9, vc9, ua9, uc9, rfl, rfl⟩ := hn9.form
  have rs_ := blk_below HRS.out hb9
  have HTT := Lib.hid (HTX.out.trans (hb9.mono (Nat.succ_le_of_lt lR)))
  have HNW := Lib.hid ((hn9.out (keptRowN (g := w.heap.size) (cs := #[.int .i8 n, .slice va9 P.length vc9, .slice ua9 K.length uc9])) (.inr (by omega))).mono (show w.heap.size ≤ wX.heap.size by omega) (show w9.heap.size ≤ (w9.setRow w.heap.size #[.int .i8 n, .slice va9 P.length vc9, .slice ua9 K.length uc9]).heap.size by simp))
  clear z0 z1 z2 lz hn9 hb9 HTC
  go_wp2_with (refine wpList_store_row rfl 30 _ _ rfl w.heap.size #[.int .i8 n, .slice va9 P.length vc9, .slice ua9 K.length uc9] rfl rfl 30 _ rs_ (by kernel_rfl) (by kernel_rfl) (by kernel_rfl) ?_)
  refine bodyPost_ret (v := .tuple #[.agg #[.int .i8 n, .slice va9 P.length vc9, .slice ua9 K.length uc9], .int .i64 0]) (results_cell_tmp rfl _ _ w.heap.size 30 #[.int .i8 n, .slice va9 P.length vc9, .slice ua9 K.length uc9] (0, 0) _ _ rfl rfl (setRow_heap _ _ _ _ _ _ rs_) Try.underlying30 rfl (by kernel_rfl)) rfl ?_
  exact ⟨_, _, rfl, HNW.out, kRowW (HK0.out.trans (HTT.out.mono (Nat.le_succ _))) (Nat.le_refl _) _⟩
theorem specNetworkOf_any (ni t : Int) (w : World) (ht : 0 ≤ t ∧ t ≤ 18446744073709551615) (R : Bool) (hR : R = (decide (1 ≤ ni ∧ ni ≤ 6) && (Go.bits .andNot .u64 t (fullF ni.toNat) == 0))) (Nr : Int) (lr : List Nd) (pr : List Int) (C : Int) (hQ : nkQ R ni.toNat t = (Nr, lr, pr, C)) :
    Calls Try.prog 15 #[.int .i64 ni, .int .u64 t] w fun e w' => ∃ v u, e = .returned (.tuple #[.agg #[.int .i8 Nr, v, u], .int .i64 C]) ∧ NwR w.heap.size w'.heap.size w' lr pr v u ∧ Below w.heap.size w w' := by
  cases R with
  | false => exact specNk_bad ni t w ht hR.symm Nr lr pr C hQ
  | true =>
    have h := hR.symm
    rw [Bool.and_eq_true] at h
    have hn := of_decide_eq_true h.1
    obtain ⟨n, rfl⟩ : ∃ n : Nat, ni = n := ⟨ni.toNat, by omega⟩
    rw [Int.toNat_natCast] at hQ h
    have hz : Go.bits .andNot .u64 t (fullF n) = 0 := by simpa using h.2
    by_cases hL : (tabT n t []).1.length ≤ 80
    · exact specNk_ok n t w ht (by omega) hz hL Nr lr pr C hQ
    · exact specNk_limit n t w ht (by omega) hz (by omega) Nr lr pr C hQ
end Go.Proofs.Ytdnjamlibnmpfaa
