/- BothNetworks: the model, where it answers a network. -/
import Derived.Test.YtdnjamlibnmpfaaBg1
import Derived.Test.YtdnjamlibnmpfaaBh
namespace Go.Proofs.Ytdnjamlibnmpfaa
open Go.ChangeShapes Go.WideShapes Go.ChangeAt Go.RowKit Go.Joins Go.Deep
set_option linter.unusedVariables false
set_option linter.unusedSimpArgs false
theorem own_grown {w w' : World} {b s n : Nat} {e : TypeId} {v u : Value} {xs : List Value} (h : w.ownsRow b e s v n xs) (g : w.grownBy w' u.ownBlock) (hu : v.ownBlock = none ∨ v.ownBlock ≠ u.ownBlock) : w'.ownsRow b e s v n xs := by
  refine ⟨h.1, ?_⟩
  rcases h.2 with h5 | ⟨q, cap, cur, rfl, h6, h7, r⟩
  · exact .inl h5
  · exact .inr ⟨q, cap, cur, rfl, h6, (g.block q (blk_lt h7) (fun e => hu.elim (fun h => by cases h) (fun h => h e))).trans h7, r⟩
theorem own_set3 {w : World} {base n size : Nat} {e t : TypeId} {v : Value} {xs : List Value} {B : Nat} {cs : Array Value} (h : w.ownsRow base e size v n xs) (hB : w.heap[B]? = some (.cells cs t (0, 0))) (ht : t ≠ e) (a b c : Value) :
    (((w.setCell ⟨B, 0, none⟩ a).setCell ⟨B, 1, none⟩ b).setCell ⟨B, 2, none⟩ c).ownsRow base e size v n xs :=
  owns_set_far (owns_set_far (owns_set_far h hB ht 0 a) (blk_set_same' hB) ht 1 b) (blk_set_same' (blk_set_same' hB)) ht 2 c
theorem nd_news {w : World} {b : Nat} {l : List Nd} (h : NdsAt w b 0 l) : ∀ (j : Nat) (u : Value), (flatNd l)[j]? = some u → w.cell? ((⟨b, 0, none⟩ : Addr).add j) = some u := NdsAt.news h
/-- a network in a box, its rows the call's own -/
structure NX (w : World) (O base : Nat) (ni : Int) (v u : Value) (K : List Nd) (A : List Int) : Prop where
  n : w.ownsRow base 48 3 v K.length (flatNd K)
  s : w.ownsRow base 46 1 u A.length (flatSh A)
  o : w.heap[O]? = some (.cells #[.int .i8 ni, v, u] 30 (0, 0))
theorem NX.below {w w' : World} {O base : Nat} {ni : Int} {v u : Value} {K : List Nd} {A : List Int} (h : NX w O base ni v u K A) (g : Below w.heap.size w w') : NX w' O base ni v u K A := ⟨owns_below h.n g, owns_below h.s g, blk_below h.o g⟩
theorem NX.app1 {w w7 : World} {O base : Nat} {ni : Int} {v u v7 : Value} {K K' : List Nd} {A : List Int} (h : NX w O base ni v u K A) (g : w.grownBy w7 v.ownBlock) (hn : w7.ownsRow base 48 3 v7 K'.length (flatNd K')) : NX (w7.setCell ⟨O, 1, none⟩ v7) O base ni v7 u K' A := by
  have ho := (g.block O (blk_lt h.o) (fun e => row_block h.n h.o (by decide) e.symm)).trans h.o
  exact ⟨owns_set_far hn ho (by decide) 1 v7, owns_set_far (own_grown h.s g (rows_apart h.s h.n (by decide))) ho (by decide) 1 v7, blk_set_same' ho⟩
theorem NX.app2 {w w7 : World} {O base : Nat} {ni : Int} {v u u7 : Value} {K : List Nd} {A A' : List Int} (h : NX w O base ni v u K A) (g : w.grownBy w7 u.ownBlock) (hs : w7.ownsRow base 46 1 u7 A'.length (flatSh A')) : NX (w7.setCell ⟨O, 2, none⟩ u7) O base ni v u7 K A' := by
  have ho := (g.block O (blk_lt h.o) (fun e => row_block h.s h.o (by decide) e.symm)).trans h.o
  exact ⟨owns_set_far (own_grown h.n g (rows_apart h.n h.s (by decide))) ho (by decide) 2 u7, owns_set_far hs ho (by decide) 2 u7, blk_set_same' ho⟩
set_option maxRecDepth 100000 in
set_option maxHeartbeats 8000000 in
theorem specBoth_ok (b k b' k' : Nat) (ni nj : Int) (l l' : List Nd) (p p' : List Int) (w : World) (h : NK w b k l p) (h' : NK w b' k' l' p') (h8 : NdsWf l) (h9 : ShsWf p) (h8' : NdsWf l') (h9' : ShsWf p') (bw : i8 ni) (bw' : i8 nj) (m0 : l.length ≤ 1048576) (m1 : p.length ≤ 1048576) (m0' : l'.length ≤ 1048576) (m1' : p'.length ≤ 1048576) (R R' : Bool) (hR : R = netOk ni l p) (hR' : R' = netOk nj l' p') (hr : R = true) (hr' : R' = true) (hne : ni = nj) (h80 : l.length + l'.length ≤ 80) (ho8 : p.length + p'.length ≤ 8) (Nr : Int) (lr : List Nd) (pr : List Int) (C : Int) (hQ : boQ R R' ni nj l l' p p' = (Nr, lr, pr, C)) :
    Calls Try.prog 7 #[.agg #[.int .i8 ni, .slice (some ⟨b, 0, none⟩) l.length l.length, .slice (some ⟨k, 0, none⟩) p.length p.length], .agg #[.int .i8 nj, .slice (some ⟨b', 0, none⟩) l'.length l'.length, .slice (some ⟨k', 0, none⟩) p'.length p'.length]] w fun e w' => ∃ v u, e = .returned (.tuple #[.agg #[.int .i8 Nr, v, u], .int .i64 C]) ∧ NwO w.heap.size w'.heap.size w' lr pr v u ∧ Below w.heap.size w w' := by
  have n1 := netOk_parts (show netOk ni l p = true by rw [← hR, hr])
  have hok' : netOk nj l' p' = true := by rw [← hR', hr']
  have n2 := netOk_parts hok'
  have HN := Lib.hid (fun i (hi : i < l'.length) => netOk_node hok' i hi)
  subst hne
  obtain ⟨A, hA⟩ : ∃ A, l.length = A := ⟨_, rfl⟩
  obtain ⟨N, hN⟩ : ∃ N, l'.length = N := ⟨_, rfl⟩
  obtain ⟨q, hq⟩ : ∃ q, p.length = q := ⟨_, rfl⟩
  obtain ⟨r, hr0⟩ : ∃ r, p'.length = r := ⟨_, rfl⟩
  rw [boQ, if_pos ⟨hr, hr'⟩, if_pos rfl, if_pos ⟨h80, ho8⟩] at hQ
  obtain ⟨rfl, rfl, rfl, rfl⟩ := quad_N (show ((ni, boN l l', boP l.length p p', 0) : Int × List Nd × List Int × Int) = (Nr, lr, pr, C) from hQ)
  subst hr hr'
  have g1 : (A : Int) ≤ 80 := by omega
  have g2 : (N : Int) ≤ 80 := by omega
  have g3 : (q : Int) ≤ 8 := by omega
  have g4 : (r : Int) ≤ 8 := by omega
  have e3 : decide ((80 : Int) < (A : Int) + N) = false := by simp; omega
  have e3' : ¬ (80 : Int) < (A : Int) + N := by omega
  have e4 : decide ((8 : Int) < (q : Int) + r) = false := by simp; omega
  have e4' : ¬ (8 : Int) < (q : Int) + r := by omega
  have f1 : 1 ≤ A ∧ 1 ≤ N ∧ 1 ≤ q ∧ 1 ≤ r := by omega
  have HRO := Lib.hid (show ∀ x ∈ p', 0 ≤ x ∧ x < (N : Int) by have h := outsOkN_all n2.2.2.2.2; rw [hN] at h; exact h)
  have HA := Lib.hid hA
  have HNl := Lib.hid hN
  have Hq := Lib.hid hq
  have Hr := Lib.hid hr0
  rw [hA, hN, hq, hr0]
  obtain ⟨W0, hW⟩ : ∃ W0, ((w.alloc (.cells #[.int .i8 ni, .slice (some ⟨b, 0, none⟩) A A, .slice (some ⟨k, 0, none⟩) q q] 30)).alloc (.cells #[.int .i8 ni, .slice (some ⟨b', 0, none⟩) N N, .slice (some ⟨k', 0, none⟩) r r] 30)).alloc (.cells #[.int .i8 0, .slice none 0 0, .slice none 0 0] 30) = W0 := ⟨_, rfl⟩
  have k0 : Below w.heap.size w W0 := by rw [← hW]; exact kAlloc (kAlloc (kAlloc (Below.refl _ _) _) _) _
  have hs0 : w.heap.size + 3 ≤ W0.heap.size := by rw [← hW]; simp
  have bX : W0.heap[w.heap.size]? = some (.cells #[.int .i8 ni, .slice (some ⟨b, 0, none⟩) A A, .slice (some ⟨k, 0, none⟩) q q] 30 (0, 0)) := by
    rw [← hW]; exact (Below.heap_alloc _ _ _ (by simp; omega)).trans ((Below.heap_alloc _ _ _ (by simp)).trans (heap_alloc_new _ _))
  have bY : W0.heap[w.heap.size + 1]? = some (.cells #[.int .i8 ni, .slice (some ⟨b', 0, none⟩) N N, .slice (some ⟨k', 0, none⟩) r r] 30 (0, 0)) := by
    rw [← hW]; exact (Below.heap_alloc _ _ _ (by simp)).trans (heap_two _ _ _)
  have bR : W0.heap[w.heap.size + 1 + 1]? = some (.cells #[.int .i8 0, .slice none 0 0, .slice none 0 0] 30 (0, 0)) := by
    rw [← hW]
    have h := heap_alloc_new ((w.alloc (.cells #[.int .i8 ni, .slice (some ⟨b, 0, none⟩) A A, .slice (some ⟨k, 0, none⟩) q q] 30)).alloc (.cells #[.int .i8 ni, .slice (some ⟨b', 0, none⟩) N N, .slice (some ⟨k', 0, none⟩) r r] 30)) (.cells #[.int .i8 0, .slice none 0 0, .slice none 0 0] 30)
    simpa only [World.size_alloc] using h
  have hnx := NwAt.of bX
  have hny := NwAt.of bY
  have hlx := hnx.lt
  have hly := hny.lt
  have HX := Lib.hid (fun W2 (h2 : Below W0.heap.size W0 W2) => hnx.below h2 hlx)
  have HY := Lib.hid (fun W2 (h2 : Below W0.heap.size W0 W2) => hny.below h2 hly)
  have HBR := Lib.hid (fun W2 (h2 : Below W0.heap.size W0 W2) => blk_below bR h2)
  have HV := Lib.hid (fun W2 (h2 : Below W0.heap.size W0 W2) => by have h := l04Ok_any w.heap.size b k ni l p W2 (by rw [hA, hq]; exact hnx.below h2 hlx) (h.below (kTrans k0 h2)) h8 h9 bw m0 m1 true hR; exact h)
  have HV' := Lib.hid (fun W2 (h2 : Below W0.heap.size W0 W2) => by have h := l04Ok_any (w.heap.size + 1) b' k' ni l' p' W2 (by rw [hN, hr0]; exact hny.below h2 hly) (h'.below (kTrans k0 h2)) h8' h9' bw' m0' m1' true hR'; exact h)
  have HK := Lib.hid (fun W2 (h2 : Below W0.heap.size W0 W2) => h.below (kTrans k0 h2))
  have HK' := Lib.hid (fun W2 (h2 : Below W0.heap.size W0 W2) => h'.below (kTrans k0 h2))
  have HK0 := Lib.hid k0
  have HW := Lib.hid hW
  obtain ⟨x0, x1, x2⟩ := hnx
  obtain ⟨y0, y1, y2⟩ := hny
  obtain ⟨m0_, hm0, hm1, hm2, hm3⟩ := info_parts info_NdL
  obtain ⟨j0_, hj0, hj1, hj2, hj3⟩ := info_parts info_i16n
  have Hm := Lib.hid hm0
  have Hm1 := Lib.hid hm1
  have Hm2 := Lib.hid hm2
  have Hm3 := Lib.hid hm3
  have Hj := Lib.hid hj0
  have Hj1 := Lib.hid hj1
  have Hj2 := Lib.hid hj2
  have Hj3 := Lib.hid hj3
  have HLn := Lib.hid (show (flatNd l).length = A * 3 by rw [flatNd_length, hA])
  have HLs := Lib.hid (show (flatSh p).length = q * 1 by rw [flatSh_length, hq, Nat.mul_one])
  clear hm0 hm1 hm2 hm3 hj0 hj1 hj2 hj3
  clear n1 n2 hok' hQ hR hR' h8 h9 h8' h9' h h' hW bX bY bR k0 m0 m1 m0' m1' hA hN hq hr0
  go_enter Try.func7, Try.ntmps7
  go_upto_region 1 with fail
  try rw [HW.out]
  go_wp2_with fail
  refine (HV.out _ (Below.refl _ _)).mono ?_
  rintro e w1 ⟨rfl, hb1⟩
  have hz1 := hb1.size
  clear x0 x1 x2 y0 y1 y2
  go_wp2_with fail
  refine (HV'.out _ hb1).mono ?_
  rintro e w2 ⟨rfl, hb2⟩
  have hb3 := kTrans hb1 hb2
  obtain ⟨x0, x1, x2⟩ := HX.out _ hb3
  obtain ⟨y0, y1, y2⟩ := HY.out _ hb3
  have lx3 := Nat.lt_of_lt_of_le hlx hb3.size
  have ly3 := Nat.lt_of_lt_of_le hly hb3.size
  clear HV HV' HW
  go_upto_region 8 with fail
  go_cut [7] from 47 to 57 (fun s7 wx => ∃ (O : Nat) (v u : Value), s7 = .pointer (some ⟨O, 0, none⟩) ∧ NX wx O w2.heap.size ni v u l p ∧ w2.heap.size ≤ O ∧ Below w2.heap.size w2 wx)
  case first =>
    have HKn := Lib.hid (fun W (hW : Below w2.heap.size w2 W) => HK.out W (kTrans hb3 hW))
    have K0 := Lib.hid (Below.drew (Below.refl w2.heap.size w2))
    have hNx : NwAt w2 w.heap.size ni (.slice (some ⟨b, 0, none⟩) A A) (.slice (some ⟨k, 0, none⟩) q q) := HX.out _ hb3
    clear x0 x1 x2 y0 y1 y2
    refine regionW_of_HM (fun W' => NwAt W' w.heap.size ni (.slice (some ⟨b, 0, none⟩) A A) (.slice (some ⟨k, 0, none⟩) q q)) (by kernel_rfl) hNx (fun hHeld => ?_)
    have HSx := Lib.hid (fun W (hW : Below w2.heap.size w2 W) => hNx.below hW lx3)
    clear hNx
    refine wpAnyH_take (i := 0) (v := .pointer (some ⟨w.heap.size, 0, none⟩)) rfl (by kernel_rfl) (by kernel_rfl) (by kernel_rfl) (fun _ _ _ h => absurd h.1 (by simp)) (Or.inl ⟨by rfl, fun w7 hSw => ?_⟩) (by assumption) ?_
    · clear hSw
      go_simp
    try simp only [Act.put, List.setIfInBounds_toArray, List.set_cons_zero, List.set_cons_succ]
    refine wpAnyH_take (i := 1) (v := .int .i8 ni) rfl (by kernel_rfl) (by kernel_rfl) (by kernel_rfl) (fun _ _ _ h => absurd h.1 (by simp)) (Or.inl ⟨by rfl, fun w7 hSw => ?_⟩) (by assumption) ?_
    · obtain ⟨x0, x1, x2⟩ := hSw
      go_simp
    try simp only [Act.put, List.setIfInBounds_toArray, List.set_cons_zero, List.set_cons_succ]
    refine wpAnyH_take (i := 3) (v := .pointer (some ⟨w.heap.size, 1, none⟩)) rfl (by kernel_rfl) (by kernel_rfl) (by kernel_rfl) (fun _ _ _ h => absurd h.1 (by simp)) (Or.inl ⟨by rfl, fun w7 hSw => ?_⟩) (by assumption) ?_
    · clear hSw
      go_simp
    try simp only [Act.put, List.setIfInBounds_toArray, List.set_cons_zero, List.set_cons_succ]
    refine wpAnyH_take (i := 4) (v := .slice (some ⟨b, 0, none⟩) A A) rfl (by kernel_rfl) (by kernel_rfl) (by kernel_rfl) (fun _ _ _ h => absurd h.1 (by simp)) (Or.inl ⟨by rfl, fun w7 hSw => ?_⟩) (by assumption) ?_
    · obtain ⟨x0, x1, x2⟩ := hSw
      go_simp
    try simp only [Act.put, List.setIfInBounds_toArray, List.set_cons_zero, List.set_cons_succ]
    refine wpAnyH_take (i := 7) (v := .pointer (some ⟨w.heap.size, 2, none⟩)) rfl (by kernel_rfl) (by kernel_rfl) (by kernel_rfl) (fun _ _ _ h => absurd h.1 (by simp)) (Or.inl ⟨by rfl, fun w7 hSw => ?_⟩) (by assumption) ?_
    · clear hSw
      go_simp
    try simp only [Act.put, List.setIfInBounds_toArray, List.set_cons_zero, List.set_cons_succ]
    refine wpAnyH_take (i := 8) (v := .slice (some ⟨k, 0, none⟩) q q) rfl (by kernel_rfl) (by kernel_rfl) (by kernel_rfl) (fun _ _ _ h => absurd h.1 (by simp)) (Or.inl ⟨by rfl, fun w7 hSw => ?_⟩) (by assumption) ?_
    · obtain ⟨x0, x1, x2⟩ := hSw
      go_simp
    try simp only [Act.put, List.setIfInBounds_toArray, List.set_cons_zero, List.set_cons_succ]
    clear hHeld
    generalize w2.drew = wd at K0 ⊢
    refine wpAnyH_ready (rs := [2, 6, 11]) (by kernel_rfl) (by simp) ?_
    refine AllReadyH.cons rfl (fun K hK => ?_) (AllReadyH.cons rfl (fun K hK => ?_) (AllReadyH.cons rfl (fun K hK => ?_) AllReadyH.nil))
    · skip
      go_simp
      obtain ⟨xt1, et1⟩ : ∃ z, wd.alloc (.cells #[] 48) = z := ⟨_, rfl⟩
      have kt1 : Below wd.heap.size wd xt1 := by rw [← et1]; exact kAlloc (Below.refl _ _) _
      have bt1 : xt1.heap[wd.heap.size]? = some (.cells #[] 48) := by rw [← et1]; exact nNew _ _
      try rw [et1]
      obtain ⟨gt1, ft1⟩ : ∃ z, wd.heap.size = z := ⟨_, rfl⟩
      have Kt1 := Lib.hid (kTrans K0.out kt1)
      have lt1 := Lib.hid (show w2.heap.size ≤ gt1 by rw [← ft1]; exact K0.out.size)
      rw [ft1] at bt1 ⊢
      have e2_1 := Lib.hid bt1
      refine hK.out _ _ (HSx.out _ Kt1.out) (fun _ => ?_)
      clear hK K kt1 bt1 et1 ft1
      refine wpAnyH_ready (rs := [5, 6, 11]) (by kernel_rfl) (by simp) ?_
      refine AllReadyH.cons rfl (fun K hK => ?_) (AllReadyH.cons rfl (fun K hK => ?_) (AllReadyH.cons rfl (fun K hK => ?_) AllReadyH.nil))
      · skip
        have owt2 : xt1.ownsRow w2.heap.size 48 3 (.slice (some ⟨gt1, 0, none⟩) 0 0) 0 [] := owns_new lt1.out e2_1.out
        refine step_append_own rfl _ _ 28 rfl w2.heap.size 48 m0_ _ 3 6 Try.underlying28 Hm.out Hm1.out Hm2.out Hm3.out rfl (by decide) (.slice (some ⟨gt1, 0, none⟩) 0 0) 0 [] rfl owt2 ⟨b, 0, none⟩ A A (flatNd l) rfl HLn.out (fun j u hu => nd_news (HKn.out _ Kt1.out).p0 j u hu) (flatNd_one _) (by unfold maxLen; omega) (by omega) (Kt1.out.size) ?_
        intro vt2 xt2 ot2 rt2 _
        rw [List.nil_append, Nat.zero_add] at ot2
        obtain ⟨vat2, vct2, rfl⟩ := owns_slice ot2
        have Kt2 := Lib.hid (grown_below Kt1.out rt2 (fun k hk => (owt2.lt k hk).1))
        have n_2 := Lib.hid ot2
        refine hK.out _ _ (HSx.out _ Kt2.out) (fun _ => ?_)
        clear hK K owt2 ot2 rt2
        refine wpAnyH_ready (rs := [6, 11]) (by kernel_rfl) (by simp) ?_
        refine AllReadyH.cons rfl (fun K hK => ?_) (AllReadyH.cons rfl (fun K hK => ?_) AllReadyH.nil)
        · skip
          go_simp
          obtain ⟨xt3, et3⟩ : ∃ z, xt2.alloc (.cells #[] 46) = z := ⟨_, rfl⟩
          have kt3 : Below xt2.heap.size xt2 xt3 := by rw [← et3]; exact kAlloc (Below.refl _ _) _
          have bt3 : xt3.heap[xt2.heap.size]? = some (.cells #[] 46) := by rw [← et3]; exact nNew _ _
          try rw [et3]
          obtain ⟨gt3, ft3⟩ : ∃ z, xt2.heap.size = z := ⟨_, rfl⟩
          have Kt3 := Lib.hid (kTrans Kt2.out kt3)
          have lt3 := Lib.hid (show w2.heap.size ≤ gt3 by rw [← ft3]; exact Kt2.out.size)
          rw [ft3] at bt3 ⊢
          have n_3 := Lib.hid (owns_below n_2.out kt3)
          have e6_3 := Lib.hid bt3
          refine hK.out _ _ (HSx.out _ Kt3.out) (fun _ => ?_)
          clear hK K kt3 bt3 et3 ft3
          refine wpAnyH_ready (rs := [9, 11]) (by kernel_rfl) (by simp) ?_
          refine AllReadyH.cons rfl (fun K hK => ?_) (AllReadyH.cons rfl (fun K hK => ?_) AllReadyH.nil)
          · skip
            have owt4 : xt3.ownsRow w2.heap.size 46 1 (.slice (some ⟨gt3, 0, none⟩) 0 0) 0 [] := owns_new lt3.out e6_3.out
            refine step_append_own rfl _ _ 24 rfl w2.heap.size 46 j0_ _ 1 2 Try.underlying24 Hj.out Hj1.out Hj2.out Hj3.out rfl (by decide) (.slice (some ⟨gt3, 0, none⟩) 0 0) 0 [] rfl owt4 ⟨k, 0, none⟩ q q (flatSh p) rfl HLs.out (fun j u hu => sh_news (HKn.out _ Kt3.out).p1 j u hu) (flatSh_one _) (by unfold maxLen; omega) (by omega) (Kt3.out.size) ?_
            intro vt4 xt4 ot4 rt4 _
            rw [List.nil_append, Nat.zero_add] at ot4
            obtain ⟨vat4, vct4, rfl⟩ := owns_slice ot4
            have Kt4 := Lib.hid (grown_below Kt3.out rt4 (fun k hk => (owt4.lt k hk).1))
            have n_4 := Lib.hid (own_grown n_3.out rt4 (rows_apart n_3.out owt4 (by decide)))
            have s_4 := Lib.hid ot4
            refine hK.out _ _ (HSx.out _ Kt4.out) (fun _ => ?_)
            clear hK K owt4 ot4 rt4
            refine wpAnyH_take (i := 10) (v := .agg #[.int .i8 ni, .slice vat2 A vct2, .slice vat4 q vct4]) rfl (by kernel_rfl) (by kernel_rfl) (by kernel_rfl) (fun _ _ _ h => absurd h.1 (by simp)) (Or.inl ⟨by rfl, fun w7 hSw => ?_⟩) (by assumption) ?_
            · clear hSw
              go_simp
            try simp only [Act.put, List.setIfInBounds_toArray, List.set_cons_zero, List.set_cons_succ]
            refine wpAnyH_ready (rs := [11]) (by kernel_rfl) (by simp) ?_
            refine AllReadyH.cons rfl (fun K hK => ?_) AllReadyH.nil
            · skip
              go_simp
              obtain ⟨xt5, et5⟩ : ∃ z, xt4.alloc (.cells #[.int .i8 0, .slice none 0 0, .slice none 0 0] 30) = z := ⟨_, rfl⟩
              have kt5 : Below xt4.heap.size xt4 xt5 := by rw [← et5]; exact kAlloc (Below.refl _ _) _
              have bt5 : xt5.heap[xt4.heap.size]? = some (.cells #[.int .i8 0, .slice none 0 0, .slice none 0 0] 30) := by rw [← et5]; exact nNew _ _
              try rw [et5]
              obtain ⟨gt5, ft5⟩ : ∃ z, xt4.heap.size = z := ⟨_, rfl⟩
              have Kt5 := Lib.hid (kTrans Kt4.out kt5)
              have lt5 := Lib.hid (show w2.heap.size ≤ gt5 by rw [← ft5]; exact Kt4.out.size)
              rw [ft5] at bt5 ⊢
              have n_5 := Lib.hid (owns_below n_4.out kt5)
              have s_5 := Lib.hid (owns_below s_4.out kt5)
              have O_5 := Lib.hid bt5
              refine hK.out _ _ (HSx.out _ Kt5.out) (fun _ => ?_)
              clear hK K kt5 bt5 et5 ft5
              refine wpAnyH_ready (rs := [12]) (by kernel_rfl) (by simp) ?_
              refine AllReadyH.cons rfl (fun K hK => ?_) AllReadyH.nil
              · skip
                have q0 : xt5.cell? ⟨gt5, 0, none⟩ = some (.int .i8 0) := cell_of_row _ _ 0 _ _ _ O_5.out
                have q1 : xt5.cell? ⟨gt5, 1, none⟩ = some (.slice none 0 0) := cell_of_row _ _ 1 _ _ _ O_5.out
                have q2 : xt5.cell? ⟨gt5, 2, none⟩ = some (.slice none 0 0) := cell_of_row _ _ 2 _ _ _ O_5.out
                have z0 : xt5.frozen? ⟨gt5, 0, none⟩ = false := frozen_of_row _ _ 0 _ _ O_5.out
                have z1 : xt5.frozen? ⟨gt5, 1, none⟩ = false := frozen_of_row _ _ 1 _ _ O_5.out
                have z2 : xt5.frozen? ⟨gt5, 2, none⟩ = false := frozen_of_row _ _ 2 _ _ O_5.out
                have lz := blk_lt O_5.out
                go_simp
                refine hK.out _ _ (HSx.out _ (kSet (kSet (kSet Kt5.out (p := ⟨gt5, 0, none⟩) lt5.out _) (p := ⟨gt5, 1, none⟩) lt5.out _) (p := ⟨gt5, 2, none⟩) lt5.out _)) (fun _ => ?_)
                clear hK K q0 q1 q2 z0 z1 z2 lz
                refine wpAnyH_done (by kernel_rfl) ?_ _
                refine ⟨rfl, ?_⟩
                go_wp2_with fail
                go_meet
                exact ⟨gt5, .slice vat2 A vct2, .slice vat4 q vct4, rfl, ⟨by rw [HA.out]; exact own_set3 n_5.out O_5.out (by decide) _ _ _, by rw [Hq.out]; exact own_set3 s_5.out O_5.out (by decide) _ _ _, box3_set O_5.out⟩, lt5.out, kSet (kSet (kSet Kt5.out (p := ⟨gt5, 0, none⟩) lt5.out _) (p := ⟨gt5, 1, none⟩) lt5.out _) (p := ⟨gt5, 2, none⟩) lt5.out _⟩
          · skip
            go_simp
            obtain ⟨xt4, et4⟩ : ∃ z, xt3.alloc (.cells #[.int .i8 0, .slice none 0 0, .slice none 0 0] 30) = z := ⟨_, rfl⟩
            have kt4 : Below xt3.heap.size xt3 xt4 := by rw [← et4]; exact kAlloc (Below.refl _ _) _
            have bt4 : xt4.heap[xt3.heap.size]? = some (.cells #[.int .i8 0, .slice none 0 0, .slice none 0 0] 30) := by rw [← et4]; exact nNew _ _
            try rw [et4]
            obtain ⟨gt4, ft4⟩ : ∃ z, xt3.heap.size = z := ⟨_, rfl⟩
            have Kt4 := Lib.hid (kTrans Kt3.out kt4)
            have lt4 := Lib.hid (show w2.heap.size ≤ gt4 by rw [← ft4]; exact Kt3.out.size)
            rw [ft4] at bt4 ⊢
            have n_4 := Lib.hid (owns_below n_3.out kt4)
            have e6_4 := Lib.hid (blk_below e6_3.out kt4)
            have O_4 := Lib.hid bt4
            refine hK.out _ _ (HSx.out _ Kt4.out) (fun _ => ?_)
            clear hK K kt4 bt4 et4 ft4
            refine wpAnyH_ready (rs := [9]) (by kernel_rfl) (by simp) ?_
            refine AllReadyH.cons rfl (fun K hK => ?_) AllReadyH.nil
            · skip
              have owt5 : xt4.ownsRow w2.heap.size 46 1 (.slice (some ⟨gt3, 0, none⟩) 0 0) 0 [] := owns_new lt3.out e6_4.out
              refine step_append_own rfl _ _ 24 rfl w2.heap.size 46 j0_ _ 1 2 Try.underlying24 Hj.out Hj1.out Hj2.out Hj3.out rfl (by decide) (.slice (some ⟨gt3, 0, none⟩) 0 0) 0 [] rfl owt5 ⟨k, 0, none⟩ q q (flatSh p) rfl HLs.out (fun j u hu => sh_news (HKn.out _ Kt4.out).p1 j u hu) (flatSh_one _) (by unfold maxLen; omega) (by omega) (Kt4.out.size) ?_
              intro vt5 xt5 ot5 rt5 _
              rw [List.nil_append, Nat.zero_add] at ot5
              obtain ⟨vat5, vct5, rfl⟩ := owns_slice ot5
              have Kt5 := Lib.hid (grown_below Kt4.out rt5 (fun k hk => (owt5.lt k hk).1))
              have n_5 := Lib.hid (own_grown n_4.out rt5 (rows_apart n_4.out owt5 (by decide)))
              have O_5 := Lib.hid ((rt5.block _ (blk_lt O_4.out) (fun e => row_block owt5 O_4.out (by decide) e.symm)).trans O_4.out)
              have s_5 := Lib.hid ot5
              refine hK.out _ _ (HSx.out _ Kt5.out) (fun _ => ?_)
              clear hK K owt5 ot5 rt5
              refine wpAnyH_take (i := 10) (v := .agg #[.int .i8 ni, .slice vat2 A vct2, .slice vat5 q vct5]) rfl (by kernel_rfl) (by kernel_rfl) (by kernel_rfl) (fun _ _ _ h => absurd h.1 (by simp)) (Or.inl ⟨by rfl, fun w7 hSw => ?_⟩) (by assumption) ?_
              · clear hSw
                go_simp
              try simp only [Act.put, List.setIfInBounds_toArray, List.set_cons_zero, List.set_cons_succ]
              refine wpAnyH_ready (rs := [12]) (by kernel_rfl) (by simp) ?_
              refine AllReadyH.cons rfl (fun K hK => ?_) AllReadyH.nil
              · skip
                have q0 : xt5.cell? ⟨gt4, 0, none⟩ = some (.int .i8 0) := cell_of_row _ _ 0 _ _ _ O_5.out
                have q1 : xt5.cell? ⟨gt4, 1, none⟩ = some (.slice none 0 0) := cell_of_row _ _ 1 _ _ _ O_5.out
                have q2 : xt5.cell? ⟨gt4, 2, none⟩ = some (.slice none 0 0) := cell_of_row _ _ 2 _ _ _ O_5.out
                have z0 : xt5.frozen? ⟨gt4, 0, none⟩ = false := frozen_of_row _ _ 0 _ _ O_5.out
                have z1 : xt5.frozen? ⟨gt4, 1, none⟩ = false := frozen_of_row _ _ 1 _ _ O_5.out
                have z2 : xt5.frozen? ⟨gt4, 2, none⟩ = false := frozen_of_row _ _ 2 _ _ O_5.out
                have lz := blk_lt O_5.out
                go_simp
                refine hK.out _ _ (HSx.out _ (kSet (kSet (kSet Kt5.out (p := ⟨gt4, 0, none⟩) lt4.out _) (p := ⟨gt4, 1, none⟩) lt4.out _) (p := ⟨gt4, 2, none⟩) lt4.out _)) (fun _ => ?_)
                clear hK K q0 q1 q2 z0 z1 z2 lz
                refine wpAnyH_done (by kernel_rfl) ?_ _
                refine ⟨rfl, ?_⟩
                go_wp2_with fail
                go_meet
                exact ⟨gt4, .slice vat2 A vct2, .slice vat5 q vct5, rfl, ⟨by rw [HA.out]; exact own_set3 n_5.out O_5.out (by decide) _ _ _, by rw [Hq.out]; exact own_set3 s_5.out O_5.out (by decide) _ _ _, box3_set O_5.out⟩, lt4.out, kSet (kSet (kSet Kt5.out (p := ⟨gt4, 0, none⟩) lt4.out _) (p := ⟨gt4, 1, none⟩) lt4.out _) (p := ⟨gt4, 2, none⟩) lt4.out _⟩
        · skip
          go_simp
          obtain ⟨xt3, et3⟩ : ∃ z, xt2.alloc (.cells #[.int .i8 0, .slice none 0 0, .slice none 0 0] 30) = z := ⟨_, rfl⟩
          have kt3 : Below xt2.heap.size xt2 xt3 := by rw [← et3]; exact kAlloc (Below.refl _ _) _
          have bt3 : xt3.heap[xt2.heap.size]? = some (.cells #[.int .i8 0, .slice none 0 0, .slice none 0 0] 30) := by rw [← et3]; exact nNew _ _
          try rw [et3]
          obtain ⟨gt3, ft3⟩ : ∃ z, xt2.heap.size = z := ⟨_, rfl⟩
          have Kt3 := Lib.hid (kTrans Kt2.out kt3)
          have lt3 := Lib.hid (show w2.heap.size ≤ gt3 by rw [← ft3]; exact Kt2.out.size)
          rw [ft3] at bt3 ⊢
          have n_3 := Lib.hid (owns_below n_2.out kt3)
          have O_3 := Lib.hid bt3
          refine hK.out _ _ (HSx.out _ Kt3.out) (fun _ => ?_)
          clear hK K kt3 bt3 et3 ft3
          refine wpAnyH_ready (rs := [6]) (by kernel_rfl) (by simp) ?_
          refine AllReadyH.cons rfl (fun K hK => ?_) AllReadyH.nil
          · skip
            go_simp
            obtain ⟨xt4, et4⟩ : ∃ z, xt3.alloc (.cells #[] 46) = z := ⟨_, rfl⟩
            have kt4 : Below xt3.heap.size xt3 xt4 := by rw [← et4]; exact kAlloc (Below.refl _ _) _
            have bt4 : xt4.heap[xt3.heap.size]? = some (.cells #[] 46) := by rw [← et4]; exact nNew _ _
            try rw [et4]
            obtain ⟨gt4, ft4⟩ : ∃ z, xt3.heap.size = z := ⟨_, rfl⟩
            have Kt4 := Lib.hid (kTrans Kt3.out kt4)
            have lt4 := Lib.hid (show w2.heap.size ≤ gt4 by rw [← ft4]; exact Kt3.out.size)
            rw [ft4] at bt4 ⊢
            have n_4 := Lib.hid (owns_below n_3.out kt4)
            have O_4 := Lib.hid (blk_below O_3.out kt4)
            have e6_4 := Lib.hid bt4
            refine hK.out _ _ (HSx.out _ Kt4.out) (fun _ => ?_)
            clear hK K kt4 bt4 et4 ft4
            refine wpAnyH_ready (rs := [9]) (by kernel_rfl) (by simp) ?_
            refine AllReadyH.cons rfl (fun K hK => ?_) AllReadyH.nil
            · skip
              have owt5 : xt4.ownsRow w2.heap.size 46 1 (.slice (some ⟨gt4, 0, none⟩) 0 0) 0 [] := owns_new lt4.out e6_4.out
              refine step_append_own rfl _ _ 24 rfl w2.heap.size 46 j0_ _ 1 2 Try.underlying24 Hj.out Hj1.out Hj2.out Hj3.out rfl (by decide) (.slice (some ⟨gt4, 0, none⟩) 0 0) 0 [] rfl owt5 ⟨k, 0, none⟩ q q (flatSh p) rfl HLs.out (fun j u hu => sh_news (HKn.out _ Kt4.out).p1 j u hu) (flatSh_one _) (by unfold maxLen; omega) (by omega) (Kt4.out.size) ?_
              intro vt5 xt5 ot5 rt5 _
              rw [List.nil_append, Nat.zero_add] at ot5
              obtain ⟨vat5, vct5, rfl⟩ := owns_slice ot5
              have Kt5 := Lib.hid (grown_below Kt4.out rt5 (fun k hk => (owt5.lt k hk).1))
              have n_5 := Lib.hid (own_grown n_4.out rt5 (rows_apart n_4.out owt5 (by decide)))
              have O_5 := Lib.hid ((rt5.block _ (blk_lt O_4.out) (fun e => row_block owt5 O_4.out (by decide) e.symm)).trans O_4.out)
              have s_5 := Lib.hid ot5
              refine hK.out _ _ (HSx.out _ Kt5.out) (fun _ => ?_)
              clear hK K owt5 ot5 rt5
              refine wpAnyH_take (i := 10) (v := .agg #[.int .i8 ni, .slice vat2 A vct2, .slice vat5 q vct5]) rfl (by kernel_rfl) (by kernel_rfl) (by kernel_rfl) (fun _ _ _ h => absurd h.1 (by simp)) (Or.inl ⟨by rfl, fun w7 hSw => ?_⟩) (by assumption) ?_
              · clear hSw
                go_simp
              try simp only [Act.put, List.setIfInBounds_toArray, List.set_cons_zero, List.set_cons_succ]
              refine wpAnyH_ready (rs := [12]) (by kernel_rfl) (by simp) ?_
              refine AllReadyH.cons rfl (fun K hK => ?_) AllReadyH.nil
              · skip
                have q0 : xt5.cell? ⟨gt3, 0, none⟩ = some (.int .i8 0) := cell_of_row _ _ 0 _ _ _ O_5.out
                have q1 : xt5.cell? ⟨gt3, 1, none⟩ = some (.slice none 0 0) := cell_of_row _ _ 1 _ _ _ O_5.out
                have q2 : xt5.cell? ⟨gt3, 2, none⟩ = some (.slice none 0 0) := cell_of_row _ _ 2 _ _ _ O_5.out
                have z0 : xt5.frozen? ⟨gt3, 0, none⟩ = false := frozen_of_row _ _ 0 _ _ O_5.out
                have z1 : xt5.frozen? ⟨gt3, 1, none⟩ = false := frozen_of_row _ _ 1 _ _ O_5.out
                have z2 : xt5.frozen? ⟨gt3, 2, none⟩ = false := frozen_of_row _ _ 2 _ _ O_5.out
                have lz := blk_lt O_5.out
                go_simp
                refine hK.out _ _ (HSx.out _ (kSet (kSet (kSet Kt5.out (p := ⟨gt3, 0, none⟩) lt3.out _) (p := ⟨gt3, 1, none⟩) lt3.out _) (p := ⟨gt3, 2, none⟩) lt3.out _)) (fun _ => ?_)
                clear hK K q0 q1 q2 z0 z1 z2 lz
                refine wpAnyH_done (by kernel_rfl) ?_ _
                refine ⟨rfl, ?_⟩
                go_wp2_with fail
                go_meet
                exact ⟨gt3, .slice vat2 A vct2, .slice vat5 q vct5, rfl, ⟨by rw [HA.out]; exact own_set3 n_5.out O_5.out (by decide) _ _ _, by rw [Hq.out]; exact own_set3 s_5.out O_5.out (by decide) _ _ _, box3_set O_5.out⟩, lt3.out, kSet (kSet (kSet Kt5.out (p := ⟨gt3, 0, none⟩) lt3.out _) (p := ⟨gt3, 1, none⟩) lt3.out _) (p := ⟨gt3, 2, none⟩) lt3.out _⟩
      · skip
        go_simp
        obtain ⟨xt2, et2⟩ : ∃ z, xt1.alloc (.cells #[] 46) = z := ⟨_, rfl⟩
        have kt2 : Below xt1.heap.size xt1 xt2 := by rw [← et2]; exact kAlloc (Below.refl _ _) _
        have bt2 : xt2.heap[xt1.heap.size]? = some (.cells #[] 46) := by rw [← et2]; exact nNew _ _
        try rw [et2]
        obtain ⟨gt2, ft2⟩ : ∃ z, xt1.heap.size = z := ⟨_, rfl⟩
        have Kt2 := Lib.hid (kTrans Kt1.out kt2)
        have lt2 := Lib.hid (show w2.heap.size ≤ gt2 by rw [← ft2]; exact Kt1.out.size)
        rw [ft2] at bt2 ⊢
        have e2_2 := Lib.hid (blk_below e2_1.out kt2)
        have e6_2 := Lib.hid bt2
        refine hK.out _ _ (HSx.out _ Kt2.out) (fun _ => ?_)
        clear hK K kt2 bt2 et2 ft2
        refine wpAnyH_ready (rs := [5, 11]) (by kernel_rfl) (by simp) ?_
        refine AllReadyH.cons rfl (fun K hK => ?_) (AllReadyH.cons rfl (fun K hK => ?_) AllReadyH.nil)
        · skip
          have owt3 : xt2.ownsRow w2.heap.size 48 3 (.slice (some ⟨gt1, 0, none⟩) 0 0) 0 [] := owns_new lt1.out e2_2.out
          refine step_append_own rfl _ _ 28 rfl w2.heap.size 48 m0_ _ 3 6 Try.underlying28 Hm.out Hm1.out Hm2.out Hm3.out rfl (by decide) (.slice (some ⟨gt1, 0, none⟩) 0 0) 0 [] rfl owt3 ⟨b, 0, none⟩ A A (flatNd l) rfl HLn.out (fun j u hu => nd_news (HKn.out _ Kt2.out).p0 j u hu) (flatNd_one _) (by unfold maxLen; omega) (by omega) (Kt2.out.size) ?_
          intro vt3 xt3 ot3 rt3 _
          rw [List.nil_append, Nat.zero_add] at ot3
          obtain ⟨vat3, vct3, rfl⟩ := owns_slice ot3
          have Kt3 := Lib.hid (grown_below Kt2.out rt3 (fun k hk => (owt3.lt k hk).1))
          have e6_3 := Lib.hid ((rt3.block _ (blk_lt e6_2.out) (fun e => row_block owt3 e6_2.out (by decide) e.symm)).trans e6_2.out)
          have n_3 := Lib.hid ot3
          refine hK.out _ _ (HSx.out _ Kt3.out) (fun _ => ?_)
          clear hK K owt3 ot3 rt3
          refine wpAnyH_ready (rs := [9, 11]) (by kernel_rfl) (by simp) ?_
          refine AllReadyH.cons rfl (fun K hK => ?_) (AllReadyH.cons rfl (fun K hK => ?_) AllReadyH.nil)
          · skip
            have owt4 : xt3.ownsRow w2.heap.size 46 1 (.slice (some ⟨gt2, 0, none⟩) 0 0) 0 [] := owns_new lt2.out e6_3.out
            refine step_append_own rfl _ _ 24 rfl w2.heap.size 46 j0_ _ 1 2 Try.underlying24 Hj.out Hj1.out Hj2.out Hj3.out rfl (by decide) (.slice (some ⟨gt2, 0, none⟩) 0 0) 0 [] rfl owt4 ⟨k, 0, none⟩ q q (flatSh p) rfl HLs.out (fun j u hu => sh_news (HKn.out _ Kt3.out).p1 j u hu) (flatSh_one _) (by unfold maxLen; omega) (by omega) (Kt3.out.size) ?_
            intro vt4 xt4 ot4 rt4 _
            rw [List.nil_append, Nat.zero_add] at ot4
            obtain ⟨vat4, vct4, rfl⟩ := owns_slice ot4
            have Kt4 := Lib.hid (grown_below Kt3.out rt4 (fun k hk => (owt4.lt k hk).1))
            have n_4 := Lib.hid (own_grown n_3.out rt4 (rows_apart n_3.out owt4 (by decide)))
            have s_4 := Lib.hid ot4
            refine hK.out _ _ (HSx.out _ Kt4.out) (fun _ => ?_)
            clear hK K owt4 ot4 rt4
            refine wpAnyH_take (i := 10) (v := .agg #[.int .i8 ni, .slice vat3 A vct3, .slice vat4 q vct4]) rfl (by kernel_rfl) (by kernel_rfl) (by kernel_rfl) (fun _ _ _ h => absurd h.1 (by simp)) (Or.inl ⟨by rfl, fun w7 hSw => ?_⟩) (by assumption) ?_
            · clear hSw
              go_simp
            try simp only [Act.put, List.setIfInBounds_toArray, List.set_cons_zero, List.set_cons_succ]
            refine wpAnyH_ready (rs := [11]) (by kernel_rfl) (by simp) ?_
            refine AllReadyH.cons rfl (fun K hK => ?_) AllReadyH.nil
            · skip
              go_simp
              obtain ⟨xt5, et5⟩ : ∃ z, xt4.alloc (.cells #[.int .i8 0, .slice none 0 0, .slice none 0 0] 30) = z := ⟨_, rfl⟩
              have kt5 : Below xt4.heap.size xt4 xt5 := by rw [← et5]; exact kAlloc (Below.refl _ _) _
              have bt5 : xt5.heap[xt4.heap.size]? = some (.cells #[.int .i8 0, .slice none 0 0, .slice none 0 0] 30) := by rw [← et5]; exact nNew _ _
              try rw [et5]
              obtain ⟨gt5, ft5⟩ : ∃ z, xt4.heap.size = z := ⟨_, rfl⟩
              have Kt5 := Lib.hid (kTrans Kt4.out kt5)
              have lt5 := Lib.hid (show w2.heap.size ≤ gt5 by rw [← ft5]; exact Kt4.out.size)
              rw [ft5] at bt5 ⊢
              have n_5 := Lib.hid (owns_below n_4.out kt5)
              have s_5 := Lib.hid (owns_below s_4.out kt5)
              have O_5 := Lib.hid bt5
              refine hK.out _ _ (HSx.out _ Kt5.out) (fun _ => ?_)
              clear hK K kt5 bt5 et5 ft5
              refine wpAnyH_ready (rs := [12]) (by kernel_rfl) (by simp) ?_
              refine AllReadyH.cons rfl (fun K hK => ?_) AllReadyH.nil
              · skip
                have q0 : xt5.cell? ⟨gt5, 0, none⟩ = some (.int .i8 0) := cell_of_row _ _ 0 _ _ _ O_5.out
                have q1 : xt5.cell? ⟨gt5, 1, none⟩ = some (.slice none 0 0) := cell_of_row _ _ 1 _ _ _ O_5.out
                have q2 : xt5.cell? ⟨gt5, 2, none⟩ = some (.slice none 0 0) := cell_of_row _ _ 2 _ _ _ O_5.out
                have z0 : xt5.frozen? ⟨gt5, 0, none⟩ = false := frozen_of_row _ _ 0 _ _ O_5.out
                have z1 : xt5.frozen? ⟨gt5, 1, none⟩ = false := frozen_of_row _ _ 1 _ _ O_5.out
                have z2 : xt5.frozen? ⟨gt5, 2, none⟩ = false := frozen_of_row _ _ 2 _ _ O_5.out
                have lz := blk_lt O_5.out
                go_simp
                refine hK.out _ _ (HSx.out _ (kSet (kSet (kSet Kt5.out (p := ⟨gt5, 0, none⟩) lt5.out _) (p := ⟨gt5, 1, none⟩) lt5.out _) (p := ⟨gt5, 2, none⟩) lt5.out _)) (fun _ => ?_)
                clear hK K q0 q1 q2 z0 z1 z2 lz
                refine wpAnyH_done (by kernel_rfl) ?_ _
                refine ⟨rfl, ?_⟩
                go_wp2_with fail
                go_meet
                exact ⟨gt5, .slice vat3 A vct3, .slice vat4 q vct4, rfl, ⟨by rw [HA.out]; exact own_set3 n_5.out O_5.out (by decide) _ _ _, by rw [Hq.out]; exact own_set3 s_5.out O_5.out (by decide) _ _ _, box3_set O_5.out⟩, lt5.out, kSet (kSet (kSet Kt5.out (p := ⟨gt5, 0, none⟩) lt5.out _) (p := ⟨gt5, 1, none⟩) lt5.out _) (p := ⟨gt5, 2, none⟩) lt5.out _⟩
          · skip
            go_simp
            obtain ⟨xt4, et4⟩ : ∃ z, xt3.alloc (.cells #[.int .i8 0, .slice none 0 0, .slice none 0 0] 30) = z := ⟨_, rfl⟩
            have kt4 : Below xt3.heap.size xt3 xt4 := by rw [← et4]; exact kAlloc (Below.refl _ _) _
            have bt4 : xt4.heap[xt3.heap.size]? = some (.cells #[.int .i8 0, .slice none 0 0, .slice none 0 0] 30) := by rw [← et4]; exact nNew _ _
            try rw [et4]
            obtain ⟨gt4, ft4⟩ : ∃ z, xt3.heap.size = z := ⟨_, rfl⟩
            have Kt4 := Lib.hid (kTrans Kt3.out kt4)
            have lt4 := Lib.hid (show w2.heap.size ≤ gt4 by rw [← ft4]; exact Kt3.out.size)
            rw [ft4] at bt4 ⊢
            have e6_4 := Lib.hid (blk_below e6_3.out kt4)
            have n_4 := Lib.hid (owns_below n_3.out kt4)
            have O_4 := Lib.hid bt4
            refine hK.out _ _ (HSx.out _ Kt4.out) (fun _ => ?_)
            clear hK K kt4 bt4 et4 ft4
            refine wpAnyH_ready (rs := [9]) (by kernel_rfl) (by simp) ?_
            refine AllReadyH.cons rfl (fun K hK => ?_) AllReadyH.nil
            · skip
              have owt5 : xt4.ownsRow w2.heap.size 46 1 (.slice (some ⟨gt2, 0, none⟩) 0 0) 0 [] := owns_new lt2.out e6_4.out
              refine step_append_own rfl _ _ 24 rfl w2.heap.size 46 j0_ _ 1 2 Try.underlying24 Hj.out Hj1.out Hj2.out Hj3.out rfl (by decide) (.slice (some ⟨gt2, 0, none⟩) 0 0) 0 [] rfl owt5 ⟨k, 0, none⟩ q q (flatSh p) rfl HLs.out (fun j u hu => sh_news (HKn.out _ Kt4.out).p1 j u hu) (flatSh_one _) (by unfold maxLen; omega) (by omega) (Kt4.out.size) ?_
              intro vt5 xt5 ot5 rt5 _
              rw [List.nil_append, Nat.zero_add] at ot5
              obtain ⟨vat5, vct5, rfl⟩ := owns_slice ot5
              have Kt5 := Lib.hid (grown_below Kt4.out rt5 (fun k hk => (owt5.lt k hk).1))
              have n_5 := Lib.hid (own_grown n_4.out rt5 (rows_apart n_4.out owt5 (by decide)))
              have O_5 := Lib.hid ((rt5.block _ (blk_lt O_4.out) (fun e => row_block owt5 O_4.out (by decide) e.symm)).trans O_4.out)
              have s_5 := Lib.hid ot5
              refine hK.out _ _ (HSx.out _ Kt5.out) (fun _ => ?_)
              clear hK K owt5 ot5 rt5
              refine wpAnyH_take (i := 10) (v := .agg #[.int .i8 ni, .slice vat3 A vct3, .slice vat5 q vct5]) rfl (by kernel_rfl) (by kernel_rfl) (by kernel_rfl) (fun _ _ _ h => absurd h.1 (by simp)) (Or.inl ⟨by rfl, fun w7 hSw => ?_⟩) (by assumption) ?_
              · clear hSw
                go_simp
              try simp only [Act.put, List.setIfInBounds_toArray, List.set_cons_zero, List.set_cons_succ]
              refine wpAnyH_ready (rs := [12]) (by kernel_rfl) (by simp) ?_
              refine AllReadyH.cons rfl (fun K hK => ?_) AllReadyH.nil
              · skip
                have q0 : xt5.cell? ⟨gt4, 0, none⟩ = some (.int .i8 0) := cell_of_row _ _ 0 _ _ _ O_5.out
                have q1 : xt5.cell? ⟨gt4, 1, none⟩ = some (.slice none 0 0) := cell_of_row _ _ 1 _ _ _ O_5.out
                have q2 : xt5.cell? ⟨gt4, 2, none⟩ = some (.slice none 0 0) := cell_of_row _ _ 2 _ _ _ O_5.out
                have z0 : xt5.frozen? ⟨gt4, 0, none⟩ = false := frozen_of_row _ _ 0 _ _ O_5.out
                have z1 : xt5.frozen? ⟨gt4, 1, none⟩ = false := frozen_of_row _ _ 1 _ _ O_5.out
                have z2 : xt5.frozen? ⟨gt4, 2, none⟩ = false := frozen_of_row _ _ 2 _ _ O_5.out
                have lz := blk_lt O_5.out
                go_simp
                refine hK.out _ _ (HSx.out _ (kSet (kSet (kSet Kt5.out (p := ⟨gt4, 0, none⟩) lt4.out _) (p := ⟨gt4, 1, none⟩) lt4.out _) (p := ⟨gt4, 2, none⟩) lt4.out _)) (fun _ => ?_)
                clear hK K q0 q1 q2 z0 z1 z2 lz
                refine wpAnyH_done (by kernel_rfl) ?_ _
                refine ⟨rfl, ?_⟩
                go_wp2_with fail
                go_meet
                exact ⟨gt4, .slice vat3 A vct3, .slice vat5 q vct5, rfl, ⟨by rw [HA.out]; exact own_set3 n_5.out O_5.out (by decide) _ _ _, by rw [Hq.out]; exact own_set3 s_5.out O_5.out (by decide) _ _ _, box3_set O_5.out⟩, lt4.out, kSet (kSet (kSet Kt5.out (p := ⟨gt4, 0, none⟩) lt4.out _) (p := ⟨gt4, 1, none⟩) lt4.out _) (p := ⟨gt4, 2, none⟩) lt4.out _⟩
        · skip
          go_simp
          obtain ⟨xt3, et3⟩ : ∃ z, xt2.alloc (.cells #[.int .i8 0, .slice none 0 0, .slice none 0 0] 30) = z := ⟨_, rfl⟩
          have kt3 : Below xt2.heap.size xt2 xt3 := by rw [← et3]; exact kAlloc (Below.refl _ _) _
          have bt3 : xt3.heap[xt2.heap.size]? = some (.cells #[.int .i8 0, .slice none 0 0, .slice none 0 0] 30) := by rw [← et3]; exact nNew _ _
          try rw [et3]
          obtain ⟨gt3, ft3⟩ : ∃ z, xt2.heap.size = z := ⟨_, rfl⟩
          have Kt3 := Lib.hid (kTrans Kt2.out kt3)
          have lt3 := Lib.hid (show w2.heap.size ≤ gt3 by rw [← ft3]; exact Kt2.out.size)
          rw [ft3] at bt3 ⊢
          have e2_3 := Lib.hid (blk_below e2_2.out kt3)
          have e6_3 := Lib.hid (blk_below e6_2.out kt3)
          have O_3 := Lib.hid bt3
          refine hK.out _ _ (HSx.out _ Kt3.out) (fun _ => ?_)
          clear hK K kt3 bt3 et3 ft3
          refine wpAnyH_ready (rs := [5]) (by kernel_rfl) (by simp) ?_
          refine AllReadyH.cons rfl (fun K hK => ?_) AllReadyH.nil
          · skip
            have owt4 : xt3.ownsRow w2.heap.size 48 3 (.slice (some ⟨gt1, 0, none⟩) 0 0) 0 [] := owns_new lt1.out e2_3.out
            refine step_append_own rfl _ _ 28 rfl w2.heap.size 48 m0_ _ 3 6 Try.underlying28 Hm.out Hm1.out Hm2.out Hm3.out rfl (by decide) (.slice (some ⟨gt1, 0, none⟩) 0 0) 0 [] rfl owt4 ⟨b, 0, none⟩ A A (flatNd l) rfl HLn.out (fun j u hu => nd_news (HKn.out _ Kt3.out).p0 j u hu) (flatNd_one _) (by unfold maxLen; omega) (by omega) (Kt3.out.size) ?_
            intro vt4 xt4 ot4 rt4 _
            rw [List.nil_append, Nat.zero_add] at ot4
            obtain ⟨vat4, vct4, rfl⟩ := owns_slice ot4
            have Kt4 := Lib.hid (grown_below Kt3.out rt4 (fun k hk => (owt4.lt k hk).1))
            have e6_4 := Lib.hid ((rt4.block _ (blk_lt e6_3.out) (fun e => row_block owt4 e6_3.out (by decide) e.symm)).trans e6_3.out)
            have O_4 := Lib.hid ((rt4.block _ (blk_lt O_3.out) (fun e => row_block owt4 O_3.out (by decide) e.symm)).trans O_3.out)
            have n_4 := Lib.hid ot4
            refine hK.out _ _ (HSx.out _ Kt4.out) (fun _ => ?_)
            clear hK K owt4 ot4 rt4
            refine wpAnyH_ready (rs := [9]) (by kernel_rfl) (by simp) ?_
            refine AllReadyH.cons rfl (fun K hK => ?_) AllReadyH.nil
            · skip
              have owt5 : xt4.ownsRow w2.heap.size 46 1 (.slice (some ⟨gt2, 0, none⟩) 0 0) 0 [] := owns_new lt2.out e6_4.out
              refine step_append_own rfl _ _ 24 rfl w2.heap.size 46 j0_ _ 1 2 Try.underlying24 Hj.out Hj1.out Hj2.out Hj3.out rfl (by decide) (.slice (some ⟨gt2, 0, none⟩) 0 0) 0 [] rfl owt5 ⟨k, 0, none⟩ q q (flatSh p) rfl HLs.out (fun j u hu => sh_news (HKn.out _ Kt4.out).p1 j u hu) (flatSh_one _) (by unfold maxLen; omega) (by omega) (Kt4.out.size) ?_
              intro vt5 xt5 ot5 rt5 _
              rw [List.nil_append, Nat.zero_add] at ot5
              obtain ⟨vat5, vct5, rfl⟩ := owns_slice ot5
              have Kt5 := Lib.hid (grown_below Kt4.out rt5 (fun k hk => (owt5.lt k hk).1))
              have O_5 := Lib.hid ((rt5.block _ (blk_lt O_4.out) (fun e => row_block owt5 O_4.out (by decide) e.symm)).trans O_4.out)
              have n_5 := Lib.hid (own_grown n_4.out rt5 (rows_apart n_4.out owt5 (by decide)))
              have s_5 := Lib.hid ot5
              refine hK.out _ _ (HSx.out _ Kt5.out) (fun _ => ?_)
              clear hK K owt5 ot5 rt5
              refine wpAnyH_take (i := 10) (v := .agg #[.int .i8 ni, .slice vat4 A vct4, .slice vat5 q vct5]) rfl (by kernel_rfl) (by kernel_rfl) (by kernel_rfl) (fun _ _ _ h => absurd h.1 (by simp)) (Or.inl ⟨by rfl, fun w7 hSw => ?_⟩) (by assumption) ?_
              · clear hSw
                go_simp
              try simp only [Act.put, List.setIfInBounds_toArray, List.set_cons_zero, List.set_cons_succ]
              refine wpAnyH_ready (rs := [12]) (by kernel_rfl) (by simp) ?_
              refine AllReadyH.cons rfl (fun K hK => ?_) AllReadyH.nil
              · skip
                have q0 : xt5.cell? ⟨gt3, 0, none⟩ = some (.int .i8 0) := cell_of_row _ _ 0 _ _ _ O_5.out
                have q1 : xt5.cell? ⟨gt3, 1, none⟩ = some (.slice none 0 0) := cell_of_row _ _ 1 _ _ _ O_5.out
                have q2 : xt5.cell? ⟨gt3, 2, none⟩ = some (.slice none 0 0) := cell_of_row _ _ 2 _ _ _ O_5.out
                have z0 : xt5.frozen? ⟨gt3, 0, none⟩ = false := frozen_of_row _ _ 0 _ _ O_5.out
                have z1 : xt5.frozen? ⟨gt3, 1, none⟩ = false := frozen_of_row _ _ 1 _ _ O_5.out
                have z2 : xt5.frozen? ⟨gt3, 2, none⟩ = false := frozen_of_row _ _ 2 _ _ O_5.out
                have lz := blk_lt O_5.out
                go_simp
                refine hK.out _ _ (HSx.out _ (kSet (kSet (kSet Kt5.out (p := ⟨gt3, 0, none⟩) lt3.out _) (p := ⟨gt3, 1, none⟩) lt3.out _) (p := ⟨gt3, 2, none⟩) lt3.out _)) (fun _ => ?_)
                clear hK K q0 q1 q2 z0 z1 z2 lz
                refine wpAnyH_done (by kernel_rfl) ?_ _
                refine ⟨rfl, ?_⟩
                go_wp2_with fail
                go_meet
                exact ⟨gt3, .slice vat4 A vct4, .slice vat5 q vct5, rfl, ⟨by rw [HA.out]; exact own_set3 n_5.out O_5.out (by decide) _ _ _, by rw [Hq.out]; exact own_set3 s_5.out O_5.out (by decide) _ _ _, box3_set O_5.out⟩, lt3.out, kSet (kSet (kSet Kt5.out (p := ⟨gt3, 0, none⟩) lt3.out _) (p := ⟨gt3, 1, none⟩) lt3.out _) (p := ⟨gt3, 2, none⟩) lt3.out _⟩
      · skip
        go_simp
        obtain ⟨xt2, et2⟩ : ∃ z, xt1.alloc (.cells #[.int .i8 0, .slice none 0 0, .slice none 0 0] 30) = z := ⟨_, rfl⟩
        have kt2 : Below xt1.heap.size xt1 xt2 := by rw [← et2]; exact kAlloc (Below.refl _ _) _
        have bt2 : xt2.heap[xt1.heap.size]? = some (.cells #[.int .i8 0, .slice none 0 0, .slice none 0 0] 30) := by rw [← et2]; exact nNew _ _
        try rw [et2]
        obtain ⟨gt2, ft2⟩ : ∃ z, xt1.heap.size = z := ⟨_, rfl⟩
        have Kt2 := Lib.hid (kTrans Kt1.out kt2)
        have lt2 := Lib.hid (show w2.heap.size ≤ gt2 by rw [← ft2]; exact Kt1.out.size)
        rw [ft2] at bt2 ⊢
        have e2_2 := Lib.hid (blk_below e2_1.out kt2)
        have O_2 := Lib.hid bt2
        refine hK.out _ _ (HSx.out _ Kt2.out) (fun _ => ?_)
        clear hK K kt2 bt2 et2 ft2
        refine wpAnyH_ready (rs := [5, 6]) (by kernel_rfl) (by simp) ?_
        refine AllReadyH.cons rfl (fun K hK => ?_) (AllReadyH.cons rfl (fun K hK => ?_) AllReadyH.nil)
        · skip
          have owt3 : xt2.ownsRow w2.heap.size 48 3 (.slice (some ⟨gt1, 0, none⟩) 0 0) 0 [] := owns_new lt1.out e2_2.out
          refine step_append_own rfl _ _ 28 rfl w2.heap.size 48 m0_ _ 3 6 Try.underlying28 Hm.out Hm1.out Hm2.out Hm3.out rfl (by decide) (.slice (some ⟨gt1, 0, none⟩) 0 0) 0 [] rfl owt3 ⟨b, 0, none⟩ A A (flatNd l) rfl HLn.out (fun j u hu => nd_news (HKn.out _ Kt2.out).p0 j u hu) (flatNd_one _) (by unfold maxLen; omega) (by omega) (Kt2.out.size) ?_
          intro vt3 xt3 ot3 rt3 _
          rw [List.nil_append, Nat.zero_add] at ot3
          obtain ⟨vat3, vct3, rfl⟩ := owns_slice ot3
          have Kt3 := Lib.hid (grown_below Kt2.out rt3 (fun k hk => (owt3.lt k hk).1))
          have O_3 := Lib.hid ((rt3.block _ (blk_lt O_2.out) (fun e => row_block owt3 O_2.out (by decide) e.symm)).trans O_2.out)
          have n_3 := Lib.hid ot3
          refine hK.out _ _ (HSx.out _ Kt3.out) (fun _ => ?_)
          clear hK K owt3 ot3 rt3
          refine wpAnyH_ready (rs := [6]) (by kernel_rfl) (by simp) ?_
          refine AllReadyH.cons rfl (fun K hK => ?_) AllReadyH.nil
          · skip
            go_simp
            obtain ⟨xt4, et4⟩ : ∃ z, xt3.alloc (.cells #[] 46) = z := ⟨_, rfl⟩
            have kt4 : Below xt3.heap.size xt3 xt4 := by rw [← et4]; exact kAlloc (Below.refl _ _) _
            have bt4 : xt4.heap[xt3.heap.size]? = some (.cells #[] 46) := by rw [← et4]; exact nNew _ _
            try rw [et4]
            obtain ⟨gt4, ft4⟩ : ∃ z, xt3.heap.size = z := ⟨_, rfl⟩
            have Kt4 := Lib.hid (kTrans Kt3.out kt4)
            have lt4 := Lib.hid (show w2.heap.size ≤ gt4 by rw [← ft4]; exact Kt3.out.size)
            rw [ft4] at bt4 ⊢
            have O_4 := Lib.hid (blk_below O_3.out kt4)
            have n_4 := Lib.hid (owns_below n_3.out kt4)
            have e6_4 := Lib.hid bt4
            refine hK.out _ _ (HSx.out _ Kt4.out) (fun _ => ?_)
            clear hK K kt4 bt4 et4 ft4
            refine wpAnyH_ready (rs := [9]) (by kernel_rfl) (by simp) ?_
            refine AllReadyH.cons rfl (fun K hK => ?_) AllReadyH.nil
            · skip
              have owt5 : xt4.ownsRow w2.heap.size 46 1 (.slice (some ⟨gt4, 0, none⟩) 0 0) 0 [] := owns_new lt4.out e6_4.out
              refine step_append_own rfl _ _ 24 rfl w2.heap.size 46 j0_ _ 1 2 Try.underlying24 Hj.out Hj1.out Hj2.out Hj3.out rfl (by decide) (.slice (some ⟨gt4, 0, none⟩) 0 0) 0 [] rfl owt5 ⟨k, 0, none⟩ q q (flatSh p) rfl HLs.out (fun j u hu => sh_news (HKn.out _ Kt4.out).p1 j u hu) (flatSh_one _) (by unfold maxLen; omega) (by omega) (Kt4.out.size) ?_
              intro vt5 xt5 ot5 rt5 _
              rw [List.nil_append, Nat.zero_add] at ot5
              obtain ⟨vat5, vct5, rfl⟩ := owns_slice ot5
              have Kt5 := Lib.hid (grown_below Kt4.out rt5 (fun k hk => (owt5.lt k hk).1))
              have O_5 := Lib.hid ((rt5.block _ (blk_lt O_4.out) (fun e => row_block owt5 O_4.out (by decide) e.symm)).trans O_4.out)
              have n_5 := Lib.hid (own_grown n_4.out rt5 (rows_apart n_4.out owt5 (by decide)))
              have s_5 := Lib.hid ot5
              refine hK.out _ _ (HSx.out _ Kt5.out) (fun _ => ?_)
              clear hK K owt5 ot5 rt5
              refine wpAnyH_take (i := 10) (v := .agg #[.int .i8 ni, .slice vat3 A vct3, .slice vat5 q vct5]) rfl (by kernel_rfl) (by kernel_rfl) (by kernel_rfl) (fun _ _ _ h => absurd h.1 (by simp)) (Or.inl ⟨by rfl, fun w7 hSw => ?_⟩) (by assumption) ?_
              · clear hSw
                go_simp
              try simp only [Act.put, List.setIfInBounds_toArray, List.set_cons_zero, List.set_cons_succ]
              refine wpAnyH_ready (rs := [12]) (by kernel_rfl) (by simp) ?_
              refine AllReadyH.cons rfl (fun K hK => ?_) AllReadyH.nil
              · skip
                have q0 : xt5.cell? ⟨gt2, 0, none⟩ = some (.int .i8 0) := cell_of_row _ _ 0 _ _ _ O_5.out
                have q1 : xt5.cell? ⟨gt2, 1, none⟩ = some (.slice none 0 0) := cell_of_row _ _ 1 _ _ _ O_5.out
                have q2 : xt5.cell? ⟨gt2, 2, none⟩ = some (.slice none 0 0) := cell_of_row _ _ 2 _ _ _ O_5.out
                have z0 : xt5.frozen? ⟨gt2, 0, none⟩ = false := frozen_of_row _ _ 0 _ _ O_5.out
                have z1 : xt5.frozen? ⟨gt2, 1, none⟩ = false := frozen_of_row _ _ 1 _ _ O_5.out
                have z2 : xt5.frozen? ⟨gt2, 2, none⟩ = false := frozen_of_row _ _ 2 _ _ O_5.out
                have lz := blk_lt O_5.out
                go_simp
                refine hK.out _ _ (HSx.out _ (kSet (kSet (kSet Kt5.out (p := ⟨gt2, 0, none⟩) lt2.out _) (p := ⟨gt2, 1, none⟩) lt2.out _) (p := ⟨gt2, 2, none⟩) lt2.out _)) (fun _ => ?_)
                clear hK K q0 q1 q2 z0 z1 z2 lz
                refine wpAnyH_done (by kernel_rfl) ?_ _
                refine ⟨rfl, ?_⟩
                go_wp2_with fail
                go_meet
                exact ⟨gt2, .slice vat3 A vct3, .slice vat5 q vct5, rfl, ⟨by rw [HA.out]; exact own_set3 n_5.out O_5.out (by decide) _ _ _, by rw [Hq.out]; exact own_set3 s_5.out O_5.out (by decide) _ _ _, box3_set O_5.out⟩, lt2.out, kSet (kSet (kSet Kt5.out (p := ⟨gt2, 0, none⟩) lt2.out _) (p := ⟨gt2, 1, none⟩) lt2.out _) (p := ⟨gt2, 2, none⟩) lt2.out _⟩
        · skip
          go_simp
          obtain ⟨xt3, et3⟩ : ∃ z, xt2.alloc (.cells #[] 46) = z := ⟨_, rfl⟩
          have kt3 : Below xt2.heap.size xt2 xt3 := by rw [← et3]; exact kAlloc (Below.refl _ _) _
          have bt3 : xt3.heap[xt2.heap.size]? = some (.cells #[] 46) := by rw [← et3]; exact nNew _ _
          try rw [et3]
          obtain ⟨gt3, ft3⟩ : ∃ z, xt2.heap.size = z := ⟨_, rfl⟩
          have Kt3 := Lib.hid (kTrans Kt2.out kt3)
          have lt3 := Lib.hid (show w2.heap.size ≤ gt3 by rw [← ft3]; exact Kt2.out.size)
          rw [ft3] at bt3 ⊢
          have e2_3 := Lib.hid (blk_below e2_2.out kt3)
          have O_3 := Lib.hid (blk_below O_2.out kt3)
          have e6_3 := Lib.hid bt3
          refine hK.out _ _ (HSx.out _ Kt3.out) (fun _ => ?_)
          clear hK K kt3 bt3 et3 ft3
          refine wpAnyH_ready (rs := [5]) (by kernel_rfl) (by simp) ?_
          refine AllReadyH.cons rfl (fun K hK => ?_) AllReadyH.nil
          · skip
            have owt4 : xt3.ownsRow w2.heap.size 48 3 (.slice (some ⟨gt1, 0, none⟩) 0 0) 0 [] := owns_new lt1.out e2_3.out
            refine step_append_own rfl _ _ 28 rfl w2.heap.size 48 m0_ _ 3 6 Try.underlying28 Hm.out Hm1.out Hm2.out Hm3.out rfl (by decide) (.slice (some ⟨gt1, 0, none⟩) 0 0) 0 [] rfl owt4 ⟨b, 0, none⟩ A A (flatNd l) rfl HLn.out (fun j u hu => nd_news (HKn.out _ Kt3.out).p0 j u hu) (flatNd_one _) (by unfold maxLen; omega) (by omega) (Kt3.out.size) ?_
            intro vt4 xt4 ot4 rt4 _
            rw [List.nil_append, Nat.zero_add] at ot4
            obtain ⟨vat4, vct4, rfl⟩ := owns_slice ot4
            have Kt4 := Lib.hid (grown_below Kt3.out rt4 (fun k hk => (owt4.lt k hk).1))
            have O_4 := Lib.hid ((rt4.block _ (blk_lt O_3.out) (fun e => row_block owt4 O_3.out (by decide) e.symm)).trans O_3.out)
            have e6_4 := Lib.hid ((rt4.block _ (blk_lt e6_3.out) (fun e => row_block owt4 e6_3.out (by decide) e.symm)).trans e6_3.out)
            have n_4 := Lib.hid ot4
            refine hK.out _ _ (HSx.out _ Kt4.out) (fun _ => ?_)
            clear hK K owt4 ot4 rt4
            refine wpAnyH_ready (rs := [9]) (by kernel_rfl) (by simp) ?_
            refine AllReadyH.cons rfl (fun K hK => ?_) AllReadyH.nil
            · skip
              have owt5 : xt4.ownsRow w2.heap.size 46 1 (.slice (some ⟨gt3, 0, none⟩) 0 0) 0 [] := owns_new lt3.out e6_4.out
              refine step_append_own rfl _ _ 24 rfl w2.heap.size 46 j0_ _ 1 2 Try.underlying24 Hj.out Hj1.out Hj2.out Hj3.out rfl (by decide) (.slice (some ⟨gt3, 0, none⟩) 0 0) 0 [] rfl owt5 ⟨k, 0, none⟩ q q (flatSh p) rfl HLs.out (fun j u hu => sh_news (HKn.out _ Kt4.out).p1 j u hu) (flatSh_one _) (by unfold maxLen; omega) (by omega) (Kt4.out.size) ?_
              intro vt5 xt5 ot5 rt5 _
              rw [List.nil_append, Nat.zero_add] at ot5
              obtain ⟨vat5, vct5, rfl⟩ := owns_slice ot5
              have Kt5 := Lib.hid (grown_below Kt4.out rt5 (fun k hk => (owt5.lt k hk).1))
              have O_5 := Lib.hid ((rt5.block _ (blk_lt O_4.out) (fun e => row_block owt5 O_4.out (by decide) e.symm)).trans O_4.out)
              have n_5 := Lib.hid (own_grown n_4.out rt5 (rows_apart n_4.out owt5 (by decide)))
              have s_5 := Lib.hid ot5
              refine hK.out _ _ (HSx.out _ Kt5.out) (fun _ => ?_)
              clear hK K owt5 ot5 rt5
              refine wpAnyH_take (i := 10) (v := .agg #[.int .i8 ni, .slice vat4 A vct4, .slice vat5 q vct5]) rfl (by kernel_rfl) (by kernel_rfl) (by kernel_rfl) (fun _ _ _ h => absurd h.1 (by simp)) (Or.inl ⟨by rfl, fun w7 hSw => ?_⟩) (by assumption) ?_
              · clear hSw
                go_simp
              try simp only [Act.put, List.setIfInBounds_toArray, List.set_cons_zero, List.set_cons_succ]
              refine wpAnyH_ready (rs := [12]) (by kernel_rfl) (by simp) ?_
              refine AllReadyH.cons rfl (fun K hK => ?_) AllReadyH.nil
              · skip
                have q0 : xt5.cell? ⟨gt2, 0, none⟩ = some (.int .i8 0) := cell_of_row _ _ 0 _ _ _ O_5.out
                have q1 : xt5.cell? ⟨gt2, 1, none⟩ = some (.slice none 0 0) := cell_of_row _ _ 1 _ _ _ O_5.out
                have q2 : xt5.cell? ⟨gt2, 2, none⟩ = some (.slice none 0 0) := cell_of_row _ _ 2 _ _ _ O_5.out
                have z0 : xt5.frozen? ⟨gt2, 0, none⟩ = false := frozen_of_row _ _ 0 _ _ O_5.out
                have z1 : xt5.frozen? ⟨gt2, 1, none⟩ = false := frozen_of_row _ _ 1 _ _ O_5.out
                have z2 : xt5.frozen? ⟨gt2, 2, none⟩ = false := frozen_of_row _ _ 2 _ _ O_5.out
                have lz := blk_lt O_5.out
                go_simp
                refine hK.out _ _ (HSx.out _ (kSet (kSet (kSet Kt5.out (p := ⟨gt2, 0, none⟩) lt2.out _) (p := ⟨gt2, 1, none⟩) lt2.out _) (p := ⟨gt2, 2, none⟩) lt2.out _)) (fun _ => ?_)
                clear hK K q0 q1 q2 z0 z1 z2 lz
                refine wpAnyH_done (by kernel_rfl) ?_ _
                refine ⟨rfl, ?_⟩
                go_wp2_with fail
                go_meet
                exact ⟨gt2, .slice vat4 A vct4, .slice vat5 q vct5, rfl, ⟨by rw [HA.out]; exact own_set3 n_5.out O_5.out (by decide) _ _ _, by rw [Hq.out]; exact own_set3 s_5.out O_5.out (by decide) _ _ _, box3_set O_5.out⟩, lt2.out, kSet (kSet (kSet Kt5.out (p := ⟨gt2, 0, none⟩) lt2.out _) (p := ⟨gt2, 1, none⟩) lt2.out _) (p := ⟨gt2, 2, none⟩) lt2.out _⟩
    · skip
      go_simp
      obtain ⟨xt1, et1⟩ : ∃ z, wd.alloc (.cells #[] 46) = z := ⟨_, rfl⟩
      have kt1 : Below wd.heap.size wd xt1 := by rw [← et1]; exact kAlloc (Below.refl _ _) _
      have bt1 : xt1.heap[wd.heap.size]? = some (.cells #[] 46) := by rw [← et1]; exact nNew _ _
      try rw [et1]
      obtain ⟨gt1, ft1⟩ : ∃ z, wd.heap.size = z := ⟨_, rfl⟩
      have Kt1 := Lib.hid (kTrans K0.out kt1)
      have lt1 := Lib.hid (show w2.heap.size ≤ gt1 by rw [← ft1]; exact K0.out.size)
      rw [ft1] at bt1 ⊢
      have e6_1 := Lib.hid bt1
      refine hK.out _ _ (HSx.out _ Kt1.out) (fun _ => ?_)
      clear hK K kt1 bt1 et1 ft1
      refine wpAnyH_ready (rs := [2, 11]) (by kernel_rfl) (by simp) ?_
      refine AllReadyH.cons rfl (fun K hK => ?_) (AllReadyH.cons rfl (fun K hK => ?_) AllReadyH.nil)
      · skip
        go_simp
        obtain ⟨xt2, et2⟩ : ∃ z, xt1.alloc (.cells #[] 48) = z := ⟨_, rfl⟩
        have kt2 : Below xt1.heap.size xt1 xt2 := by rw [← et2]; exact kAlloc (Below.refl _ _) _
        have bt2 : xt2.heap[xt1.heap.size]? = some (.cells #[] 48) := by rw [← et2]; exact nNew _ _
        try rw [et2]
        obtain ⟨gt2, ft2⟩ : ∃ z, xt1.heap.size = z := ⟨_, rfl⟩
        have Kt2 := Lib.hid (kTrans Kt1.out kt2)
        have lt2 := Lib.hid (show w2.heap.size ≤ gt2 by rw [← ft2]; exact Kt1.out.size)
        rw [ft2] at bt2 ⊢
        have e6_2 := Lib.hid (blk_below e6_1.out kt2)
        have e2_2 := Lib.hid bt2
        refine hK.out _ _ (HSx.out _ Kt2.out) (fun _ => ?_)
        clear hK K kt2 bt2 et2 ft2
        refine wpAnyH_ready (rs := [5, 11]) (by kernel_rfl) (by simp) ?_
        refine AllReadyH.cons rfl (fun K hK => ?_) (AllReadyH.cons rfl (fun K hK => ?_) AllReadyH.nil)
        · skip
          have owt3 : xt2.ownsRow w2.heap.size 48 3 (.slice (some ⟨gt2, 0, none⟩) 0 0) 0 [] := owns_new lt2.out e2_2.out
          refine step_append_own rfl _ _ 28 rfl w2.heap.size 48 m0_ _ 3 6 Try.underlying28 Hm.out Hm1.out Hm2.out Hm3.out rfl (by decide) (.slice (some ⟨gt2, 0, none⟩) 0 0) 0 [] rfl owt3 ⟨b, 0, none⟩ A A (flatNd l) rfl HLn.out (fun j u hu => nd_news (HKn.out _ Kt2.out).p0 j u hu) (flatNd_one _) (by unfold maxLen; omega) (by omega) (Kt2.out.size) ?_
          intro vt3 xt3 ot3 rt3 _
          rw [List.nil_append, Nat.zero_add] at ot3
          obtain ⟨vat3, vct3, rfl⟩ := owns_slice ot3
          have Kt3 := Lib.hid (grown_below Kt2.out rt3 (fun k hk => (owt3.lt k hk).1))
          have e6_3 := Lib.hid ((rt3.block _ (blk_lt e6_2.out) (fun e => row_block owt3 e6_2.out (by decide) e.symm)).trans e6_2.out)
          have n_3 := Lib.hid ot3
          refine hK.out _ _ (HSx.out _ Kt3.out) (fun _ => ?_)
          clear hK K owt3 ot3 rt3
          refine wpAnyH_ready (rs := [9, 11]) (by kernel_rfl) (by simp) ?_
          refine AllReadyH.cons rfl (fun K hK => ?_) (AllReadyH.cons rfl (fun K hK => ?_) AllReadyH.nil)
          · skip
            have owt4 : xt3.ownsRow w2.heap.size 46 1 (.slice (some ⟨gt1, 0, none⟩) 0 0) 0 [] := owns_new lt1.out e6_3.out
            refine step_append_own rfl _ _ 24 rfl w2.heap.size 46 j0_ _ 1 2 Try.underlying24 Hj.out Hj1.out Hj2.out Hj3.out rfl (by decide) (.slice (some ⟨gt1, 0, none⟩) 0 0) 0 [] rfl owt4 ⟨k, 0, none⟩ q q (flatSh p) rfl HLs.out (fun j u hu => sh_news (HKn.out _ Kt3.out).p1 j u hu) (flatSh_one _) (by unfold maxLen; omega) (by omega) (Kt3.out.size) ?_
            intro vt4 xt4 ot4 rt4 _
            rw [List.nil_append, Nat.zero_add] at ot4
            obtain ⟨vat4, vct4, rfl⟩ := owns_slice ot4
            have Kt4 := Lib.hid (grown_below Kt3.out rt4 (fun k hk => (owt4.lt k hk).1))
            have n_4 := Lib.hid (own_grown n_3.out rt4 (rows_apart n_3.out owt4 (by decide)))
            have s_4 := Lib.hid ot4
            refine hK.out _ _ (HSx.out _ Kt4.out) (fun _ => ?_)
            clear hK K owt4 ot4 rt4
            refine wpAnyH_take (i := 10) (v := .agg #[.int .i8 ni, .slice vat3 A vct3, .slice vat4 q vct4]) rfl (by kernel_rfl) (by kernel_rfl) (by kernel_rfl) (fun _ _ _ h => absurd h.1 (by simp)) (Or.inl ⟨by rfl, fun w7 hSw => ?_⟩) (by assumption) ?_
            · clear hSw
              go_simp
            try simp only [Act.put, List.setIfInBounds_toArray, List.set_cons_zero, List.set_cons_succ]
            refine wpAnyH_ready (rs := [11]) (by kernel_rfl) (by simp) ?_
            refine AllReadyH.cons rfl (fun K hK => ?_) AllReadyH.nil
            · skip
              go_simp
              obtain ⟨xt5, et5⟩ : ∃ z, xt4.alloc (.cells #[.int .i8 0, .slice none 0 0, .slice none 0 0] 30) = z := ⟨_, rfl⟩
              have kt5 : Below xt4.heap.size xt4 xt5 := by rw [← et5]; exact kAlloc (Below.refl _ _) _
              have bt5 : xt5.heap[xt4.heap.size]? = some (.cells #[.int .i8 0, .slice none 0 0, .slice none 0 0] 30) := by rw [← et5]; exact nNew _ _
              try rw [et5]
              obtain ⟨gt5, ft5⟩ : ∃ z, xt4.heap.size = z := ⟨_, rfl⟩
              have Kt5 := Lib.hid (kTrans Kt4.out kt5)
              have lt5 := Lib.hid (show w2.heap.size ≤ gt5 by rw [← ft5]; exact Kt4.out.size)
              rw [ft5] at bt5 ⊢
              have n_5 := Lib.hid (owns_below n_4.out kt5)
              have s_5 := Lib.hid (owns_below s_4.out kt5)
              have O_5 := Lib.hid bt5
              refine hK.out _ _ (HSx.out _ Kt5.out) (fun _ => ?_)
              clear hK K kt5 bt5 et5 ft5
              refine wpAnyH_ready (rs := [12]) (by kernel_rfl) (by simp) ?_
              refine AllReadyH.cons rfl (fun K hK => ?_) AllReadyH.nil
              · skip
                have q0 : xt5.cell? ⟨gt5, 0, none⟩ = some (.int .i8 0) := cell_of_row _ _ 0 _ _ _ O_5.out
                have q1 : xt5.cell? ⟨gt5, 1, none⟩ = some (.slice none 0 0) := cell_of_row _ _ 1 _ _ _ O_5.out
                have q2 : xt5.cell? ⟨gt5, 2, none⟩ = some (.slice none 0 0) := cell_of_row _ _ 2 _ _ _ O_5.out
                have z0 : xt5.frozen? ⟨gt5, 0, none⟩ = false := frozen_of_row _ _ 0 _ _ O_5.out
                have z1 : xt5.frozen? ⟨gt5, 1, none⟩ = false := frozen_of_row _ _ 1 _ _ O_5.out
                have z2 : xt5.frozen? ⟨gt5, 2, none⟩ = false := frozen_of_row _ _ 2 _ _ O_5.out
                have lz := blk_lt O_5.out
                go_simp
                refine hK.out _ _ (HSx.out _ (kSet (kSet (kSet Kt5.out (p := ⟨gt5, 0, none⟩) lt5.out _) (p := ⟨gt5, 1, none⟩) lt5.out _) (p := ⟨gt5, 2, none⟩) lt5.out _)) (fun _ => ?_)
                clear hK K q0 q1 q2 z0 z1 z2 lz
                refine wpAnyH_done (by kernel_rfl) ?_ _
                refine ⟨rfl, ?_⟩
                go_wp2_with fail
                go_meet
                exact ⟨gt5, .slice vat3 A vct3, .slice vat4 q vct4, rfl, ⟨by rw [HA.out]; exact own_set3 n_5.out O_5.out (by decide) _ _ _, by rw [Hq.out]; exact own_set3 s_5.out O_5.out (by decide) _ _ _, box3_set O_5.out⟩, lt5.out, kSet (kSet (kSet Kt5.out (p := ⟨gt5, 0, none⟩) lt5.out _) (p := ⟨gt5, 1, none⟩) lt5.out _) (p := ⟨gt5, 2, none⟩) lt5.out _⟩
          · skip
            go_simp
            obtain ⟨xt4, et4⟩ : ∃ z, xt3.alloc (.cells #[.int .i8 0, .slice none 0 0, .slice none 0 0] 30) = z := ⟨_, rfl⟩
            have kt4 : Below xt3.heap.size xt3 xt4 := by rw [← et4]; exact kAlloc (Below.refl _ _) _
            have bt4 : xt4.heap[xt3.heap.size]? = some (.cells #[.int .i8 0, .slice none 0 0, .slice none 0 0] 30) := by rw [← et4]; exact nNew _ _
            try rw [et4]
            obtain ⟨gt4, ft4⟩ : ∃ z, xt3.heap.size = z := ⟨_, rfl⟩
            have Kt4 := Lib.hid (kTrans Kt3.out kt4)
            have lt4 := Lib.hid (show w2.heap.size ≤ gt4 by rw [← ft4]; exact Kt3.out.size)
            rw [ft4] at bt4 ⊢
            have e6_4 := Lib.hid (blk_below e6_3.out kt4)
            have n_4 := Lib.hid (owns_below n_3.out kt4)
            have O_4 := Lib.hid bt4
            refine hK.out _ _ (HSx.out _ Kt4.out) (fun _ => ?_)
            clear hK K kt4 bt4 et4 ft4
            refine wpAnyH_ready (rs := [9]) (by kernel_rfl) (by simp) ?_
            refine AllReadyH.cons rfl (fun K hK => ?_) AllReadyH.nil
            · skip
              have owt5 : xt4.ownsRow w2.heap.size 46 1 (.slice (some ⟨gt1, 0, none⟩) 0 0) 0 [] := owns_new lt1.out e6_4.out
              refine step_append_own rfl _ _ 24 rfl w2.heap.size 46 j0_ _ 1 2 Try.underlying24 Hj.out Hj1.out Hj2.out Hj3.out rfl (by decide) (.slice (some ⟨gt1, 0, none⟩) 0 0) 0 [] rfl owt5 ⟨k, 0, none⟩ q q (flatSh p) rfl HLs.out (fun j u hu => sh_news (HKn.out _ Kt4.out).p1 j u hu) (flatSh_one _) (by unfold maxLen; omega) (by omega) (Kt4.out.size) ?_
              intro vt5 xt5 ot5 rt5 _
              rw [List.nil_append, Nat.zero_add] at ot5
              obtain ⟨vat5, vct5, rfl⟩ := owns_slice ot5
              have Kt5 := Lib.hid (grown_below Kt4.out rt5 (fun k hk => (owt5.lt k hk).1))
              have n_5 := Lib.hid (own_grown n_4.out rt5 (rows_apart n_4.out owt5 (by decide)))
              have O_5 := Lib.hid ((rt5.block _ (blk_lt O_4.out) (fun e => row_block owt5 O_4.out (by decide) e.symm)).trans O_4.out)
              have s_5 := Lib.hid ot5
              refine hK.out _ _ (HSx.out _ Kt5.out) (fun _ => ?_)
              clear hK K owt5 ot5 rt5
              refine wpAnyH_take (i := 10) (v := .agg #[.int .i8 ni, .slice vat3 A vct3, .slice vat5 q vct5]) rfl (by kernel_rfl) (by kernel_rfl) (by kernel_rfl) (fun _ _ _ h => absurd h.1 (by simp)) (Or.inl ⟨by rfl, fun w7 hSw => ?_⟩) (by assumption) ?_
              · clear hSw
                go_simp
              try simp only [Act.put, List.setIfInBounds_toArray, List.set_cons_zero, List.set_cons_succ]
              refine wpAnyH_ready (rs := [12]) (by kernel_rfl) (by simp) ?_
              refine AllReadyH.cons rfl (fun K hK => ?_) AllReadyH.nil
              · skip
                have q0 : xt5.cell? ⟨gt4, 0, none⟩ = some (.int .i8 0) := cell_of_row _ _ 0 _ _ _ O_5.out
                have q1 : xt5.cell? ⟨gt4, 1, none⟩ = some (.slice none 0 0) := cell_of_row _ _ 1 _ _ _ O_5.out
                have q2 : xt5.cell? ⟨gt4, 2, none⟩ = some (.slice none 0 0) := cell_of_row _ _ 2 _ _ _ O_5.out
                have z0 : xt5.frozen? ⟨gt4, 0, none⟩ = false := frozen_of_row _ _ 0 _ _ O_5.out
                have z1 : xt5.frozen? ⟨gt4, 1, none⟩ = false := frozen_of_row _ _ 1 _ _ O_5.out
                have z2 : xt5.frozen? ⟨gt4, 2, none⟩ = false := frozen_of_row _ _ 2 _ _ O_5.out
                have lz := blk_lt O_5.out
                go_simp
                refine hK.out _ _ (HSx.out _ (kSet (kSet (kSet Kt5.out (p := ⟨gt4, 0, none⟩) lt4.out _) (p := ⟨gt4, 1, none⟩) lt4.out _) (p := ⟨gt4, 2, none⟩) lt4.out _)) (fun _ => ?_)
                clear hK K q0 q1 q2 z0 z1 z2 lz
                refine wpAnyH_done (by kernel_rfl) ?_ _
                refine ⟨rfl, ?_⟩
                go_wp2_with fail
                go_meet
                exact ⟨gt4, .slice vat3 A vct3, .slice vat5 q vct5, rfl, ⟨by rw [HA.out]; exact own_set3 n_5.out O_5.out (by decide) _ _ _, by rw [Hq.out]; exact own_set3 s_5.out O_5.out (by decide) _ _ _, box3_set O_5.out⟩, lt4.out, kSet (kSet (kSet Kt5.out (p := ⟨gt4, 0, none⟩) lt4.out _) (p := ⟨gt4, 1, none⟩) lt4.out _) (p := ⟨gt4, 2, none⟩) lt4.out _⟩
        · skip
          go_simp
          obtain ⟨xt3, et3⟩ : ∃ z, xt2.alloc (.cells #[.int .i8 0, .slice none 0 0, .slice none 0 0] 30) = z := ⟨_, rfl⟩
          have kt3 : Below xt2.heap.size xt2 xt3 := by rw [← et3]; exact kAlloc (Below.refl _ _) _
          have bt3 : xt3.heap[xt2.heap.size]? = some (.cells #[.int .i8 0, .slice none 0 0, .slice none 0 0] 30) := by rw [← et3]; exact nNew _ _
          try rw [et3]
          obtain ⟨gt3, ft3⟩ : ∃ z, xt2.heap.size = z := ⟨_, rfl⟩
          have Kt3 := Lib.hid (kTrans Kt2.out kt3)
          have lt3 := Lib.hid (show w2.heap.size ≤ gt3 by rw [← ft3]; exact Kt2.out.size)
          rw [ft3] at bt3 ⊢
          have e6_3 := Lib.hid (blk_below e6_2.out kt3)
          have e2_3 := Lib.hid (blk_below e2_2.out kt3)
          have O_3 := Lib.hid bt3
          refine hK.out _ _ (HSx.out _ Kt3.out) (fun _ => ?_)
          clear hK K kt3 bt3 et3 ft3
          refine wpAnyH_ready (rs := [5]) (by kernel_rfl) (by simp) ?_
          refine AllReadyH.cons rfl (fun K hK => ?_) AllReadyH.nil
          · skip
            have owt4 : xt3.ownsRow w2.heap.size 48 3 (.slice (some ⟨gt2, 0, none⟩) 0 0) 0 [] := owns_new lt2.out e2_3.out
            refine step_append_own rfl _ _ 28 rfl w2.heap.size 48 m0_ _ 3 6 Try.underlying28 Hm.out Hm1.out Hm2.out Hm3.out rfl (by decide) (.slice (some ⟨gt2, 0, none⟩) 0 0) 0 [] rfl owt4 ⟨b, 0, none⟩ A A (flatNd l) rfl HLn.out (fun j u hu => nd_news (HKn.out _ Kt3.out).p0 j u hu) (flatNd_one _) (by unfold maxLen; omega) (by omega) (Kt3.out.size) ?_
            intro vt4 xt4 ot4 rt4 _
            rw [List.nil_append, Nat.zero_add] at ot4
            obtain ⟨vat4, vct4, rfl⟩ := owns_slice ot4
            have Kt4 := Lib.hid (grown_below Kt3.out rt4 (fun k hk => (owt4.lt k hk).1))
            have e6_4 := Lib.hid ((rt4.block _ (blk_lt e6_3.out) (fun e => row_block owt4 e6_3.out (by decide) e.symm)).trans e6_3.out)
            have O_4 := Lib.hid ((rt4.block _ (blk_lt O_3.out) (fun e => row_block owt4 O_3.out (by decide) e.symm)).trans O_3.out)
            have n_4 := Lib.hid ot4
            refine hK.out _ _ (HSx.out _ Kt4.out) (fun _ => ?_)
            clear hK K owt4 ot4 rt4
            refine wpAnyH_ready (rs := [9]) (by kernel_rfl) (by simp) ?_
            refine AllReadyH.cons rfl (fun K hK => ?_) AllReadyH.nil
            · skip
              have owt5 : xt4.ownsRow w2.heap.size 46 1 (.slice (some ⟨gt1, 0, none⟩) 0 0) 0 [] := owns_new lt1.out e6_4.out
              refine step_append_own rfl _ _ 24 rfl w2.heap.size 46 j0_ _ 1 2 Try.underlying24 Hj.out Hj1.out Hj2.out Hj3.out rfl (by decide) (.slice (some ⟨gt1, 0, none⟩) 0 0) 0 [] rfl owt5 ⟨k, 0, none⟩ q q (flatSh p) rfl HLs.out (fun j u hu => sh_news (HKn.out _ Kt4.out).p1 j u hu) (flatSh_one _) (by unfold maxLen; omega) (by omega) (Kt4.out.size) ?_
              intro vt5 xt5 ot5 rt5 _
              rw [List.nil_append, Nat.zero_add] at ot5
              obtain ⟨vat5, vct5, rfl⟩ := owns_slice ot5
              have Kt5 := Lib.hid (grown_below Kt4.out rt5 (fun k hk => (owt5.lt k hk).1))
              have O_5 := Lib.hid ((rt5.block _ (blk_lt O_4.out) (fun e => row_block owt5 O_4.out (by decide) e.symm)).trans O_4.out)
              have n_5 := Lib.hid (own_grown n_4.out rt5 (rows_apart n_4.out owt5 (by decide)))
              have s_5 := Lib.hid ot5
              refine hK.out _ _ (HSx.out _ Kt5.out) (fun _ => ?_)
              clear hK K owt5 ot5 rt5
              refine wpAnyH_take (i := 10) (v := .agg #[.int .i8 ni, .slice vat4 A vct4, .slice vat5 q vct5]) rfl (by kernel_rfl) (by kernel_rfl) (by kernel_rfl) (fun _ _ _ h => absurd h.1 (by simp)) (Or.inl ⟨by rfl, fun w7 hSw => ?_⟩) (by assumption) ?_
              · clear hSw
                go_simp
              try simp only [Act.put, List.setIfInBounds_toArray, List.set_cons_zero, List.set_cons_succ]
              refine wpAnyH_ready (rs := [12]) (by kernel_rfl) (by simp) ?_
              refine AllReadyH.cons rfl (fun K hK => ?_) AllReadyH.nil
              · skip
                have q0 : xt5.cell? ⟨gt3, 0, none⟩ = some (.int .i8 0) := cell_of_row _ _ 0 _ _ _ O_5.out
                have q1 : xt5.cell? ⟨gt3, 1, none⟩ = some (.slice none 0 0) := cell_of_row _ _ 1 _ _ _ O_5.out
                have q2 : xt5.cell? ⟨gt3, 2, none⟩ = some (.slice none 0 0) := cell_of_row _ _ 2 _ _ _ O_5.out
                have z0 : xt5.frozen? ⟨gt3, 0, none⟩ = false := frozen_of_row _ _ 0 _ _ O_5.out
                have z1 : xt5.frozen? ⟨gt3, 1, none⟩ = false := frozen_of_row _ _ 1 _ _ O_5.out
                have z2 : xt5.frozen? ⟨gt3, 2, none⟩ = false := frozen_of_row _ _ 2 _ _ O_5.out
                have lz := blk_lt O_5.out
                go_simp
                refine hK.out _ _ (HSx.out _ (kSet (kSet (kSet Kt5.out (p := ⟨gt3, 0, none⟩) lt3.out _) (p := ⟨gt3, 1, none⟩) lt3.out _) (p := ⟨gt3, 2, none⟩) lt3.out _)) (fun _ => ?_)
                clear hK K q0 q1 q2 z0 z1 z2 lz
                refine wpAnyH_done (by kernel_rfl) ?_ _
                refine ⟨rfl, ?_⟩
                go_wp2_with fail
                go_meet
                exact ⟨gt3, .slice vat4 A vct4, .slice vat5 q vct5, rfl, ⟨by rw [HA.out]; exact own_set3 n_5.out O_5.out (by decide) _ _ _, by rw [Hq.out]; exact own_set3 s_5.out O_5.out (by decide) _ _ _, box3_set O_5.out⟩, lt3.out, kSet (kSet (kSet Kt5.out (p := ⟨gt3, 0, none⟩) lt3.out _) (p := ⟨gt3, 1, none⟩) lt3.out _) (p := ⟨gt3, 2, none⟩) lt3.out _⟩
      · skip
        go_simp
        obtain ⟨xt2, et2⟩ : ∃ z, xt1.alloc (.cells #[.int .i8 0, .slice none 0 0, .slice none 0 0] 30) = z := ⟨_, rfl⟩
        have kt2 : Below xt1.heap.size xt1 xt2 := by rw [← et2]; exact kAlloc (Below.refl _ _) _
        have bt2 : xt2.heap[xt1.heap.size]? = some (.cells #[.int .i8 0, .slice none 0 0, .slice none 0 0] 30) := by rw [← et2]; exact nNew _ _
        try rw [et2]
        obtain ⟨gt2, ft2⟩ : ∃ z, xt1.heap.size = z := ⟨_, rfl⟩
        have Kt2 := Lib.hid (kTrans Kt1.out kt2)
        have lt2 := Lib.hid (show w2.heap.size ≤ gt2 by rw [← ft2]; exact Kt1.out.size)
        rw [ft2] at bt2 ⊢
        have e6_2 := Lib.hid (blk_below e6_1.out kt2)
        have O_2 := Lib.hid bt2
        refine hK.out _ _ (HSx.out _ Kt2.out) (fun _ => ?_)
        clear hK K kt2 bt2 et2 ft2
        refine wpAnyH_ready (rs := [2]) (by kernel_rfl) (by simp) ?_
        refine AllReadyH.cons rfl (fun K hK => ?_) AllReadyH.nil
        · skip
          go_simp
          obtain ⟨xt3, et3⟩ : ∃ z, xt2.alloc (.cells #[] 48) = z := ⟨_, rfl⟩
          have kt3 : Below xt2.heap.size xt2 xt3 := by rw [← et3]; exact kAlloc (Below.refl _ _) _
          have bt3 : xt3.heap[xt2.heap.size]? = some (.cells #[] 48) := by rw [← et3]; exact nNew _ _
          try rw [et3]
          obtain ⟨gt3, ft3⟩ : ∃ z, xt2.heap.size = z := ⟨_, rfl⟩
          have Kt3 := Lib.hid (kTrans Kt2.out kt3)
          have lt3 := Lib.hid (show w2.heap.size ≤ gt3 by rw [← ft3]; exact Kt2.out.size)
          rw [ft3] at bt3 ⊢
          have e6_3 := Lib.hid (blk_below e6_2.out kt3)
          have O_3 := Lib.hid (blk_below O_2.out kt3)
          have e2_3 := Lib.hid bt3
          refine hK.out _ _ (HSx.out _ Kt3.out) (fun _ => ?_)
          clear hK K kt3 bt3 et3 ft3
          refine wpAnyH_ready (rs := [5]) (by kernel_rfl) (by simp) ?_
          refine AllReadyH.cons rfl (fun K hK => ?_) AllReadyH.nil
          · skip
            have owt4 : xt3.ownsRow w2.heap.size 48 3 (.slice (some ⟨gt3, 0, none⟩) 0 0) 0 [] := owns_new lt3.out e2_3.out
            refine step_append_own rfl _ _ 28 rfl w2.heap.size 48 m0_ _ 3 6 Try.underlying28 Hm.out Hm1.out Hm2.out Hm3.out rfl (by decide) (.slice (some ⟨gt3, 0, none⟩) 0 0) 0 [] rfl owt4 ⟨b, 0, none⟩ A A (flatNd l) rfl HLn.out (fun j u hu => nd_news (HKn.out _ Kt3.out).p0 j u hu) (flatNd_one _) (by unfold maxLen; omega) (by omega) (Kt3.out.size) ?_
            intro vt4 xt4 ot4 rt4 _
            rw [List.nil_append, Nat.zero_add] at ot4
            obtain ⟨vat4, vct4, rfl⟩ := owns_slice ot4
            have Kt4 := Lib.hid (grown_below Kt3.out rt4 (fun k hk => (owt4.lt k hk).1))
            have e6_4 := Lib.hid ((rt4.block _ (blk_lt e6_3.out) (fun e => row_block owt4 e6_3.out (by decide) e.symm)).trans e6_3.out)
            have O_4 := Lib.hid ((rt4.block _ (blk_lt O_3.out) (fun e => row_block owt4 O_3.out (by decide) e.symm)).trans O_3.out)
            have n_4 := Lib.hid ot4
            refine hK.out _ _ (HSx.out _ Kt4.out) (fun _ => ?_)
            clear hK K owt4 ot4 rt4
            refine wpAnyH_ready (rs := [9]) (by kernel_rfl) (by simp) ?_
            refine AllReadyH.cons rfl (fun K hK => ?_) AllReadyH.nil
            · skip
              have owt5 : xt4.ownsRow w2.heap.size 46 1 (.slice (some ⟨gt1, 0, none⟩) 0 0) 0 [] := owns_new lt1.out e6_4.out
              refine step_append_own rfl _ _ 24 rfl w2.heap.size 46 j0_ _ 1 2 Try.underlying24 Hj.out Hj1.out Hj2.out Hj3.out rfl (by decide) (.slice (some ⟨gt1, 0, none⟩) 0 0) 0 [] rfl owt5 ⟨k, 0, none⟩ q q (flatSh p) rfl HLs.out (fun j u hu => sh_news (HKn.out _ Kt4.out).p1 j u hu) (flatSh_one _) (by unfold maxLen; omega) (by omega) (Kt4.out.size) ?_
              intro vt5 xt5 ot5 rt5 _
              rw [List.nil_append, Nat.zero_add] at ot5
              obtain ⟨vat5, vct5, rfl⟩ := owns_slice ot5
              have Kt5 := Lib.hid (grown_below Kt4.out rt5 (fun k hk => (owt5.lt k hk).1))
              have O_5 := Lib.hid ((rt5.block _ (blk_lt O_4.out) (fun e => row_block owt5 O_4.out (by decide) e.symm)).trans O_4.out)
              have n_5 := Lib.hid (own_grown n_4.out rt5 (rows_apart n_4.out owt5 (by decide)))
              have s_5 := Lib.hid ot5
              refine hK.out _ _ (HSx.out _ Kt5.out) (fun _ => ?_)
              clear hK K owt5 ot5 rt5
              refine wpAnyH_take (i := 10) (v := .agg #[.int .i8 ni, .slice vat4 A vct4, .slice vat5 q vct5]) rfl (by kernel_rfl) (by kernel_rfl) (by kernel_rfl) (fun _ _ _ h => absurd h.1 (by simp)) (Or.inl ⟨by rfl, fun w7 hSw => ?_⟩) (by assumption) ?_
              · clear hSw
                go_simp
              try simp only [Act.put, List.setIfInBounds_toArray, List.set_cons_zero, List.set_cons_succ]
              refine wpAnyH_ready (rs := [12]) (by kernel_rfl) (by simp) ?_
              refine AllReadyH.cons rfl (fun K hK => ?_) AllReadyH.nil
              · skip
                have q0 : xt5.cell? ⟨gt2, 0, none⟩ = some (.int .i8 0) := cell_of_row _ _ 0 _ _ _ O_5.out
                have q1 : xt5.cell? ⟨gt2, 1, none⟩ = some (.slice none 0 0) := cell_of_row _ _ 1 _ _ _ O_5.out
                have q2 : xt5.cell? ⟨gt2, 2, none⟩ = some (.slice none 0 0) := cell_of_row _ _ 2 _ _ _ O_5.out
                have z0 : xt5.frozen? ⟨gt2, 0, none⟩ = false := frozen_of_row _ _ 0 _ _ O_5.out
                have z1 : xt5.frozen? ⟨gt2, 1, none⟩ = false := frozen_of_row _ _ 1 _ _ O_5.out
                have z2 : xt5.frozen? ⟨gt2, 2, none⟩ = false := frozen_of_row _ _ 2 _ _ O_5.out
                have lz := blk_lt O_5.out
                go_simp
                refine hK.out _ _ (HSx.out _ (kSet (kSet (kSet Kt5.out (p := ⟨gt2, 0, none⟩) lt2.out _) (p := ⟨gt2, 1, none⟩) lt2.out _) (p := ⟨gt2, 2, none⟩) lt2.out _)) (fun _ => ?_)
                clear hK K q0 q1 q2 z0 z1 z2 lz
                refine wpAnyH_done (by kernel_rfl) ?_ _
                refine ⟨rfl, ?_⟩
                go_wp2_with fail
                go_meet
                exact ⟨gt2, .slice vat4 A vct4, .slice vat5 q vct5, rfl, ⟨by rw [HA.out]; exact own_set3 n_5.out O_5.out (by decide) _ _ _, by rw [Hq.out]; exact own_set3 s_5.out O_5.out (by decide) _ _ _, box3_set O_5.out⟩, lt2.out, kSet (kSet (kSet Kt5.out (p := ⟨gt2, 0, none⟩) lt2.out _) (p := ⟨gt2, 1, none⟩) lt2.out _) (p := ⟨gt2, 2, none⟩) lt2.out _⟩
    · skip
      go_simp
      obtain ⟨xt1, et1⟩ : ∃ z, wd.alloc (.cells #[.int .i8 0, .slice none 0 0, .slice none 0 0] 30) = z := ⟨_, rfl⟩
      have kt1 : Below wd.heap.size wd xt1 := by rw [← et1]; exact kAlloc (Below.refl _ _) _
      have bt1 : xt1.heap[wd.heap.size]? = some (.cells #[.int .i8 0, .slice none 0 0, .slice none 0 0] 30) := by rw [← et1]; exact nNew _ _
      try rw [et1]
      obtain ⟨gt1, ft1⟩ : ∃ z, wd.heap.size = z := ⟨_, rfl⟩
      have Kt1 := Lib.hid (kTrans K0.out kt1)
      have lt1 := Lib.hid (show w2.heap.size ≤ gt1 by rw [← ft1]; exact K0.out.size)
      rw [ft1] at bt1 ⊢
      have O_1 := Lib.hid bt1
      refine hK.out _ _ (HSx.out _ Kt1.out) (fun _ => ?_)
      clear hK K kt1 bt1 et1 ft1
      refine wpAnyH_ready (rs := [2, 6]) (by kernel_rfl) (by simp) ?_
      refine AllReadyH.cons rfl (fun K hK => ?_) (AllReadyH.cons rfl (fun K hK => ?_) AllReadyH.nil)
      · skip
        go_simp
        obtain ⟨xt2, et2⟩ : ∃ z, xt1.alloc (.cells #[] 48) = z := ⟨_, rfl⟩
        have kt2 : Below xt1.heap.size xt1 xt2 := by rw [← et2]; exact kAlloc (Below.refl _ _) _
        have bt2 : xt2.heap[xt1.heap.size]? = some (.cells #[] 48) := by rw [← et2]; exact nNew _ _
        try rw [et2]
        obtain ⟨gt2, ft2⟩ : ∃ z, xt1.heap.size = z := ⟨_, rfl⟩
        have Kt2 := Lib.hid (kTrans Kt1.out kt2)
        have lt2 := Lib.hid (show w2.heap.size ≤ gt2 by rw [← ft2]; exact Kt1.out.size)
        rw [ft2] at bt2 ⊢
        have O_2 := Lib.hid (blk_below O_1.out kt2)
        have e2_2 := Lib.hid bt2
        refine hK.out _ _ (HSx.out _ Kt2.out) (fun _ => ?_)
        clear hK K kt2 bt2 et2 ft2
        refine wpAnyH_ready (rs := [5, 6]) (by kernel_rfl) (by simp) ?_
        refine AllReadyH.cons rfl (fun K hK => ?_) (AllReadyH.cons rfl (fun K hK => ?_) AllReadyH.nil)
        · skip
          have owt3 : xt2.ownsRow w2.heap.size 48 3 (.slice (some ⟨gt2, 0, none⟩) 0 0) 0 [] := owns_new lt2.out e2_2.out
          refine step_append_own rfl _ _ 28 rfl w2.heap.size 48 m0_ _ 3 6 Try.underlying28 Hm.out Hm1.out Hm2.out Hm3.out rfl (by decide) (.slice (some ⟨gt2, 0, none⟩) 0 0) 0 [] rfl owt3 ⟨b, 0, none⟩ A A (flatNd l) rfl HLn.out (fun j u hu => nd_news (HKn.out _ Kt2.out).p0 j u hu) (flatNd_one _) (by unfold maxLen; omega) (by omega) (Kt2.out.size) ?_
          intro vt3 xt3 ot3 rt3 _
          rw [List.nil_append, Nat.zero_add] at ot3
          obtain ⟨vat3, vct3, rfl⟩ := owns_slice ot3
          have Kt3 := Lib.hid (grown_below Kt2.out rt3 (fun k hk => (owt3.lt k hk).1))
          have O_3 := Lib.hid ((rt3.block _ (blk_lt O_2.out) (fun e => row_block owt3 O_2.out (by decide) e.symm)).trans O_2.out)
          have n_3 := Lib.hid ot3
          refine hK.out _ _ (HSx.out _ Kt3.out) (fun _ => ?_)
          clear hK K owt3 ot3 rt3
          refine wpAnyH_ready (rs := [6]) (by kernel_rfl) (by simp) ?_
          refine AllReadyH.cons rfl (fun K hK => ?_) AllReadyH.nil
          · skip
            go_simp
            obtain ⟨xt4, et4⟩ : ∃ z, xt3.alloc (.cells #[] 46) = z := ⟨_, rfl⟩
            have kt4 : Below xt3.heap.size xt3 xt4 := by rw [← et4]; exact kAlloc (Below.refl _ _) _
            have bt4 : xt4.heap[xt3.heap.size]? = some (.cells #[] 46) := by rw [← et4]; exact nNew _ _
            try rw [et4]
            obtain ⟨gt4, ft4⟩ : ∃ z, xt3.heap.size = z := ⟨_, rfl⟩
            have Kt4 := Lib.hid (kTrans Kt3.out kt4)
            have lt4 := Lib.hid (show w2.heap.size ≤ gt4 by rw [← ft4]; exact Kt3.out.size)
            rw [ft4] at bt4 ⊢
            have O_4 := Lib.hid (blk_below O_3.out kt4)
            have n_4 := Lib.hid (owns_below n_3.out kt4)
            have e6_4 := Lib.hid bt4
            refine hK.out _ _ (HSx.out _ Kt4.out) (fun _ => ?_)
            clear hK K kt4 bt4 et4 ft4
            refine wpAnyH_ready (rs := [9]) (by kernel_rfl) (by simp) ?_
            refine AllReadyH.cons rfl (fun K hK => ?_) AllReadyH.nil
            · skip
              have owt5 : xt4.ownsRow w2.heap.size 46 1 (.slice (some ⟨gt4, 0, none⟩) 0 0) 0 [] := owns_new lt4.out e6_4.out
              refine step_append_own rfl _ _ 24 rfl w2.heap.size 46 j0_ _ 1 2 Try.underlying24 Hj.out Hj1.out Hj2.out Hj3.out rfl (by decide) (.slice (some ⟨gt4, 0, none⟩) 0 0) 0 [] rfl owt5 ⟨k, 0, none⟩ q q (flatSh p) rfl HLs.out (fun j u hu => sh_news (HKn.out _ Kt4.out).p1 j u hu) (flatSh_one _) (by unfold maxLen; omega) (by omega) (Kt4.out.size) ?_
              intro vt5 xt5 ot5 rt5 _
              rw [List.nil_append, Nat.zero_add] at ot5
              obtain ⟨vat5, vct5, rfl⟩ := owns_slice ot5
              have Kt5 := Lib.hid (grown_below Kt4.out rt5 (fun k hk => (owt5.lt k hk).1))
              have O_5 := Lib.hid ((rt5.block _ (blk_lt O_4.out) (fun e => row_block owt5 O_4.out (by decide) e.symm)).trans O_4.out)
              have n_5 := Lib.hid (own_grown n_4.out rt5 (rows_apart n_4.out owt5 (by decide)))
              have s_5 := Lib.hid ot5
              refine hK.out _ _ (HSx.out _ Kt5.out) (fun _ => ?_)
              clear hK K owt5 ot5 rt5
              refine wpAnyH_take (i := 10) (v := .agg #[.int .i8 ni, .slice vat3 A vct3, .slice vat5 q vct5]) rfl (by kernel_rfl) (by kernel_rfl) (by kernel_rfl) (fun _ _ _ h => absurd h.1 (by simp)) (Or.inl ⟨by rfl, fun w7 hSw => ?_⟩) (by assumption) ?_
              · clear hSw
                go_simp
              try simp only [Act.put, List.setIfInBounds_toArray, List.set_cons_zero, List.set_cons_succ]
              refine wpAnyH_ready (rs := [12]) (by kernel_rfl) (by simp) ?_
              refine AllReadyH.cons rfl (fun K hK => ?_) AllReadyH.nil
              · skip
                have q0 : xt5.cell? ⟨gt1, 0, none⟩ = some (.int .i8 0) := cell_of_row _ _ 0 _ _ _ O_5.out
                have q1 : xt5.cell? ⟨gt1, 1, none⟩ = some (.slice none 0 0) := cell_of_row _ _ 1 _ _ _ O_5.out
                have q2 : xt5.cell? ⟨gt1, 2, none⟩ = some (.slice none 0 0) := cell_of_row _ _ 2 _ _ _ O_5.out
                have z0 : xt5.frozen? ⟨gt1, 0, none⟩ = false := frozen_of_row _ _ 0 _ _ O_5.out
                have z1 : xt5.frozen? ⟨gt1, 1, none⟩ = false := frozen_of_row _ _ 1 _ _ O_5.out
                have z2 : xt5.frozen? ⟨gt1, 2, none⟩ = false := frozen_of_row _ _ 2 _ _ O_5.out
                have lz := blk_lt O_5.out
                go_simp
                refine hK.out _ _ (HSx.out _ (kSet (kSet (kSet Kt5.out (p := ⟨gt1, 0, none⟩) lt1.out _) (p := ⟨gt1, 1, none⟩) lt1.out _) (p := ⟨gt1, 2, none⟩) lt1.out _)) (fun _ => ?_)
                clear hK K q0 q1 q2 z0 z1 z2 lz
                refine wpAnyH_done (by kernel_rfl) ?_ _
                refine ⟨rfl, ?_⟩
                go_wp2_with fail
                go_meet
                exact ⟨gt1, .slice vat3 A vct3, .slice vat5 q vct5, rfl, ⟨by rw [HA.out]; exact own_set3 n_5.out O_5.out (by decide) _ _ _, by rw [Hq.out]; exact own_set3 s_5.out O_5.out (by decide) _ _ _, box3_set O_5.out⟩, lt1.out, kSet (kSet (kSet Kt5.out (p := ⟨gt1, 0, none⟩) lt1.out _) (p := ⟨gt1, 1, none⟩) lt1.out _) (p := ⟨gt1, 2, none⟩) lt1.out _⟩
        · skip
          go_simp
          obtain ⟨xt3, et3⟩ : ∃ z, xt2.alloc (.cells #[] 46) = z := ⟨_, rfl⟩
          have kt3 : Below xt2.heap.size xt2 xt3 := by rw [← et3]; exact kAlloc (Below.refl _ _) _
          have bt3 : xt3.heap[xt2.heap.size]? = some (.cells #[] 46) := by rw [← et3]; exact nNew _ _
          try rw [et3]
          obtain ⟨gt3, ft3⟩ : ∃ z, xt2.heap.size = z := ⟨_, rfl⟩
          have Kt3 := Lib.hid (kTrans Kt2.out kt3)
          have lt3 := Lib.hid (show w2.heap.size ≤ gt3 by rw [← ft3]; exact Kt2.out.size)
          rw [ft3] at bt3 ⊢
          have O_3 := Lib.hid (blk_below O_2.out kt3)
          have e2_3 := Lib.hid (blk_below e2_2.out kt3)
          have e6_3 := Lib.hid bt3
          refine hK.out _ _ (HSx.out _ Kt3.out) (fun _ => ?_)
          clear hK K kt3 bt3 et3 ft3
          refine wpAnyH_ready (rs := [5]) (by kernel_rfl) (by simp) ?_
          refine AllReadyH.cons rfl (fun K hK => ?_) AllReadyH.nil
          · skip
            have owt4 : xt3.ownsRow w2.heap.size 48 3 (.slice (some ⟨gt2, 0, none⟩) 0 0) 0 [] := owns_new lt2.out e2_3.out
            refine step_append_own rfl _ _ 28 rfl w2.heap.size 48 m0_ _ 3 6 Try.underlying28 Hm.out Hm1.out Hm2.out Hm3.out rfl (by decide) (.slice (some ⟨gt2, 0, none⟩) 0 0) 0 [] rfl owt4 ⟨b, 0, none⟩ A A (flatNd l) rfl HLn.out (fun j u hu => nd_news (HKn.out _ Kt3.out).p0 j u hu) (flatNd_one _) (by unfold maxLen; omega) (by omega) (Kt3.out.size) ?_
            intro vt4 xt4 ot4 rt4 _
            rw [List.nil_append, Nat.zero_add] at ot4
            obtain ⟨vat4, vct4, rfl⟩ := owns_slice ot4
            have Kt4 := Lib.hid (grown_below Kt3.out rt4 (fun k hk => (owt4.lt k hk).1))
            have O_4 := Lib.hid ((rt4.block _ (blk_lt O_3.out) (fun e => row_block owt4 O_3.out (by decide) e.symm)).trans O_3.out)
            have e6_4 := Lib.hid ((rt4.block _ (blk_lt e6_3.out) (fun e => row_block owt4 e6_3.out (by decide) e.symm)).trans e6_3.out)
            have n_4 := Lib.hid ot4
            refine hK.out _ _ (HSx.out _ Kt4.out) (fun _ => ?_)
            clear hK K owt4 ot4 rt4
            refine wpAnyH_ready (rs := [9]) (by kernel_rfl) (by simp) ?_
            refine AllReadyH.cons rfl (fun K hK => ?_) AllReadyH.nil
            · skip
              have owt5 : xt4.ownsRow w2.heap.size 46 1 (.slice (some ⟨gt3, 0, none⟩) 0 0) 0 [] := owns_new lt3.out e6_4.out
              refine step_append_own rfl _ _ 24 rfl w2.heap.size 46 j0_ _ 1 2 Try.underlying24 Hj.out Hj1.out Hj2.out Hj3.out rfl (by decide) (.slice (some ⟨gt3, 0, none⟩) 0 0) 0 [] rfl owt5 ⟨k, 0, none⟩ q q (flatSh p) rfl HLs.out (fun j u hu => sh_news (HKn.out _ Kt4.out).p1 j u hu) (flatSh_one _) (by unfold maxLen; omega) (by omega) (Kt4.out.size) ?_
              intro vt5 xt5 ot5 rt5 _
              rw [List.nil_append, Nat.zero_add] at ot5
              obtain ⟨vat5, vct5, rfl⟩ := owns_slice ot5
              have Kt5 := Lib.hid (grown_below Kt4.out rt5 (fun k hk => (owt5.lt k hk).1))
              have O_5 := Lib.hid ((rt5.block _ (blk_lt O_4.out) (fun e => row_block owt5 O_4.out (by decide) e.symm)).trans O_4.out)
              have n_5 := Lib.hid (own_grown n_4.out rt5 (rows_apart n_4.out owt5 (by decide)))
              have s_5 := Lib.hid ot5
              refine hK.out _ _ (HSx.out _ Kt5.out) (fun _ => ?_)
              clear hK K owt5 ot5 rt5
              refine wpAnyH_take (i := 10) (v := .agg #[.int .i8 ni, .slice vat4 A vct4, .slice vat5 q vct5]) rfl (by kernel_rfl) (by kernel_rfl) (by kernel_rfl) (fun _ _ _ h => absurd h.1 (by simp)) (Or.inl ⟨by rfl, fun w7 hSw => ?_⟩) (by assumption) ?_
              · clear hSw
                go_simp
              try simp only [Act.put, List.setIfInBounds_toArray, List.set_cons_zero, List.set_cons_succ]
              refine wpAnyH_ready (rs := [12]) (by kernel_rfl) (by simp) ?_
              refine AllReadyH.cons rfl (fun K hK => ?_) AllReadyH.nil
              · skip
                have q0 : xt5.cell? ⟨gt1, 0, none⟩ = some (.int .i8 0) := cell_of_row _ _ 0 _ _ _ O_5.out
                have q1 : xt5.cell? ⟨gt1, 1, none⟩ = some (.slice none 0 0) := cell_of_row _ _ 1 _ _ _ O_5.out
                have q2 : xt5.cell? ⟨gt1, 2, none⟩ = some (.slice none 0 0) := cell_of_row _ _ 2 _ _ _ O_5.out
                have z0 : xt5.frozen? ⟨gt1, 0, none⟩ = false := frozen_of_row _ _ 0 _ _ O_5.out
                have z1 : xt5.frozen? ⟨gt1, 1, none⟩ = false := frozen_of_row _ _ 1 _ _ O_5.out
                have z2 : xt5.frozen? ⟨gt1, 2, none⟩ = false := frozen_of_row _ _ 2 _ _ O_5.out
                have lz := blk_lt O_5.out
                go_simp
                refine hK.out _ _ (HSx.out _ (kSet (kSet (kSet Kt5.out (p := ⟨gt1, 0, none⟩) lt1.out _) (p := ⟨gt1, 1, none⟩) lt1.out _) (p := ⟨gt1, 2, none⟩) lt1.out _)) (fun _ => ?_)
                clear hK K q0 q1 q2 z0 z1 z2 lz
                refine wpAnyH_done (by kernel_rfl) ?_ _
                refine ⟨rfl, ?_⟩
                go_wp2_with fail
                go_meet
                exact ⟨gt1, .slice vat4 A vct4, .slice vat5 q vct5, rfl, ⟨by rw [HA.out]; exact own_set3 n_5.out O_5.out (by decide) _ _ _, by rw [Hq.out]; exact own_set3 s_5.out O_5.out (by decide) _ _ _, box3_set O_5.out⟩, lt1.out, kSet (kSet (kSet Kt5.out (p := ⟨gt1, 0, none⟩) lt1.out _) (p := ⟨gt1, 1, none⟩) lt1.out _) (p := ⟨gt1, 2, none⟩) lt1.out _⟩
      · skip
        go_simp
        obtain ⟨xt2, et2⟩ : ∃ z, xt1.alloc (.cells #[] 46) = z := ⟨_, rfl⟩
        have kt2 : Below xt1.heap.size xt1 xt2 := by rw [← et2]; exact kAlloc (Below.refl _ _) _
        have bt2 : xt2.heap[xt1.heap.size]? = some (.cells #[] 46) := by rw [← et2]; exact nNew _ _
        try rw [et2]
        obtain ⟨gt2, ft2⟩ : ∃ z, xt1.heap.size = z := ⟨_, rfl⟩
        have Kt2 := Lib.hid (kTrans Kt1.out kt2)
        have lt2 := Lib.hid (show w2.heap.size ≤ gt2 by rw [← ft2]; exact Kt1.out.size)
        rw [ft2] at bt2 ⊢
        have O_2 := Lib.hid (blk_below O_1.out kt2)
        have e6_2 := Lib.hid bt2
        refine hK.out _ _ (HSx.out _ Kt2.out) (fun _ => ?_)
        clear hK K kt2 bt2 et2 ft2
        refine wpAnyH_ready (rs := [2]) (by kernel_rfl) (by simp) ?_
        refine AllReadyH.cons rfl (fun K hK => ?_) AllReadyH.nil
        · skip
          go_simp
          obtain ⟨xt3, et3⟩ : ∃ z, xt2.alloc (.cells #[] 48) = z := ⟨_, rfl⟩
          have kt3 : Below xt2.heap.size xt2 xt3 := by rw [← et3]; exact kAlloc (Below.refl _ _) _
          have bt3 : xt3.heap[xt2.heap.size]? = some (.cells #[] 48) := by rw [← et3]; exact nNew _ _
          try rw [et3]
          obtain ⟨gt3, ft3⟩ : ∃ z, xt2.heap.size = z := ⟨_, rfl⟩
          have Kt3 := Lib.hid (kTrans Kt2.out kt3)
          have lt3 := Lib.hid (show w2.heap.size ≤ gt3 by rw [← ft3]; exact Kt2.out.size)
          rw [ft3] at bt3 ⊢
          have O_3 := Lib.hid (blk_below O_2.out kt3)
          have e6_3 := Lib.hid (blk_below e6_2.out kt3)
          have e2_3 := Lib.hid bt3
          refine hK.out _ _ (HSx.out _ Kt3.out) (fun _ => ?_)
          clear hK K kt3 bt3 et3 ft3
          refine wpAnyH_ready (rs := [5]) (by kernel_rfl) (by simp) ?_
          refine AllReadyH.cons rfl (fun K hK => ?_) AllReadyH.nil
          · skip
            have owt4 : xt3.ownsRow w2.heap.size 48 3 (.slice (some ⟨gt3, 0, none⟩) 0 0) 0 [] := owns_new lt3.out e2_3.out
            refine step_append_own rfl _ _ 28 rfl w2.heap.size 48 m0_ _ 3 6 Try.underlying28 Hm.out Hm1.out Hm2.out Hm3.out rfl (by decide) (.slice (some ⟨gt3, 0, none⟩) 0 0) 0 [] rfl owt4 ⟨b, 0, none⟩ A A (flatNd l) rfl HLn.out (fun j u hu => nd_news (HKn.out _ Kt3.out).p0 j u hu) (flatNd_one _) (by unfold maxLen; omega) (by omega) (Kt3.out.size) ?_
            intro vt4 xt4 ot4 rt4 _
            rw [List.nil_append, Nat.zero_add] at ot4
            obtain ⟨vat4, vct4, rfl⟩ := owns_slice ot4
            have Kt4 := Lib.hid (grown_below Kt3.out rt4 (fun k hk => (owt4.lt k hk).1))
            have O_4 := Lib.hid ((rt4.block _ (blk_lt O_3.out) (fun e => row_block owt4 O_3.out (by decide) e.symm)).trans O_3.out)
            have e6_4 := Lib.hid ((rt4.block _ (blk_lt e6_3.out) (fun e => row_block owt4 e6_3.out (by decide) e.symm)).trans e6_3.out)
            have n_4 := Lib.hid ot4
            refine hK.out _ _ (HSx.out _ Kt4.out) (fun _ => ?_)
            clear hK K owt4 ot4 rt4
            refine wpAnyH_ready (rs := [9]) (by kernel_rfl) (by simp) ?_
            refine AllReadyH.cons rfl (fun K hK => ?_) AllReadyH.nil
            · skip
              have owt5 : xt4.ownsRow w2.heap.size 46 1 (.slice (some ⟨gt2, 0, none⟩) 0 0) 0 [] := owns_new lt2.out e6_4.out
              refine step_append_own rfl _ _ 24 rfl w2.heap.size 46 j0_ _ 1 2 Try.underlying24 Hj.out Hj1.out Hj2.out Hj3.out rfl (by decide) (.slice (some ⟨gt2, 0, none⟩) 0 0) 0 [] rfl owt5 ⟨k, 0, none⟩ q q (flatSh p) rfl HLs.out (fun j u hu => sh_news (HKn.out _ Kt4.out).p1 j u hu) (flatSh_one _) (by unfold maxLen; omega) (by omega) (Kt4.out.size) ?_
              intro vt5 xt5 ot5 rt5 _
              rw [List.nil_append, Nat.zero_add] at ot5
              obtain ⟨vat5, vct5, rfl⟩ := owns_slice ot5
              have Kt5 := Lib.hid (grown_below Kt4.out rt5 (fun k hk => (owt5.lt k hk).1))
              have O_5 := Lib.hid ((rt5.block _ (blk_lt O_4.out) (fun e => row_block owt5 O_4.out (by decide) e.symm)).trans O_4.out)
              have n_5 := Lib.hid (own_grown n_4.out rt5 (rows_apart n_4.out owt5 (by decide)))
              have s_5 := Lib.hid ot5
              refine hK.out _ _ (HSx.out _ Kt5.out) (fun _ => ?_)
              clear hK K owt5 ot5 rt5
              refine wpAnyH_take (i := 10) (v := .agg #[.int .i8 ni, .slice vat4 A vct4, .slice vat5 q vct5]) rfl (by kernel_rfl) (by kernel_rfl) (by kernel_rfl) (fun _ _ _ h => absurd h.1 (by simp)) (Or.inl ⟨by rfl, fun w7 hSw => ?_⟩) (by assumption) ?_
              · clear hSw
                go_simp
              try simp only [Act.put, List.setIfInBounds_toArray, List.set_cons_zero, List.set_cons_succ]
              refine wpAnyH_ready (rs := [12]) (by kernel_rfl) (by simp) ?_
              refine AllReadyH.cons rfl (fun K hK => ?_) AllReadyH.nil
              · skip
                have q0 : xt5.cell? ⟨gt1, 0, none⟩ = some (.int .i8 0) := cell_of_row _ _ 0 _ _ _ O_5.out
                have q1 : xt5.cell? ⟨gt1, 1, none⟩ = some (.slice none 0 0) := cell_of_row _ _ 1 _ _ _ O_5.out
                have q2 : xt5.cell? ⟨gt1, 2, none⟩ = some (.slice none 0 0) := cell_of_row _ _ 2 _ _ _ O_5.out
                have z0 : xt5.frozen? ⟨gt1, 0, none⟩ = false := frozen_of_row _ _ 0 _ _ O_5.out
                have z1 : xt5.frozen? ⟨gt1, 1, none⟩ = false := frozen_of_row _ _ 1 _ _ O_5.out
                have z2 : xt5.frozen? ⟨gt1, 2, none⟩ = false := frozen_of_row _ _ 2 _ _ O_5.out
                have lz := blk_lt O_5.out
                go_simp
                refine hK.out _ _ (HSx.out _ (kSet (kSet (kSet Kt5.out (p := ⟨gt1, 0, none⟩) lt1.out _) (p := ⟨gt1, 1, none⟩) lt1.out _) (p := ⟨gt1, 2, none⟩) lt1.out _)) (fun _ => ?_)
                clear hK K q0 q1 q2 z0 z1 z2 lz
                refine wpAnyH_done (by kernel_rfl) ?_ _
                refine ⟨rfl, ?_⟩
                go_wp2_with fail
                go_meet
                exact ⟨gt1, .slice vat4 A vct4, .slice vat5 q vct5, rfl, ⟨by rw [HA.out]; exact own_set3 n_5.out O_5.out (by decide) _ _ _, by rw [Hq.out]; exact own_set3 s_5.out O_5.out (by decide) _ _ _, box3_set O_5.out⟩, lt1.out, kSet (kSet (kSet Kt5.out (p := ⟨gt1, 0, none⟩) lt1.out _) (p := ⟨gt1, 1, none⟩) lt1.out _) (p := ⟨gt1, 2, none⟩) lt1.out _⟩
  case rest =>
    obtain ⟨O, v, u, rfl, hNB, hO, hB⟩ := hcut
    rename World => wc
    have HNB0 : Hid (NX wc O w2.heap.size ni v u (l ++ (l'.take 0).map (shN A)) p) := Lib.hid (by rw [List.take_zero, List.map_nil, List.append_nil]; exact hNB)
    have HB0 := Lib.hid hB
    clear hNB hB x0 x1 x2 y0 y1 y2 lx3 ly3 hb2 hb1 hz1
    obtain ⟨y0, y1, y2⟩ := HY.out _ (kTrans hb3 HB0.out)
    have ly := (HY.out _ (kTrans hb3 HB0.out)).lt
    go_wp2
    go_loopw [8, 9] (fun z _ wr => ∃ (j : Nat) (v u : Value), j ≤ N ∧ z = .int .i64 j ∧ Hid (NX wr O w2.heap.size ni v u (l ++ (l'.take j).map (shN A)) p) ∧ Hid (Below w2.heap.size w2 wr)) (fun z _ _ => N - (intOf z).toNat)
    case atStart => exact ⟨0, _, _, by omega, rfl, HNB0, HB0⟩
    case round =>
      clear HNB0 HB0 y0 y1 y2 ly
      obtain ⟨j, v, u, hj, rfl, hNB, hB⟩ := hrel
      obtain ⟨y0, y1, y2⟩ := HY.out _ (kTrans hb3 hB.out)
      have ly := (HY.out _ (kTrans hb3 hB.out)).lt
      by_cases hjN : j < N
      · have hlk : j < l'.length := by rw [HNl.out]; exact hjN
        obtain ⟨x, hx⟩ : ∃ x, l'[j] = x := ⟨_, rfl⟩
        have hno := HN.out j hlk
        rw [hx] at hno
        obtain ⟨a0, a1, a2⟩ := (show NdAt wr b' (0 + j * 3) x by have h := (HK'.out wr (kTrans hb3 hB.out)).p0 j hlk; rw [hx] at h; exact h)
        have zb := (HK'.out wr (kTrans hb3 hB.out)).z0
        simp only [Nat.zero_add] at a0 a1 a2
        have htk : (l'.take (j + 1)).map (shN A) = (l'.take j).map (shN A) ++ [shN A x] := by rw [List.take_succ_eq_append_getElem hlk, List.map_append, hx]; rfl
        have Htk := Lib.hid htk
        have Hm_ : Hid ((l ++ (l'.take j).map (shN A)).length = A + j) := Lib.hid (by rw [List.length_append, List.length_map, List.length_take, HA.out, HNl.out]; omega)
        clear hx htk
        obtain ⟨w5, hW5⟩ : ∃ w5, wr.alloc (.cells #[.int .i8 x.kind, .int .i16 x.a, .int .i16 x.b] 48) = w5 := ⟨_, rfl⟩
        have k5 : Below wr.heap.size wr w5 := by rw [← hW5]; exact kAlloc (Below.refl _ _) _
        have bN : w5.heap[wr.heap.size]? = some (.cells #[.int .i8 x.kind, .int .i16 x.a, .int .i16 x.b] 48 (0, 0)) := by rw [← hW5]; exact nNew _ _
        have HW5 := Lib.hid hW5
        have HK5 := Lib.hid k5
        clear hW5 k5
        go_upto_region 13 with fail
        try rw [HW5.out]
        obtain ⟨xg, hxg⟩ : ∃ xg, wr.heap.size = xg := ⟨_, rfl⟩
        have Hxg := Lib.hid (Nat.le_of_eq hxg)
        rw [hxg] at bN ⊢
        clear a0 a1 a2 zb HW5 hxg y0 y1 y2
        have n0 : w5.cell? ⟨xg, 0, none⟩ = some (.int .i8 x.kind) := cell_of_row _ _ 0 _ _ _ bN
        have n1 : w5.cell? ⟨xg, 1, none⟩ = some (.int .i16 x.a) := cell_of_row _ _ 1 _ _ _ bN
        have n2 : w5.cell? ⟨xg, 2, none⟩ = some (.int .i16 x.b) := cell_of_row _ _ 2 _ _ _ bN
        have ln := blk_lt bN
        by_cases hk2 : 2 ≤ x.kind
        · have hc := nodeOk_cases hno
          obtain ⟨xk, xa, xb⟩ := x
          simp only at *
          have hxa : 0 ≤ xa ∧ xa < j := by omega
          have hxb : 0 ≤ xb ∧ xb < j := by omega
          have ea : IntKind.i16.wrap (xa + (A : Int)) = xa + (A : Int) := IntWalk.i16_in _ (by omega)
          have eb : IntKind.i16.wrap (xb + (A : Int)) = xb + (A : Int) := IntWalk.i16_in _ (by omega)
          have f1_ : w5.frozen? ⟨xg, 1, none⟩ = false := frozen_of_row _ _ 1 _ _ bN
          have f2_ : w5.frozen? ⟨xg, 2, none⟩ = false := frozen_of_row _ _ 2 _ _ bN
          have Hsh : Hid (shN A ⟨xk, xa, xb⟩ = ⟨xk, xa + (A : Int), xb + (A : Int)⟩) := Lib.hid (by unfold shN; rw [if_pos hk2])
          have hkd : decide ((2 : Int) ≤ xk) = true := by simpa using hk2
          have b2 := Lib.hid (show ((w5.setCell ⟨xg, 1, none⟩ (.int .i16 (xa + (A : Int)))).setCell ⟨xg, 2, none⟩ (.int .i16 (xb + (A : Int)))).heap[xg]? = some (.cells #[.int .i8 xk, .int .i16 (xa + (A : Int)), .int .i16 (xb + (A : Int))] 48 (0, 0)) from blk_set_same' (i := 2) (v := .int .i16 (xb + (A : Int))) (blk_set_same' (i := 1) (v := .int .i16 (xa + (A : Int))) bN))
          have k6 := Lib.hid (kSet (kSet HK5.out (p := ⟨xg, 1, none⟩) Hxg.out (.int .i16 (xa + (A : Int)))) (p := ⟨xg, 2, none⟩) Hxg.out (.int .i16 (xb + (A : Int))))
          clear hno hc bN
          go_upto_region 16 with fail
          generalize ((w5.setCell ⟨xg, 1, none⟩ (.int .i16 (xa + (A : Int)))).setCell ⟨xg, 2, none⟩ (.int .i16 (xb + (A : Int)))) = w6 at b2 k6 ⊢
          clear n0 n1 n2 f1_ f2_ ea eb ln HK5
          have bN6 := b2.out
          have HN6 := Lib.hid (hNB.out.below k6.out)
          have HB6 := Lib.hid (kTrans hB.out k6.out)
          clear b2 k6 hNB hB
          obtain ⟨va, vc, rfl⟩ := owns_slice HN6.out.n
          obtain ⟨M, hM⟩ : ∃ M, (l ++ (l'.take j).map (shN A)).length = M := ⟨_, rfl⟩
          have hMl : M = A + j := by rw [← hM, List.length_append, List.length_map, List.length_take, HA.out, HNl.out]; omega
          have HO6 := Lib.hid HN6.out.o
          have HW6 := Lib.hid HN6.out.n
          rw [hM] at HN6 HO6 HW6
          have o1 : w6.cell? ⟨O, 1, none⟩ = some (.slice va M vc) := cell_of_row _ _ 1 _ _ _ HO6.out
          have y0 : w6.cell? ⟨xg, 0, none⟩ = some (.int .i8 xk) := cell_of_row _ _ 0 _ _ _ bN6
          have y1 : w6.cell? ⟨xg, 1, none⟩ = some (.int .i16 (xa + (A : Int))) := cell_of_row _ _ 1 _ _ _ bN6
          have y2 : w6.cell? ⟨xg, 2, none⟩ = some (.int .i16 (xb + (A : Int))) := cell_of_row _ _ 2 _ _ _ bN6
          have lO := blk_lt HO6.out
          have lX := blk_lt bN6
          have hMb : M + 1 ≤ 200 := by omega
          have Hsz := Lib.hid (show w2.heap.size ≤ (w6.alloc (.cells #[.int .i8 xk, .int .i16 (xa + (A : Int)), .int .i16 (xb + (A : Int))] 48)).heap.size by have := HB6.out.size; simp; omega)
          have HMl := Lib.hid hMl
          clear bN6 hM hMl
          go_wp2_with (at_builtin; refine wpList_append_own _ rfl _ _ 28 rfl w2.heap.size 48 m0_ _ 3 6 Try.underlying28 Hm.out Hm1.out Hm2.out Hm3.out rfl (by decide) (.slice va M vc) M (flatNd (l ++ (l'.take j).map (shN A))) rfl (owns_below HW6.out (kAlloc (Below.refl _ _) _)) ⟨w6.heap.size, 0, none⟩ 1 1 [.int .i8 xk, .int .i16 (xa + (A : Int)), .int .i16 (xb + (A : Int))] rfl rfl (World.news_of_block (cs := #[.int .i8 xk, .int .i16 (xa + (A : Int)), .int .i16 (xb + (A : Int))]) (heap_alloc_new _ _)) (by simp [Value.oneCell']) ?qc4 ?qc5 ?qc6 ?_)
          case qc4 => unfold maxLen; omega
          case qc5 => omega
          case qc6 => first | exact Hsz.out | (have h_ := Hsz.out; rw [World.size_alloc] at h_; exact h_)
          intro v7 w7 hown7 hgr hnil
          have hka : Below w6.heap.size w6 (w6.alloc (.cells #[.int .i8 xk, .int .i16 (xa + (A : Int)), .int .i16 (xb + (A : Int))] 48)) := kAlloc (Below.refl _ _) _
          have hlen2 : ((l ++ (l'.take j).map (shN A)) ++ [shN A ⟨xk, xa, xb⟩]).length = M + 1 := by rw [List.length_append, Hm_.out, HMl.out]; rfl
          have hown8 : w7.ownsRow w2.heap.size 48 3 v7 ((l ++ (l'.take j).map (shN A)) ++ [shN A ⟨xk, xa, xb⟩]).length (flatNd ((l ++ (l'.take j).map (shN A)) ++ [shN A ⟨xk, xa, xb⟩])) := by rw [hlen2, flatNd_end, Hsh.out]; first | exact hown7 | (rw [List.map_take]; exact hown7)
          have hNB8 := (HN6.out.below hka).app1 hgr hown8
          have hO7 := (hgr.block O (Nat.lt_of_lt_of_le lO hka.size) (fun e => row_block (HN6.out.below hka).n (HN6.out.below hka).o (by decide) e.symm)).trans (HN6.out.below hka).o
          have f7 : w7.frozen? ⟨O, 1, none⟩ = false := frozen_of_row _ _ 1 _ _ hO7
          have d7 : w7.cell? ⟨O, 1, none⟩ = some (.slice va M vc) := cell_of_row _ _ 1 _ _ _ hO7
          have hl7 := blk_lt hO7
          obtain ⟨ua7, uc7, rfl⟩ := owns_slice hown7
          have B7 : Below w2.heap.size w2 w7 := grown_below (kTrans (HB6.out) hka) hgr (fun k hk => ((owns_below HW6.out hka).lt k hk).1)
          have HB8 := Lib.hid (kSet (kTrans hb3 B7) (p := ⟨O, 1, none⟩) (show W0.heap.size ≤ O by have := hb3.size; omega) (.slice ua7 (M + 1) uc7))
          have HB9 := Lib.hid (kSet B7 (p := ⟨O, 1, none⟩) hO (.slice ua7 (M + 1) uc7))
          have HN8 := Lib.hid hNB8
          clear hown7 hgr hnil hO7 hNB8 hown8 HN6 HB6 B7 hka HW6 HO6 o1 y0 y1 y2 hlen2
          go_wp2
          exact ⟨⟨j + 1, _, _, by omega, by go_num, by rw [Htk.out, ← List.append_assoc]; exact HN8, HB9⟩, by simp [intOf]; omega⟩
        · have hkd : decide ((2 : Int) ≤ x.kind) = false := by simpa using hk2
          have Hsh : Hid (shN A x = x) := Lib.hid (by unfold shN; rw [if_neg hk2])
          clear hno
          obtain ⟨xk, xa, xb⟩ := x
          simp only at *
          go_upto_region 16 with fail
          clear n0 n1 n2 ln
          have bN6 := bN
          have HN6 := Lib.hid (hNB.out.below HK5.out)
          have HB6 := Lib.hid (kTrans hB.out HK5.out)
          clear HK5 hNB hB bN
          obtain ⟨va, vc, rfl⟩ := owns_slice HN6.out.n
          obtain ⟨M, hM⟩ : ∃ M, (l ++ (l'.take j).map (shN A)).length = M := ⟨_, rfl⟩
          have hMl : M = A + j := by rw [← hM, List.length_append, List.length_map, List.length_take, HA.out, HNl.out]; omega
          have HO6 := Lib.hid HN6.out.o
          have HW6 := Lib.hid HN6.out.n
          rw [hM] at HN6 HO6 HW6
          have o1 : w5.cell? ⟨O, 1, none⟩ = some (.slice va M vc) := cell_of_row _ _ 1 _ _ _ HO6.out
          have y0 : w5.cell? ⟨xg, 0, none⟩ = some (.int .i8 xk) := cell_of_row _ _ 0 _ _ _ bN6
          have y1 : w5.cell? ⟨xg, 1, none⟩ = some (.int .i16 (xa)) := cell_of_row _ _ 1 _ _ _ bN6
          have y2 : w5.cell? ⟨xg, 2, none⟩ = some (.int .i16 (xb)) := cell_of_row _ _ 2 _ _ _ bN6
          have lO := blk_lt HO6.out
          have lX := blk_lt bN6
          have hMb : M + 1 ≤ 200 := by omega
          have Hsz := Lib.hid (show w2.heap.size ≤ (w5.alloc (.cells #[.int .i8 xk, .int .i16 (xa), .int .i16 (xb)] 48)).heap.size by have := HB6.out.size; simp; omega)
          have HMl := Lib.hid hMl
          clear bN6 hM hMl
          go_wp2_with (at_builtin; refine wpList_append_own _ rfl _ _ 28 rfl w2.heap.size 48 m0_ _ 3 6 Try.underlying28 Hm.out Hm1.out Hm2.out Hm3.out rfl (by decide) (.slice va M vc) M (flatNd (l ++ (l'.take j).map (shN A))) rfl (owns_below HW6.out (kAlloc (Below.refl _ _) _)) ⟨w5.heap.size, 0, none⟩ 1 1 [.int .i8 xk, .int .i16 (xa), .int .i16 (xb)] rfl rfl (World.news_of_block (cs := #[.int .i8 xk, .int .i16 (xa), .int .i16 (xb)]) (heap_alloc_new _ _)) (by simp [Value.oneCell']) ?qc4 ?qc5 ?qc6 ?_)
          case qc4 => unfold maxLen; omega
          case qc5 => omega
          case qc6 => first | exact Hsz.out | (have h_ := Hsz.out; rw [World.size_alloc] at h_; exact h_)
          intro v7 w7 hown7 hgr hnil
          have hka : Below w5.heap.size w5 (w5.alloc (.cells #[.int .i8 xk, .int .i16 (xa), .int .i16 (xb)] 48)) := kAlloc (Below.refl _ _) _
          have hlen2 : ((l ++ (l'.take j).map (shN A)) ++ [shN A ⟨xk, xa, xb⟩]).length = M + 1 := by rw [List.length_append, Hm_.out, HMl.out]; rfl
          have hown8 : w7.ownsRow w2.heap.size 48 3 v7 ((l ++ (l'.take j).map (shN A)) ++ [shN A ⟨xk, xa, xb⟩]).length (flatNd ((l ++ (l'.take j).map (shN A)) ++ [shN A ⟨xk, xa, xb⟩])) := by rw [hlen2, flatNd_end, Hsh.out]; first | exact hown7 | (rw [List.map_take]; exact hown7)
          have hNB8 := (HN6.out.below hka).app1 hgr hown8
          have hO7 := (hgr.block O (Nat.lt_of_lt_of_le lO hka.size) (fun e => row_block (HN6.out.below hka).n (HN6.out.below hka).o (by decide) e.symm)).trans (HN6.out.below hka).o
          have f7 : w7.frozen? ⟨O, 1, none⟩ = false := frozen_of_row _ _ 1 _ _ hO7
          have d7 : w7.cell? ⟨O, 1, none⟩ = some (.slice va M vc) := cell_of_row _ _ 1 _ _ _ hO7
          have hl7 := blk_lt hO7
          obtain ⟨ua7, uc7, rfl⟩ := owns_slice hown7
          have B7 : Below w2.heap.size w2 w7 := grown_below (kTrans (HB6.out) hka) hgr (fun k hk => ((owns_below HW6.out hka).lt k hk).1)
          have HB8 := Lib.hid (kSet (kTrans hb3 B7) (p := ⟨O, 1, none⟩) (show W0.heap.size ≤ O by have := hb3.size; omega) (.slice ua7 (M + 1) uc7))
          have HB9 := Lib.hid (kSet B7 (p := ⟨O, 1, none⟩) hO (.slice ua7 (M + 1) uc7))
          have HN8 := Lib.hid hNB8
          clear hown7 hgr hnil hO7 hNB8 hown8 HN6 HB6 B7 hka HW6 HO6 o1 y0 y1 y2 hlen2
          go_wp2
          exact ⟨⟨j + 1, _, _, by omega, by go_num, by rw [Htk.out, ← List.append_assoc]; exact HN8, HB9⟩, by simp [intOf]; omega⟩
      · obtain rfl : j = N := by omega
        have htk : l'.take j = l' := List.take_of_length_le (by rw [HNl.out]; exact Nat.le_refl _)
        rw [htk] at hNB
        obtain ⟨va, vc, rfl⟩ := owns_slice hNB.out.n
        obtain ⟨M, hM⟩ : ∃ M, (l ++ l'.map (shN A)).length = M := ⟨_, rfl⟩
        rw [hM] at hNB
        obtain ⟨KK, hKK⟩ : ∃ KK, l ++ l'.map (shN A) = KK := ⟨_, rfl⟩
        rw [hKK] at hNB hM
        have HM := Lib.hid hM
        have HKK := Lib.hid hKK
        have HNB0 : Hid (NX wr O w2.heap.size ni (.slice va M vc) u KK (p ++ (p'.take 0).map (· + (A : Int)))) := Lib.hid (by rw [List.take_zero, List.map_nil, List.append_nil]; exact hNB.out)
        have HB0 := hB
        clear htk hM hKK hNB hB
        go_wp2
        go_loopw [10] (fun z wr => ∃ (i : Nat) (u : Value), i ≤ r ∧ z = .int .i64 i ∧ Hid (NX wr O w2.heap.size ni (.slice va M vc) u KK (p ++ (p'.take i).map (· + (A : Int)))) ∧ Hid (Below w2.heap.size w2 wr)) (fun z _ => r - (intOf z).toNat)
        case atStart => exact ⟨0, _, by omega, rfl, HNB0, HB0⟩
        case round =>
          clear HNB0 HB0 y0 y1 y2 ly
          rename World => wr4
          obtain ⟨i, u, hi, rfl, hNB, hB⟩ := hrel
          obtain ⟨y0, y1, y2⟩ := HY.out _ (kTrans hb3 hB.out)
          have ly := (HY.out _ (kTrans hb3 hB.out)).lt
          by_cases hiq : i < r
          · have hlk : i < p'.length := by rw [Hr.out]; exact hiq
            have cp := (HK'.out wr4 (kTrans hb3 hB.out)).p1 i hlk
            have zk := (HK'.out wr4 (kTrans hb3 hB.out)).z1
            have zk2 := (HK'.out w2 hb3).z1
            have hr_ := HRO.out _ (List.getElem_mem hlk)
            have htk : (p'.take (i + 1)).map (· + (A : Int)) = (p'.take i).map (· + (A : Int)) ++ [p'[i] + (A : Int)] := by rw [List.take_succ_eq_append_getElem hlk, List.map_append]; rfl
            generalize p'[i] = x at cp hr_ htk
            have Htk := Lib.hid htk
            simp only [Nat.zero_add] at cp
            have ea : IntKind.i16.wrap (x + (A : Int)) = x + (A : Int) := IntWalk.i16_in _ (by omega)
            obtain ⟨ta, tc, rfl⟩ := owns_slice hNB.out.s
            obtain ⟨Q, hQl⟩ : ∃ Q, (p ++ (p'.take i).map (· + (A : Int))).length = Q := ⟨_, rfl⟩
            have hQ2 : Q = q + i := by rw [← hQl, List.length_append, List.length_map, List.length_take, Hq.out, Hr.out]; omega
            rw [hQl] at hNB
            have HQl := Lib.hid hQl
            have HO := Lib.hid hNB.out.o
            have HW := Lib.hid (show wr4.ownsRow w2.heap.size 46 1 (.slice ta Q tc) Q (flatSh (p ++ (p'.take i).map (· + (A : Int)))) by have h := hNB.out.s; rw [hQl] at h; exact h)
            have o2 : wr4.cell? ⟨O, 2, none⟩ = some (.slice ta Q tc) := cell_of_row _ _ 2 _ _ _ HO.out
            have lO := blk_lt HO.out
            have hQb : Q + 1 ≤ 20 := by omega
            have hbb := Lib.hid (show w.heap.size + 1 < w2.heap.size by have := hb3.size; omega)
            have hkm := Lib.hid zk2
            clear htk hQl hQ2
            go_wp2
            have HD := Lib.hid (show Below wr4.heap.size wr4 (wr4.alloc (.cells #[.int .i16 (x + (A : Int))] 46)).drew from Below.drew (kAlloc (Below.refl _ _) _))
            have hbX := Nat.le_trans hB.out.size HD.out.size
            have hml : Q + 1 ≤ maxLen := by unfold maxLen; omega
            have hmb : (Q + 1) * 2 ≤ 140737488355328 := by omega
            go_region_law
              (first
              | (refine step_append_own rfl _ _ 24 rfl w2.heap.size 46 j0_ _ 1 2 Try.underlying24 Hj.out Hj1.out Hj2.out Hj3.out rfl (by decide) (.slice ta Q tc) Q (flatSh (p ++ (p'.take i).map (· + (A : Int)))) rfl (owns_below HW.out HD.out) ⟨wr4.heap.size, 0, none⟩ 1 1 [.int .i16 (x + (A : Int))] rfl rfl (fun j u hu => World.news_of_block (w := (wr4.alloc (.cells #[.int .i16 (x + (A : Int))] 46)).drew) (cs := #[.int .i16 (x + (A : Int))]) (heap_alloc_new wr4 _) j u hu) (by simp [Value.oneCell']) hml hmb hbX ?_
                 intro v7 w7 hown7 hgr hnil
                 have hND := hNB.out.below HD.out
                 have hlen2 : ((p ++ (p'.take i).map (· + (A : Int))) ++ [x + (A : Int)]).length = Q + 1 := by rw [List.length_append, HQl.out]; rfl
                 have hown8 : w7.ownsRow w2.heap.size 46 1 v7 ((p ++ (p'.take i).map (· + (A : Int))) ++ [x + (A : Int)]).length (flatSh ((p ++ (p'.take i).map (· + (A : Int))) ++ [x + (A : Int)])) := by rw [hlen2, flatSh_end]; exact hown7
                 have HN8 := Lib.hid (hND.app2 hgr hown8)
                 have hO7 := (hgr.block O (Nat.lt_of_lt_of_le lO HD.out.size) (fun e => row_block hND.s hND.o (by decide) e.symm)).trans hND.o
                 have B7 : Below w2.heap.size w2 w7 := grown_below (kTrans hB.out HD.out) hgr (fun k hk => ((owns_below HW.out HD.out).lt k hk).1)
                 have o2 : w7.cell? ⟨O, 2, none⟩ = some (.slice ta Q tc) := cell_of_row _ _ 2 _ _ _ hO7
                 have y2 : w7.cell? ⟨w.heap.size + 1, 2, none⟩ = some (.slice (some ⟨k', 0, none⟩) r r) := (HY.out _ (kTrans hb3 B7)).2.2
                 have cp : w7.cell? ⟨k', i, none⟩ = some (.int .i16 x) := ((B7.cell (p := ⟨k', i, none⟩) hkm.out).trans (hB.out.cell (p := ⟨k', i, none⟩) hkm.out).symm).trans cp
                 have f7 : w7.frozen? ⟨O, 2, none⟩ = false := frozen_of_row _ _ 2 _ _ hO7
                 have hl7 := blk_lt hO7
                 obtain ⟨ua7, uc7, rfl⟩ := owns_slice hown7
                 have HB7 := Lib.hid B7
                 clear hown7 hgr hnil hO7 B7 hND hlen2 hown8))
            all_goals
              have HB8 := Lib.hid (kSet HB7.out (p := ⟨O, 2, none⟩) hO (.slice ua7 (Q + 1) uc7))
              clear o2 f7 cp y2
              go_wp2
              exact ⟨⟨i + 1, _, by omega, by go_num, by rw [Htk.out, ← List.append_assoc]; exact HN8, HB8⟩, by simp [intOf] <;> omega⟩
          · obtain rfl : i = r := by omega
            have htk : p'.take i = p' := List.take_of_length_le (by rw [Hr.out]; exact Nat.le_refl _)
            rw [htk] at hNB
            obtain ⟨ta, tc, rfl⟩ := owns_slice hNB.out.s
            obtain ⟨Q, hQl⟩ : ∃ Q, (p ++ p'.map (· + (A : Int))).length = Q := ⟨_, rfl⟩
            rw [hQl] at hNB
            have HQl := Lib.hid hQl
            have HN := Lib.hid hNB.out.n
            have HSs := Lib.hid hNB.out.s
            have rs_ := HBR.out _ (kTrans hb3 hB.out)
            have o0 : wr4.cell? ⟨O, 0, none⟩ = some (.int .i8 ni) := cell_of_row _ _ 0 _ _ _ hNB.out.o
            have o1 : wr4.cell? ⟨O, 1, none⟩ = some (.slice va M vc) := cell_of_row _ _ 1 _ _ _ hNB.out.o
            have o2 : wr4.cell? ⟨O, 2, none⟩ = some (.slice ta Q tc) := cell_of_row _ _ 2 _ _ _ hNB.out.o
            have lO := blk_lt hNB.out.o
            have HT := Lib.hid (kTrans HK0.out (kTrans hb3 hB.out))
            have kr := keptRowN (g := w.heap.size + 1 + 1) (w := wr4) (cs := #[.int .i8 ni, .slice va M vc, .slice ta Q tc])
            have hwz : w.heap.size + 1 + 1 + 1 ≤ w2.heap.size := by have := hb3.size; omega
            have HN1 := Lib.hid (((SlWNd.of_owns HN.out).out kr (.inr hwz)).mono (show w.heap.size ≤ w2.heap.size by omega) kr.size)
            have HN2 := Lib.hid (((SlWSh.of_owns HSs.out).out kr (.inr hwz)).mono (show w.heap.size ≤ w2.heap.size by omega) kr.size)
            clear htk hQl hNB hB kr HN HSs
            go_wp2_with (refine wpList_store_row rfl 30 _ _ rfl (w.heap.size + 1 + 1) #[.int .i8 ni, .slice va M vc, .slice ta Q tc] rfl rfl 30 _ rs_ (by kernel_rfl) (by kernel_rfl) (by kernel_rfl) ?_)
            refine bodyPost_ret (v := .tuple #[.agg #[.int .i8 ni, .slice va M vc, .slice ta Q tc], .int .i64 0]) (results_cell_tmp rfl _ _ (w.heap.size + 1 + 1) 30 #[.int .i8 ni, .slice va M vc, .slice ta Q tc] (0, 0) _ _ rfl rfl (setRow_heap _ _ _ _ _ _ rs_) Try.underlying30 rfl (by kernel_rfl)) rfl ?_
            exact ⟨_, _, rfl, ⟨by unfold boN; rw [HA.out, HKK.out]; exact HN1.out, by unfold boP; exact HN2.out⟩, kRowW HT.out (by omega) _⟩
end Go.Proofs.Ytdnjamlibnmpfaa
