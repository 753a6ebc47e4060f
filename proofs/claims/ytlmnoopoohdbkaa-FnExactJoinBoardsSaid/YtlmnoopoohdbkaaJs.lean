/- JoinBoards: the model; both sides. -/
import Derived.Test.YtlmnoopoohdbkaaJb
namespace Go.Proofs.Ytlmnoopoohdbkaa
open Go.ChangeShapes Go.WideShapes Go.ChangeAt Go.RowKit Go.Joins Go.Deep
set_option linter.unusedVariables false
set_option linter.unusedSimpArgs false
theorem pcat_below {W w' : World} {b o : Nat} {p : Pc} (h : PcAt W b o p) (hb : Below W.heap.size W w') (hl : b < W.heap.size) : PcAt w' b o p :=
  ⟨(hb.cell (p := ⟨b, _, none⟩) hl).trans h.1, (hb.cell (p := ⟨b, _, none⟩) hl).trans h.2.1, (hb.cell (p := ⟨b, _, none⟩) hl).trans h.2.2.1, (hb.cell (p := ⟨b, _, none⟩) hl).trans h.2.2.2.1, (hb.cell (p := ⟨b, _, none⟩) hl).trans h.2.2.2.2⟩
theorem row_block_J {w : World} {b s n B : Nat} {e t : TypeId} {v : Value} {xs : List Value} {cs : Array Value} (h : w.ownsRow b e s v n xs) (hB : w.heap[B]? = some (.cells cs t (0, 0))) (he : t ≠ e) : v.ownBlock ≠ some B := by
  rcases h.2 with ⟨rfl, _⟩ | ⟨g, cap, cur, rfl, hb, hg, _⟩
  · simp [Value.ownBlock]
  · intro e'
    have e2 : g = B := Option.some.inj e'
    subst e2
    rw [hB] at hg
    injection hg with hg
    injection hg with _ hg
    exact he hg
set_option maxRecDepth 100000 in
set_option maxHeartbeats 8000000 in
theorem specJoin_bad (b b' n m : Nat) (wd hi wd' hi' : Int) (l l' : List Pc) (w : World) (hn : l.length = n) (hm : l'.length = m) (hp : PcsAt w b 0 l) (hp' : PcsAt w b' 0 l') (hb : b < w.heap.size) (hb' : b' < w.heap.size) (h8 : All8 l) (h8' : All8 l') (hw8 : i8 wd) (hh8 : i8 hi) (hw8' : i8 wd') (hh8' : i8 hi') (hmax : n ≤ 1048576) (hmax' : m ≤ 1048576) (R R' : Bool) (hR : R = boardOk wd hi l) (hR' : R' = boardOk wd' hi' l') (hbad : ¬ (R = true ∧ R' = true)) (Wr Hr : Int) (lr : List Pc) (C : Int) (hQ : jnQ R R' wd hi l l' = (Wr, Hr, lr, C)) :
    Calls Try.prog 17 #[.agg #[.int .i8 wd, .int .i8 hi, .slice (some ⟨b, 0, none⟩) n n], .agg #[.int .i8 wd', .int .i8 hi', .slice (some ⟨b', 0, none⟩) m m]] w (BoardPost Wr Hr lr C w) := by
  obtain ⟨W0, hW⟩ : ∃ W0, ((w.alloc (.cells #[.int .i8 wd, .int .i8 hi, .slice (some ⟨b, 0, none⟩) n n] 30)).alloc (.cells #[.int .i8 wd', .int .i8 hi', .slice (some ⟨b', 0, none⟩) m m] 30)).alloc (.cells #[.int .i8 0, .int .i8 0, .slice none 0 0] 30) = W0 := ⟨_, rfl⟩
  have k0 : Below w.heap.size w W0 := by rw [← hW]; exact kAlloc (kAlloc (kAlloc (Below.refl _ _) _) _) _
  have hs0 : w.heap.size + 3 ≤ W0.heap.size := by rw [← hW]; simp
  have bX : W0.heap[w.heap.size]? = some (.cells #[.int .i8 wd, .int .i8 hi, .slice (some ⟨b, 0, none⟩) n n] 30 (0, 0)) := by
    rw [← hW]; exact (Below.heap_alloc _ _ _ (by simp; omega)).trans ((Below.heap_alloc _ _ _ (by simp)).trans (heap_alloc_new _ _))
  have bY : W0.heap[w.heap.size + 1]? = some (.cells #[.int .i8 wd', .int .i8 hi', .slice (some ⟨b', 0, none⟩) m m] 30 (0, 0)) := by
    rw [← hW]; exact (Below.heap_alloc _ _ _ (by simp)).trans (heap_two _ _ _)
  have bR : W0.heap[w.heap.size + 1 + 1]? = some (.cells #[.int .i8 0, .int .i8 0, .slice none 0 0] 30 (0, 0)) := by
    rw [← hW]
    have h := heap_alloc_new ((w.alloc (.cells #[.int .i8 wd, .int .i8 hi, .slice (some ⟨b, 0, none⟩) n n] 30)).alloc (.cells #[.int .i8 wd', .int .i8 hi', .slice (some ⟨b', 0, none⟩) m m] 30)) (.cells #[.int .i8 0, .int .i8 0, .slice none 0 0] 30)
    simpa only [World.size_alloc] using h
  have hx := BdAt.of bX
  have hy := BdAt.of bY
  have hlx := hx.lt
  have hly := hy.lt
  have HX := Lib.hid (fun W2 (h2 : Below W0.heap.size W0 W2) => hx.below h2 hx.lt)
  have HY := Lib.hid (fun W2 (h2 : Below W0.heap.size W0 W2) => hy.below h2 hy.lt)
  have HBR := Lib.hid (fun W2 (h2 : Below W0.heap.size W0 W2) => blk_below bR h2)
  have HV := Lib.hid (fun W2 (h2 : Below W0.heap.size W0 W2) => l01Ok_any w.heap.size 0 b 0 n n wd hi l W2 hn (hx.below h2 hx.lt) (hp.below (kTrans k0 h2) hb) (Nat.lt_of_lt_of_le hb (kTrans k0 h2).size) (Nat.le_refl _) h8 hw8 hh8 hmax R hR)
  have HV' := Lib.hid (fun W2 (h2 : Below W0.heap.size W0 W2) => l01Ok_any (w.heap.size + 1) 0 b' 0 m m wd' hi' l' W2 hm (hy.below h2 hy.lt) (hp'.below (kTrans k0 h2) hb') (Nat.lt_of_lt_of_le hb' (kTrans k0 h2).size) (Nat.le_refl _) h8' hw8' hh8' hmax' R' hR')
  have HP := Lib.hid (fun W2 (h2 : Below W0.heap.size W0 W2) => hp.below (kTrans k0 h2) hb)
  have HP' := Lib.hid (fun W2 (h2 : Below W0.heap.size W0 W2) => hp'.below (kTrans k0 h2) hb')
  have HK0 := Lib.hid k0
  have HW := Lib.hid hW
  have Hn := Lib.hid hn
  have Hm := Lib.hid hm
  have H8' := Lib.hid h8'
  have hbW : b < W0.heap.size := Nat.lt_of_lt_of_le hb k0.size
  have hbW' : b' < W0.heap.size := Nat.lt_of_lt_of_le hb' k0.size
  obtain ⟨x0, x1, x2⟩ := bd0 hx
  obtain ⟨y0, y1, y2⟩ := bd0 hy
  rw [jnQ, if_neg hbad] at hQ
  obtain ⟨rfl, rfl, rfl, rfl⟩ := four_inj (show ((0, 0, [], 1) : Int × Int × List Pc × Int) = (Wr, Hr, lr, C) from hQ)
  cases R with
  | false =>
    clear hbad
    clear hR hR' h8 h8' hp hp' hb hb' hW bX bY bR k0 hx hy
    clear hQ HP HP' H8' HX HY x0 x1 x2 y0 y1 y2
    go_enter Try.func17, Try.ntmps17
    go_upto_region 1 with fail
    try rw [HW.out]
    go_wp2_with fail
    refine (HV.out _ (Below.refl _ _)).mono ?_
    rintro e w1 ⟨rfl, hb1⟩
    have hz1 := hb1.size
    clear HV HW
    have rs_ := HBR.out _ hb1
    have HT := Lib.hid (kTrans HK0.out hb1)
    clear HBR
    go_wp2_with (refine wpList_store_row rfl 30 _ _ rfl (w.heap.size + 1 + 1) #[.int .i8 0, .int .i8 0, .slice none 0 0] rfl rfl 30 _ rs_ (by kernel_rfl) (by kernel_rfl) (by kernel_rfl) ?_)
    refine bodyPost_ret (v := .tuple #[.agg #[.int .i8 0, .int .i8 0, .slice none 0 0], .int .i64 1]) (results_cell_tmp rfl _ _ (w.heap.size + 1 + 1) 30 #[.int .i8 0, .int .i8 0, .slice none 0 0] (0, 0) _ _ rfl rfl (setRow_heap _ _ _ _ _ _ rs_) Try.underlying30 rfl (by kernel_rfl)) rfl ?_
    exact ⟨_, rfl, .empty _ _ rfl, kRowW HT.out (by omega) _⟩
  | true =>
    obtain rfl : R' = false := by cases R' with | false => rfl | true => exact absurd ⟨rfl, rfl⟩ hbad
    clear hbad
    clear hR hR' h8 h8' hp hp' hb hb' hW bX bY bR k0 hx hy
    clear hQ HP HP' H8' HX HY x0 x1 x2 y0 y1 y2
    go_enter Try.func17, Try.ntmps17
    go_upto_region 1 with fail
    try rw [HW.out]
    go_wp2_with fail
    refine (HV.out _ (Below.refl _ _)).mono ?_
    rintro e w1 ⟨rfl, hb1⟩
    have hz1 := hb1.size
    clear HV HW
    go_wp2_with fail
    refine (HV'.out _ hb1).mono ?_
    rintro e w2 ⟨rfl, hb2⟩
    have HB2 := Lib.hid (kTrans hb1 hb2)
    have hz2 := hb2.size
    have rs_ := HBR.out _ HB2.out
    have HT := Lib.hid (kTrans HK0.out HB2.out)
    clear HBR
    go_wp2_with (refine wpList_store_row rfl 30 _ _ rfl (w.heap.size + 1 + 1) #[.int .i8 0, .int .i8 0, .slice none 0 0] rfl rfl 30 _ rs_ (by kernel_rfl) (by kernel_rfl) (by kernel_rfl) ?_)
    refine bodyPost_ret (v := .tuple #[.agg #[.int .i8 0, .int .i8 0, .slice none 0 0], .int .i64 1]) (results_cell_tmp rfl _ _ (w.heap.size + 1 + 1) 30 #[.int .i8 0, .int .i8 0, .slice none 0 0] (0, 0) _ _ rfl rfl (setRow_heap _ _ _ _ _ _ rs_) Try.underlying30 rfl (by kernel_rfl)) rfl ?_
    exact ⟨_, rfl, .empty _ _ rfl, kRowW HT.out (by omega) _⟩
set_option maxRecDepth 100000 in
set_option maxHeartbeats 8000000 in
theorem specJoin_ok (b b' n m : Nat) (wd hi wd' hi' : Int) (l l' : List Pc) (w : World) (hn : l.length = n) (hm : l'.length = m) (hp : PcsAt w b 0 l) (hp' : PcsAt w b' 0 l') (hb : b < w.heap.size) (hb' : b' < w.heap.size) (h8 : All8 l) (h8' : All8 l') (hw8 : i8 wd) (hh8 : i8 hi) (hw8' : i8 wd') (hh8' : i8 hi') (hmax : n ≤ 1048576) (hmax' : m ≤ 1048576) (R R' : Bool) (hR : R = boardOk wd hi l) (hR' : R' = boardOk wd' hi' l') (hr : R = true) (hr' : R' = true) (Wr Hr : Int) (lr : List Pc) (C : Int) (hQ : jnQ R R' wd hi l l' = (Wr, Hr, lr, C)) :
    Calls Try.prog 17 #[.agg #[.int .i8 wd, .int .i8 hi, .slice (some ⟨b, 0, none⟩) n n], .agg #[.int .i8 wd', .int .i8 hi', .slice (some ⟨b', 0, none⟩) m m]] w (BoardPost Wr Hr lr C w) := by
  obtain ⟨W0, hW⟩ : ∃ W0, ((w.alloc (.cells #[.int .i8 wd, .int .i8 hi, .slice (some ⟨b, 0, none⟩) n n] 30)).alloc (.cells #[.int .i8 wd', .int .i8 hi', .slice (some ⟨b', 0, none⟩) m m] 30)).alloc (.cells #[.int .i8 0, .int .i8 0, .slice none 0 0] 30) = W0 := ⟨_, rfl⟩
  have k0 : Below w.heap.size w W0 := by rw [← hW]; exact kAlloc (kAlloc (kAlloc (Below.refl _ _) _) _) _
  have hs0 : w.heap.size + 3 ≤ W0.heap.size := by rw [← hW]; simp
  have bX : W0.heap[w.heap.size]? = some (.cells #[.int .i8 wd, .int .i8 hi, .slice (some ⟨b, 0, none⟩) n n] 30 (0, 0)) := by
    rw [← hW]; exact (Below.heap_alloc _ _ _ (by simp; omega)).trans ((Below.heap_alloc _ _ _ (by simp)).trans (heap_alloc_new _ _))
  have bY : W0.heap[w.heap.size + 1]? = some (.cells #[.int .i8 wd', .int .i8 hi', .slice (some ⟨b', 0, none⟩) m m] 30 (0, 0)) := by
    rw [← hW]; exact (Below.heap_alloc _ _ _ (by simp)).trans (heap_two _ _ _)
  have bR : W0.heap[w.heap.size + 1 + 1]? = some (.cells #[.int .i8 0, .int .i8 0, .slice none 0 0] 30 (0, 0)) := by
    rw [← hW]
    have h := heap_alloc_new ((w.alloc (.cells #[.int .i8 wd, .int .i8 hi, .slice (some ⟨b, 0, none⟩) n n] 30)).alloc (.cells #[.int .i8 wd', .int .i8 hi', .slice (some ⟨b', 0, none⟩) m m] 30)) (.cells #[.int .i8 0, .int .i8 0, .slice none 0 0] 30)
    simpa only [World.size_alloc] using h
  have hx := BdAt.of bX
  have hy := BdAt.of bY
  have hlx := hx.lt
  have hly := hy.lt
  have HX := Lib.hid (fun W2 (h2 : Below W0.heap.size W0 W2) => hx.below h2 hx.lt)
  have HY := Lib.hid (fun W2 (h2 : Below W0.heap.size W0 W2) => hy.below h2 hy.lt)
  have HBR := Lib.hid (fun W2 (h2 : Below W0.heap.size W0 W2) => blk_below bR h2)
  have HV := Lib.hid (fun W2 (h2 : Below W0.heap.size W0 W2) => l01Ok_any w.heap.size 0 b 0 n n wd hi l W2 hn (hx.below h2 hx.lt) (hp.below (kTrans k0 h2) hb) (Nat.lt_of_lt_of_le hb (kTrans k0 h2).size) (Nat.le_refl _) h8 hw8 hh8 hmax R hR)
  have HV' := Lib.hid (fun W2 (h2 : Below W0.heap.size W0 W2) => l01Ok_any (w.heap.size + 1) 0 b' 0 m m wd' hi' l' W2 hm (hy.below h2 hy.lt) (hp'.below (kTrans k0 h2) hb') (Nat.lt_of_lt_of_le hb' (kTrans k0 h2).size) (Nat.le_refl _) h8' hw8' hh8' hmax' R' hR')
  have HP := Lib.hid (fun W2 (h2 : Below W0.heap.size W0 W2) => hp.below (kTrans k0 h2) hb)
  have HP' := Lib.hid (fun W2 (h2 : Below W0.heap.size W0 W2) => hp'.below (kTrans k0 h2) hb')
  have HK0 := Lib.hid k0
  have HW := Lib.hid hW
  have Hn := Lib.hid hn
  have Hm := Lib.hid hm
  have H8' := Lib.hid h8'
  have hbW : b < W0.heap.size := Nat.lt_of_lt_of_le hb k0.size
  have hbW' : b' < W0.heap.size := Nat.lt_of_lt_of_le hb' k0.size
  obtain ⟨x0, x1, x2⟩ := bd0 hx
  obtain ⟨y0, y1, y2⟩ := bd0 hy
  rw [jnQ, if_pos ⟨hr, hr'⟩] at hQ
  subst hr hr'
  have hl2 := boardOk_len hR.symm
  have hl2' := boardOk_len hR'.symm
  have HQ := Lib.hid hQ
  have hm200 : m ≤ 200 := by omega
  have hn200 : n ≤ 200 := by omega
  have iw : IntKind.i64.wrap wd = wd := IntWalk.i64_in _ (by have := hw8; unfold i8 at this; omega)
  have ih : IntKind.i64.wrap hi = hi := IntWalk.i64_in _ (by have := hh8; unfold i8 at this; omega)
  clear hR hR' h8 h8' hp hp' hb hb' hW bX bY bR k0 hx hy
  clear hQ hl2 hl2' x0 x1 x2 y0 y1 y2
  go_enter Try.func17, Try.ntmps17
  go_upto_region 1 with fail
  try rw [HW.out]
  go_wp2_with fail
  refine (HV.out _ (Below.refl _ _)).mono ?_
  rintro e w1 ⟨rfl, hb1⟩
  clear HV HW
  go_wp2_with fail
  refine (HV'.out _ hb1).mono ?_
  rintro e w2 ⟨rfl, hb2⟩
  have HB2 := Lib.hid (kTrans hb1 hb2)
  clear hb1 hb2 HV'
  obtain ⟨y0, y1, y2⟩ := bd0 (HY.out _ HB2.out)
  have ly := (HY.out _ HB2.out).lt
  go_wp2
  go_loopw [6] (fun z wr => ∃ j : Nat, j ≤ m ∧ z = .int .i64 j ∧ Hid (∀ i (h : i < l'.length), i < j → jIn wd hi l'[i] = true) ∧ Hid (Below W0.heap.size W0 wr)) (fun z _ => m - (intOf z).toNat)
  case atStart => exact ⟨0, by omega, rfl, Lib.hid (fun i _ hi => by omega), HB2⟩
  case round =>
    clear HB2 y0 y1 y2 ly
    obtain ⟨j, hj, rfl, hall, hB⟩ := hrel
    obtain ⟨y0, y1, y2⟩ := bd0 (HY.out _ hB.out)
    have ly := (HY.out _ hB.out).lt
    by_cases hjm : j < m
    · have hlk : j < l'.length := by rw [Hm.out]; exact hjm
      obtain ⟨p, hpj⟩ : ∃ p, l'[j] = p := ⟨_, rfl⟩
      have h8p : p.in8 := by rw [← hpj]; exact H8'.out _ (List.getElem_mem hlk)
      have hPj := (show PcAt wr b' (0 + j * 5) p by have h := HP'.out wr hB.out j hlk; rw [hpj] at h; exact h)
      have zb := Nat.lt_of_lt_of_le hbW' hB.out.size
      have Hpj := Lib.hid hpj
      obtain ⟨px, py, pk, pt, pd⟩ := p
      obtain ⟨gd, hgd⟩ : ∃ gd, jIn wd hi ⟨px, py, pk, pt, pd⟩ = gd := ⟨_, rfl⟩
      have HH := Lib.hid (fun W => l01In_any px py wd hi W h8p.1 h8p.2.1 (by have := hw8; unfold i8 at this; omega) (by have := hh8; unfold i8 at this; omega) gd (by rw [← hgd]; rfl))
      have Hgd := Lib.hid hgd
      have hXj := HX.out _ hB.out
      have hYj := HY.out _ hB.out
      clear hpj hgd h8p
      go_upto_region 6 with fail
      clear y0 y1 y2 ly
      refine regionW_of_HJ (fun W' => BdAt W' w.heap.size 0 wd hi (.slice (some ⟨b, 0, none⟩) n n) ∧ BdAt W' (w.heap.size + 1) 0 wd' hi' (.slice (some ⟨b', 0, none⟩) m m) ∧ PcAt W' b' (0 + j * 5) ⟨px, py, pk, pt, pd⟩ ∧ b' < W'.heap.size) (by kernel_rfl) ⟨hXj, hYj, hPj, zb⟩ (fun hHeld => ?_)
      clear hXj hYj hPj zb
      refine wpAnyH_take (i := 0) (v := .pointer (some ⟨w.heap.size + 1, 2, none⟩)) rfl (by kernel_rfl) (by kernel_rfl) (by kernel_rfl) (fun _ _ _ h => absurd h.1 (by simp)) (Or.inl ⟨by rfl, fun w7 hSw => ?_⟩) (by assumption) ?_
      · clear hSw
        go_simp
      try simp only [Act.put, List.setIfInBounds_toArray, List.set_cons_zero, List.set_cons_succ]
      refine wpAnyH_take (i := 1) (v := .slice (some ⟨b', 0, none⟩) m m) rfl (by kernel_rfl) (by kernel_rfl) (by kernel_rfl) (fun _ _ _ h => absurd h.1 (by simp)) (Or.inl ⟨by rfl, fun w7 hSw => ?_⟩) (by assumption) ?_
      · obtain ⟨hX_, hY_, hP_, hz_⟩ := hSw
        obtain ⟨x0, x1, x2⟩ := bd0 hX_
        obtain ⟨y0, y1, y2⟩ := bd0 hY_
        obtain ⟨a0, a1, a2, a3, a4⟩ := hP_
        simp only [Nat.zero_add] at a0 a1 a2 a3 a4
        have lx_ := hX_.lt
        have ly_ := hY_.lt
        clear hX_ hY_
        go_simp
      try simp only [Act.put, List.setIfInBounds_toArray, List.set_cons_zero, List.set_cons_succ]
      refine wpAnyH_take (i := 2) (v := .int .i64 (j : Int)) rfl (by kernel_rfl) (by kernel_rfl) (by kernel_rfl) (fun _ _ _ h => absurd h.1 (by simp)) (Or.inl ⟨by rfl, fun w7 hSw => ?_⟩) (by assumption) ?_
      · clear hSw
        go_simp
      try simp only [Act.put, List.setIfInBounds_toArray, List.set_cons_zero, List.set_cons_succ]
      refine wpAnyH_take (i := 3) (v := .pointer (some ⟨b', j * 5, none⟩)) rfl (by kernel_rfl) (by kernel_rfl) (by kernel_rfl) (fun _ _ _ h => absurd h.1 (by simp)) (Or.inl ⟨by rfl, fun w7 hSw => ?_⟩) (by assumption) ?_
      · clear hSw
        go_simp
      try simp only [Act.put, List.setIfInBounds_toArray, List.set_cons_zero, List.set_cons_succ]
      refine wpAnyH_take (i := 4) (v := .pointer (some ⟨b', j * 5, none⟩)) rfl (by kernel_rfl) (by kernel_rfl) (by kernel_rfl) (fun _ _ _ h => absurd h.1 (by simp)) (Or.inl ⟨by rfl, fun w7 hSw => ?_⟩) (by assumption) ?_
      · clear hSw
        go_simp
      try simp only [Act.put, List.setIfInBounds_toArray, List.set_cons_zero, List.set_cons_succ]
      refine wpAnyH_take (i := 5) (v := .agg #[.int .i8 px, .int .i8 py]) rfl (by kernel_rfl) (by kernel_rfl) (by kernel_rfl) (fun _ _ _ h => absurd h.1 (by simp)) (Or.inl ⟨by rfl, fun w7 hSw => ?_⟩) (by assumption) ?_
      · obtain ⟨hX_, hY_, hP_, hz_⟩ := hSw
        obtain ⟨x0, x1, x2⟩ := bd0 hX_
        obtain ⟨y0, y1, y2⟩ := bd0 hY_
        obtain ⟨a0, a1, a2, a3, a4⟩ := hP_
        simp only [Nat.zero_add] at a0 a1 a2 a3 a4
        have lx_ := hX_.lt
        have ly_ := hY_.lt
        clear hX_ hY_
        go_simp
      try simp only [Act.put, List.setIfInBounds_toArray, List.set_cons_zero, List.set_cons_succ]
      refine wpAnyH_take (i := 6) (v := .pointer (some ⟨w.heap.size, 0, none⟩)) rfl (by kernel_rfl) (by kernel_rfl) (by kernel_rfl) (fun _ _ _ h => absurd h.1 (by simp)) (Or.inl ⟨by rfl, fun w7 hSw => ?_⟩) (by assumption) ?_
      · clear hSw
        go_simp
      try simp only [Act.put, List.setIfInBounds_toArray, List.set_cons_zero, List.set_cons_succ]
      refine wpAnyH_take (i := 7) (v := .int .i8 wd) rfl (by kernel_rfl) (by kernel_rfl) (by kernel_rfl) (fun _ _ _ h => absurd h.1 (by simp)) (Or.inl ⟨by rfl, fun w7 hSw => ?_⟩) (by assumption) ?_
      · obtain ⟨hX_, hY_, hP_, hz_⟩ := hSw
        obtain ⟨x0, x1, x2⟩ := bd0 hX_
        obtain ⟨y0, y1, y2⟩ := bd0 hY_
        obtain ⟨a0, a1, a2, a3, a4⟩ := hP_
        simp only [Nat.zero_add] at a0 a1 a2 a3 a4
        have lx_ := hX_.lt
        have ly_ := hY_.lt
        clear hX_ hY_
        go_simp
      try simp only [Act.put, List.setIfInBounds_toArray, List.set_cons_zero, List.set_cons_succ]
      refine wpAnyH_take (i := 8) (v := .int .i64 wd) rfl (by kernel_rfl) (by kernel_rfl) (by kernel_rfl) (fun _ _ _ h => absurd h.1 (by simp)) (Or.inl ⟨by rfl, fun w7 hSw => ?_⟩) (by assumption) ?_
      · clear hSw
        go_simp
      try simp only [Act.put, List.setIfInBounds_toArray, List.set_cons_zero, List.set_cons_succ]
      refine wpAnyH_take (i := 9) (v := .pointer (some ⟨w.heap.size, 1, none⟩)) rfl (by kernel_rfl) (by kernel_rfl) (by kernel_rfl) (fun _ _ _ h => absurd h.1 (by simp)) (Or.inl ⟨by rfl, fun w7 hSw => ?_⟩) (by assumption) ?_
      · clear hSw
        go_simp
      try simp only [Act.put, List.setIfInBounds_toArray, List.set_cons_zero, List.set_cons_succ]
      refine wpAnyH_take (i := 10) (v := .int .i8 hi) rfl (by kernel_rfl) (by kernel_rfl) (by kernel_rfl) (fun _ _ _ h => absurd h.1 (by simp)) (Or.inl ⟨by rfl, fun w7 hSw => ?_⟩) (by assumption) ?_
      · obtain ⟨hX_, hY_, hP_, hz_⟩ := hSw
        obtain ⟨x0, x1, x2⟩ := bd0 hX_
        obtain ⟨y0, y1, y2⟩ := bd0 hY_
        obtain ⟨a0, a1, a2, a3, a4⟩ := hP_
        simp only [Nat.zero_add] at a0 a1 a2 a3 a4
        have lx_ := hX_.lt
        have ly_ := hY_.lt
        clear hX_ hY_
        go_simp
      try simp only [Act.put, List.setIfInBounds_toArray, List.set_cons_zero, List.set_cons_succ]
      refine wpAnyH_take (i := 11) (v := .int .i64 hi) rfl (by kernel_rfl) (by kernel_rfl) (by kernel_rfl) (fun _ _ _ h => absurd h.1 (by simp)) (Or.inl ⟨by rfl, fun w7 hSw => ?_⟩) (by assumption) ?_
      · clear hSw
        go_simp
      try simp only [Act.put, List.setIfInBounds_toArray, List.set_cons_zero, List.set_cons_succ]
      refine wpAnyH_ready (rs := [12]) (by kernel_rfl) (by simp) ?_
      refine AllReadyH.cons rfl (fun K hK => ?_) AllReadyH.nil
      go_simp
      go_wp2_with (go_at_call 57
                   refine (HH.out _).mono ?_
                   rintro e w6 ⟨rfl, hb6⟩
                   have HB6 := Lib.hid (kTrans hB.out (kTrans (Below.drew (Below.refl wr.heap.size wr)) hb6))
                   have S6 : BdAt w6 w.heap.size 0 wd hi (.slice (some ⟨b, 0, none⟩) n n) ∧ BdAt w6 (w.heap.size + 1) 0 wd' hi' (.slice (some ⟨b', 0, none⟩) m m) ∧ PcAt w6 b' (0 + j * 5) ⟨px, py, pk, pt, pd⟩ ∧ b' < w6.heap.size := ⟨hHeld.1.below hb6 hHeld.1.lt, hHeld.2.1.below hb6 hHeld.2.1.lt, pcat_below hHeld.2.2.1 hb6 hHeld.2.2.2, Nat.lt_of_lt_of_le hHeld.2.2.2 hb6.size⟩
                   clear hb6)
      refine hK.out _ _ S6 (fun hHeld => ?_)
      clear S6 HH
      clear hK K
      refine wpAnyH_take (i := 13) (v := .bool (!gd)) rfl (by kernel_rfl) (by kernel_rfl) (by kernel_rfl) (fun _ _ _ h => absurd h.1 (by simp)) (Or.inl ⟨by rfl, fun w7 hSw => ?_⟩) (by assumption) ?_
      · clear hSw
        go_simp
      try simp only [Act.put, List.setIfInBounds_toArray, List.set_cons_zero, List.set_cons_succ]
      refine wpAnyH_done (by kernel_rfl) ?_ _
      refine ⟨rfl, ?_⟩
      clear hHeld
      cases gd with
      | false =>
        have hno : jInR wd hi l' = false := all_no hlk (by rw [Hpj.out]; exact Hgd.out)
        obtain ⟨rfl, rfl, rfl, rfl⟩ := four_inj (show ((0, 0, [], 2) : Int × Int × List Pc × Int) = (Wr, Hr, lr, C) by have h := HQ.out; rw [if_neg (by rw [hno]; simp)] at h; exact h)
        clear hno hall hB
        have rs_ := HBR.out _ HB6.out
        have HT := Lib.hid (kTrans HK0.out HB6.out)
        clear HBR
        go_wp2_with (refine wpList_store_row rfl 30 _ _ rfl (w.heap.size + 1 + 1) #[.int .i8 0, .int .i8 0, .slice none 0 0] rfl rfl 30 _ rs_ (by kernel_rfl) (by kernel_rfl) (by kernel_rfl) ?_)
        refine bodyPost_ret (v := .tuple #[.agg #[.int .i8 0, .int .i8 0, .slice none 0 0], .int .i64 2]) (results_cell_tmp rfl _ _ (w.heap.size + 1 + 1) 30 #[.int .i8 0, .int .i8 0, .slice none 0 0] (0, 0) _ _ rfl rfl (setRow_heap _ _ _ _ _ _ rs_) Try.underlying30 rfl (by kernel_rfl)) rfl ?_
        exact ⟨_, rfl, .empty _ _ rfl, kRowW HT.out (by omega) _⟩
      | true =>
        have HA := Lib.hid (show ∀ i (h : i < l'.length), i < j + 1 → jIn wd hi l'[i] = true from fun i h hi => by
          by_cases hij : i = j
          · subst hij; rw [Hpj.out]; exact Hgd.out
          · exact hall.out i h (by omega))
        clear hall hB
        go_wp2
        exact ⟨⟨j + 1, by omega, by go_num, HA, HB6⟩, by simp [intOf]; omega⟩
    · obtain rfl : j = m := by omega
      have hyes : jInR wd hi l' = true := all_yes (fun i h => hall.out i h (by rw [Hm.out] at h; exact h))
      have HQ2 := Lib.hid (by have h := HQ.out; rw [if_pos hyes] at h; exact h)
      have HB2 := hB
      clear hyes hall HQ hB
      go_wp2
      go_loopw [7] (fun z wr => ∃ i : Nat, i ≤ j ∧ z = .int .i64 i ∧ Hid (∀ q (h : q < l'.length), q < i → jFr l l'[q] = true) ∧ Hid (Below W0.heap.size W0 wr)) (fun z _ => j - (intOf z).toNat)
      case atStart => exact ⟨0, by omega, rfl, Lib.hid (fun q _ hq => by omega), HB2⟩
      case round =>
        clear HB2 y0 y1 y2 ly
        rename World => wr2
        obtain ⟨i, hi_, rfl, hall, hB⟩ := hrel
        obtain ⟨y0, y1, y2⟩ := bd0 (HY.out _ hB.out)
        have ly := (HY.out _ hB.out).lt
        by_cases him : i < j
        · have hlk : i < l'.length := by rw [Hm.out]; exact him
          obtain ⟨p, hpj⟩ : ∃ p, l'[i] = p := ⟨_, rfl⟩
          obtain ⟨a0, a1, a2, a3, a4⟩ := (show PcAt wr2 b' (0 + i * 5) p by have h := HP'.out wr2 hB.out i hlk; rw [hpj] at h; exact h)
          have zb := Nat.lt_of_lt_of_le hbW' hB.out.size
          simp only [Nat.zero_add] at a0 a1 a2 a3 a4
          have Hpj := Lib.hid hpj
          obtain ⟨px, py, pk, pt, pd⟩ := p
          simp only at a0 a1 a2 a3 a4
          obtain ⟨f, hf⟩ : ∃ f, findFrom px py l 0 = f := ⟨_, rfl⟩
          have HH := Lib.hid (by have h := l01Find_any w.heap.size 0 b 0 n n wd hi px py l wr2 Hn.out (HX.out _ hB.out) (HP.out _ hB.out) (Nat.lt_of_lt_of_le hbW hB.out.size) (Nat.le_refl _) hmax; rw [hf] at h; exact h)
          have Hf := Lib.hid hf
          clear hpj hf
          go_wp2_with fail
          refine (HH.out).mono ?_
          rintro e w6 ⟨rfl, hb6⟩
          have HB6 := Lib.hid (kTrans hB.out hb6)
          clear a0 a1 a2 a3 a4 zb hb6 HH y0 y1 y2 ly
          by_cases hf0 : f < 0
          · have e1 : decide ((0 : Int) ≤ f) = false := by simp; omega
            have HA := Lib.hid (show ∀ q (h : q < l'.length), q < i + 1 → jFr l l'[q] = true from fun q h hq => by
              by_cases hqi : q = i
              · subst hqi; rw [Hpj.out]; unfold jFr; simp only; rw [Hf.out]; exact decide_eq_true hf0
              · exact hall.out q h (by omega))
            clear hall hB
            go_wp2
            exact ⟨⟨i + 1, by omega, by go_num, HA, HB6⟩, by simp [intOf]; omega⟩
          · have hno : jFrR l l' = false := all_no hlk (by rw [Hpj.out]; unfold jFr; simp only; rw [Hf.out]; exact decide_eq_false hf0)
            obtain ⟨rfl, rfl, rfl, rfl⟩ := four_inj (show ((0, 0, [], 4) : Int × Int × List Pc × Int) = (Wr, Hr, lr, C) by have h := HQ2.out; rw [if_neg (by rw [hno]; simp)] at h; exact h)
            have e1 : (0 : Int) ≤ f := by omega
            clear hno hall hB hf0
            have rs_ := HBR.out _ HB6.out
            have HT := Lib.hid (kTrans HK0.out HB6.out)
            clear HBR
            go_wp2_with (refine wpList_store_row rfl 30 _ _ rfl (w.heap.size + 1 + 1) #[.int .i8 0, .int .i8 0, .slice none 0 0] rfl rfl 30 _ rs_ (by kernel_rfl) (by kernel_rfl) (by kernel_rfl) ?_)
            refine bodyPost_ret (v := .tuple #[.agg #[.int .i8 0, .int .i8 0, .slice none 0 0], .int .i64 4]) (results_cell_tmp rfl _ _ (w.heap.size + 1 + 1) 30 #[.int .i8 0, .int .i8 0, .slice none 0 0] (0, 0) _ _ rfl rfl (setRow_heap _ _ _ _ _ _ rs_) Try.underlying30 rfl (by kernel_rfl)) rfl ?_
            exact ⟨_, rfl, .empty _ _ rfl, kRowW HT.out (by omega) _⟩
        · obtain rfl : i = j := by omega
          have hyes : jFrR l l' = true := all_yes (fun q h => hall.out q h (by rw [Hm.out] at h; exact h))
          have HQ3 := Lib.hid (by have h := HQ2.out; rw [if_pos hyes] at h; exact h)
          have HBf := hB
          clear hyes hall HQ2 hB
          obtain ⟨x0, x1, x2⟩ := bd0 (HX.out _ HBf.out)
          have lx := (HX.out _ HBf.out).lt
          have hni : (n : Int) ≤ 200 := by omega
          have hmi : (i : Int) ≤ 200 := by omega
          by_cases h200 : n + i ≤ 200
          · have e1 : ¬ (200 : Int) < (n : Int) + i := by omega
            have e2 : decide ((200 : Int) < (n : Int) + i) = false := by simp; omega
            obtain ⟨rfl, rfl, rfl, rfl⟩ := four_inj (show ((wd, hi, l ++ l', 0) : Int × Int × List Pc × Int) = (Wr, Hr, lr, C) by have h := HQ3.out; rw [Hn.out, Hm.out, if_pos h200] at h; exact h)
            clear HQ3
            obtain ⟨i0_, hi0, hz0, hzz1, hzz2⟩ := info_parts infoCcPc
            have Hi := Lib.hid hi0
            have Hz0 := Lib.hid hz0
            have Hz1 := Lib.hid hzz1
            have Hz2 := Lib.hid hzz2
            have HCP := Lib.hid (l01Copy_nn w.heap.size b 0 n n wd hi l wr2 Hn.out (HX.out _ HBf.out) (HP.out _ HBf.out) (Nat.lt_of_lt_of_le hbW HBf.out.size) hmax)
            clear hi0 hz0 hzz1 hzz2
            go_wp2_with fail
            refine (HCP.out).mono ?_
            rintro e w7 ⟨v7, rfl, hv7, -, hb7⟩
            obtain ⟨va7, vc7, rfl⟩ := owns_slice hv7
            have HV7 := Lib.hid hv7
            have HB7 := Lib.hid (kTrans HBf.out hb7)
            have hs7 : wr2.heap.size ≤ w7.heap.size := hb7.size
            obtain ⟨w8, hw8_⟩ : ∃ z, w7.alloc (.cells #[.int .i8 wd, .int .i8 hi, .slice va7 n vc7] 30) = z := ⟨_, rfl⟩
            have k8 : Below w7.heap.size w7 w8 := by rw [← hw8_]; exact kAlloc (Below.refl _ _) _
            have b8 : w8.heap[w7.heap.size]? = some (.cells #[.int .i8 wd, .int .i8 hi, .slice va7 n vc7] 30 (0, 0)) := by rw [← hw8_]; exact nNewJ _ _
            have HV8 := Lib.hid (owns_below hv7 k8)
            have HB8 := Lib.hid (kTrans HB7.out k8)
            have HBJ := Lib.hid (show Below wr2.heap.size wr2 w8 from kTrans hb7 k8)
            have Hw8 := Lib.hid hw8_
            clear hv7 hb7 HCP hw8_ k8 x0 x1 x2 lx y0 y1 y2 ly
            go_upto_region 16 with fail
            try rw [Hw8.out]
            obtain ⟨OB, hOB⟩ : ∃ z, w7.heap.size = z := ⟨_, rfl⟩
            rw [hOB] at b8 ⊢
            have hOBl : wr2.heap.size ≤ OB := by rw [← hOB]; exact hs7
            have HOB := Lib.hid b8
            have q2 : w8.cell? ⟨OB, 2, none⟩ = some (.slice va7 n vc7) := cell_of_row _ _ 2 _ _ _ b8
            have lOB := blk_lt b8
            obtain ⟨y0, y1, y2⟩ := bd0 (HY.out _ HB8.out)
            have ly := (HY.out _ HB8.out).lt
            have HPb := Lib.hid (HP'.out _ HB8.out)
            have Hsz := Lib.hid (show wr2.heap.size ≤ w8.heap.size by omega)
            clear hOB b8 Hw8 hs7 HV7
            go_wp2_with (at_builtin; refine wpList_append_own _ rfl _ _ 28 rfl wr2.heap.size 66 i0_ _ 5 5 Try.underlying28 Hi.out Hz0.out Hz1.out Hz2.out rfl (by decide) (.slice va7 n vc7) n (flatL l) rfl HV8.out ⟨b', 0, none⟩ i i (flatL l') rfl (by rw [flatL_length, Hm.out]) HPb.out.news (flatL_one _) ?c1 ?c2 ?c3 ?_)
            case c1 => unfold maxLen; omega
            case c2 => omega
            case c3 => exact Hsz.out
            intro v9 w9 hown9 hgr hnil
            have hO9 := (hgr.block OB lOB (fun e => row_block_J HV8.out HOB.out (by decide) e.symm)).trans HOB.out
            have B9 : Below wr2.heap.size wr2 w9 := by
              have h8_ : Below wr2.heap.size wr2 w8 := HBJ.out
              exact grown_below h8_ hgr (fun k hk => (HV8.out.lt k hk).1)
            obtain ⟨va9, vc9, rfl⟩ := owns_slice hown9
            have f9 : w9.frozen? ⟨OB, 2, none⟩ = false := frozen_of_row _ _ 2 _ _ hO9
            have d9 : w9.cell? ⟨OB, 2, none⟩ = some (.slice va7 n vc7) := cell_of_row _ _ 2 _ _ _ hO9
            have hl9 := blk_lt hO9
            have HO10 := Lib.hid (show (w9.setCell ⟨OB, 2, none⟩ (.slice va9 (n + i) vc9)).heap[OB]? = some (.cells #[.int .i8 wd, .int .i8 hi, .slice va9 (n + i) vc9] 30 (0, 0)) from blk_set_same' (i := 2) (v := .slice va9 (n + i) vc9) hO9)
            have HU10 := Lib.hid (owns_set_far (j := 2) (u := .slice va9 (n + i) vc9) hown9 hO9 (by decide))
            have HB10 := Lib.hid (kTrans HBf.out (kSet B9 (p := ⟨OB, 2, none⟩) hOBl (.slice va9 (n + i) vc9)))
            clear hown9 hgr hnil hO9 B9 q2 y0 y1 y2 ly
            go_upto_region 17 with fail
            generalize w9.setCell ⟨OB, 2, none⟩ (.slice va9 (n + i) vc9) = w10 at HO10 HU10 HB10 ⊢
            clear f9 d9 hl9 lOB
            obtain ⟨o0, o1, o2⟩ := bd0 (BdAt.of HO10.out)
            have lO := blk_lt HO10.out
            have rs_ := HBR.out _ HB10.out
            have HT := Lib.hid (kTrans HK0.out HB10.out)
            have hwz : W0.heap.size ≤ wr2.heap.size := HBf.out.size
            have kr : KeptOut (w.heap.size + 1 + 1) (w.heap.size + 1 + 1 + 1) w10 (w10.setRow (w.heap.size + 1 + 1) #[.int .i8 wd, .int .i8 hi, .slice va9 (n + i) vc9]) := ⟨rfl, rfl, rfl, by simp, fun k hk ho => setRow_other _ _ _ _ (by omega)⟩
            have HSL := Lib.hid (((SlW.of_owns (l := l ++ l') (by rw [flatL_append]; exact HU10.out)).out kr (.inr (by omega))).mono (show w.heap.size ≤ wr2.heap.size by omega) kr.size)
            clear kr
            go_wp2_with (refine wpList_store_row rfl 30 _ _ rfl (w.heap.size + 1 + 1) #[.int .i8 wd, .int .i8 hi, .slice va9 (n + i) vc9] rfl rfl 30 _ rs_ (by kernel_rfl) (by kernel_rfl) (by kernel_rfl) ?_)
            refine bodyPost_ret (v := .tuple #[.agg #[.int .i8 wd, .int .i8 hi, .slice va9 (n + i) vc9], .int .i64 0]) (results_cell_tmp rfl _ _ (w.heap.size + 1 + 1) 30 #[.int .i8 wd, .int .i8 hi, .slice va9 (n + i) vc9] (0, 0) _ _ rfl rfl (setRow_heap _ _ _ _ _ _ rs_) Try.underlying30 rfl (by kernel_rfl)) rfl ?_
            exact ⟨_, rfl, HSL.out, kRowW HT.out (by omega) _⟩
          · obtain ⟨rfl, rfl, rfl, rfl⟩ := four_inj (show ((0, 0, [], 3) : Int × Int × List Pc × Int) = (Wr, Hr, lr, C) by have h := HQ3.out; rw [Hn.out, Hm.out, if_neg h200] at h; exact h)
            have e1 : (200 : Int) < (n : Int) + i := by omega
            clear HQ3 h200
            have rs_ := HBR.out _ HBf.out
            have HT := Lib.hid (kTrans HK0.out HBf.out)
            clear HBR
            go_wp2_with (refine wpList_store_row rfl 30 _ _ rfl (w.heap.size + 1 + 1) #[.int .i8 0, .int .i8 0, .slice none 0 0] rfl rfl 30 _ rs_ (by kernel_rfl) (by kernel_rfl) (by kernel_rfl) ?_)
            refine bodyPost_ret (v := .tuple #[.agg #[.int .i8 0, .int .i8 0, .slice none 0 0], .int .i64 3]) (results_cell_tmp rfl _ _ (w.heap.size + 1 + 1) 30 #[.int .i8 0, .int .i8 0, .slice none 0 0] (0, 0) _ _ rfl rfl (setRow_heap _ _ _ _ _ _ rs_) Try.underlying30 rfl (by kernel_rfl)) rfl ?_
            exact ⟨_, rfl, .empty _ _ rfl, kRowW HT.out (by omega) _⟩
theorem implJoinBoards_any (b b' n m : Nat) (wd hi wd' hi' : Int) (l l' : List Pc) (w : World) (hn : l.length = n) (hm : l'.length = m) (hp : PcsAt w b 0 l) (hp' : PcsAt w b' 0 l') (hb : b < w.heap.size) (hb' : b' < w.heap.size) (h8 : All8 l) (h8' : All8 l') (hw8 : i8 wd) (hh8 : i8 hi) (hw8' : i8 wd') (hh8' : i8 hi') (hmax : n ≤ 1048576) (hmax' : m ≤ 1048576) (R R' : Bool) (hR : R = boardOk wd hi l) (hR' : R' = boardOk wd' hi' l') (Wr Hr : Int) (lr : List Pc) (C : Int) (hQ : jnQ R R' wd hi l l' = (Wr, Hr, lr, C)) :
    Calls Try.prog 18 #[.agg #[.int .i8 wd, .int .i8 hi, .slice (some ⟨b, 0, none⟩) n n], .agg #[.int .i8 wd', .int .i8 hi', .slice (some ⟨b', 0, none⟩) m m]] w (BoardPost Wr Hr lr C w) := by
  by_cases hb_ : R = true ∧ R' = true
  · exact implJoin_ok b b' n m wd hi wd' hi' l l' w hn hm hp hp' hb hb' h8 h8' hw8 hh8 hw8' hh8' hmax hmax' R R' hR hR' hb_.1 hb_.2 Wr Hr lr C hQ
  · exact implJoin_bad b b' n m wd hi wd' hi' l l' w hn hm hp hp' hb hb' h8 h8' hw8 hh8 hw8' hh8' hmax hmax' R R' hR hR' hb_ Wr Hr lr C hQ
theorem SlW.set3 {lo hi g : Nat} {w : World} {l : List Pc} {v : Value} (h : SlW lo hi w l v) (hg : g < lo) (a b c : Value) : SlW lo hi (((w.setCell ⟨g, 0, none⟩ a).setCell ⟨g, 1, none⟩ b).setCell ⟨g, 2, none⟩ c) l v := ((h.setFar hg).setFar hg).setFar hg
theorem specJoinBoards_any (b b' n m : Nat) (wd hi wd' hi' : Int) (l l' : List Pc) (w : World) (hn : l.length = n) (hm : l'.length = m) (hp : PcsAt w b 0 l) (hp' : PcsAt w b' 0 l') (hb : b < w.heap.size) (hb' : b' < w.heap.size) (h8 : All8 l) (h8' : All8 l') (hw8 : i8 wd) (hh8 : i8 hi) (hw8' : i8 wd') (hh8' : i8 hi') (hmax : n ≤ 1048576) (hmax' : m ≤ 1048576) (R R' : Bool) (hR : R = boardOk wd hi l) (hR' : R' = boardOk wd' hi' l') (Wr Hr : Int) (lr : List Pc) (C : Int) (hQ : jnQ R R' wd hi l l' = (Wr, Hr, lr, C)) :
    Calls Try.prog 17 #[.agg #[.int .i8 wd, .int .i8 hi, .slice (some ⟨b, 0, none⟩) n n], .agg #[.int .i8 wd', .int .i8 hi', .slice (some ⟨b', 0, none⟩) m m]] w (BoardPost Wr Hr lr C w) := by
  by_cases hb_ : R = true ∧ R' = true
  · exact specJoin_ok b b' n m wd hi wd' hi' l l' w hn hm hp hp' hb hb' h8 h8' hw8 hh8 hw8' hh8' hmax hmax' R R' hR hR' hb_.1 hb_.2 Wr Hr lr C hQ
  · exact specJoin_bad b b' n m wd hi wd' hi' l l' w hn hm hp hp' hb hb' h8 h8' hw8 hh8 hw8' hh8' hmax hmax' R R' hR hR' hb_ Wr Hr lr C hQ
theorem SlW.set3' {lo hi g : Nat} {w : World} {l : List Pc} {v : Value} (h : SlW lo hi w l v) (hg : g < lo) (a b c : Value) : SlW lo hi (((w.setCell ⟨g, 0, none⟩ a).setCell ⟨g, 1, none⟩ b).setCell ⟨g, 2, none⟩ c) l v := ((h.setFar hg).setFar hg).setFar hg
end Go.Proofs.Ytlmnoopoohdbkaa
