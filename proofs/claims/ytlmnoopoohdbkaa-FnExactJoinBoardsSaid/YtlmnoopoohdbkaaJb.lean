/- JoinBoards: the program. -/
import Derived.Test.YtlmnoopoohdbkaaJb0
import Derived.Test.YtlmnoopoohdbkaaCcPc
import Derived.Deep.DeepCutAuto
import Derived.Deep.RegionHeld3
namespace Go.Proofs.Ytlmnoopoohdbkaa
open Go.ChangeShapes Go.WideShapes Go.ChangeAt Go.RowKit Go.Joins Go.Deep
set_option linter.unusedVariables false
set_option linter.unusedSimpArgs false
def onlyJ (Q : Exit → Act → World → Prop) (e : Exit) (a : Act) (w : World) : Prop := e = .normal ∧ Q .normal a w
theorem regionW_of_HJ {id : Nat} {P : Program} {ops : Array Oper} {Q : Exit → Act → World → Prop} {a : Act} {w : World} (S : World → Prop) (hm : P.follows .mixedOrders = true)
    (hS : S w.drew) (h : S w.drew → wpAnyH P .any ops (onlyJ Q) S ops.size (Array.replicate ops.size false) a w.drew) : (Code.region id ops true).wp P Q a w :=
  wp_mono (wp_region_any hm (wpAny_of_held _ _ _ _ (h hS))) (fun e a w hq => by obtain ⟨rfl, hq⟩ := hq; exact hq)
theorem bd0 {w : World} {b : Nat} {wd hi : Int} {v : Value} (h : BdAt w b 0 wd hi v) : w.cell? ⟨b, 0, none⟩ = some (.int .i8 wd) ∧ w.cell? ⟨b, 1, none⟩ = some (.int .i8 hi) ∧ w.cell? ⟨b, 2, none⟩ = some v := h
theorem nNewJ (w : World) (o : Obj) : (w.alloc o).heap[w.heap.size]? = some o := heap_alloc_new _ _
set_option maxRecDepth 100000 in
set_option maxHeartbeats 8000000 in
theorem implJoin_bad (b b' n m : Nat) (wd hi wd' hi' : Int) (l l' : List Pc) (w : World) (hn : l.length = n) (hm : l'.length = m) (hp : PcsAt w b 0 l) (hp' : PcsAt w b' 0 l') (hb : b < w.heap.size) (hb' : b' < w.heap.size) (h8 : All8 l) (h8' : All8 l') (hw8 : i8 wd) (hh8 : i8 hi) (hw8' : i8 wd') (hh8' : i8 hi') (hmax : n ≤ 1048576) (hmax' : m ≤ 1048576) (R R' : Bool) (hR : R = boardOk wd hi l) (hR' : R' = boardOk wd' hi' l') (hbad : ¬ (R = true ∧ R' = true)) (Wr Hr : Int) (lr : List Pc) (C : Int) (hQ : jnQ R R' wd hi l l' = (Wr, Hr, lr, C)) :
    Calls Try.prog 18 #[.agg #[.int .i8 wd, .int .i8 hi, .slice (some ⟨b, 0, none⟩) n n], .agg #[.int .i8 wd', .int .i8 hi', .slice (some ⟨b', 0, none⟩) m m]] w (BoardPost Wr Hr lr C w) := by
  obtain ⟨W0, hW⟩ : ∃ W0, ((w.alloc (.cells #[.int .i8 wd, .int .i8 hi, .slice (some ⟨b, 0, none⟩) n n] 30)).alloc (.cells #[.int .i8 wd', .int .i8 hi', .slice (some ⟨b', 0, none⟩) m m] 30)).alloc (.cells #[.int .i8 0, .int .i8 0, .slice none 0 0] 30) = W0 := ⟨_, rfl⟩
  have k0 : Below w.heap.size w W0 := by rw [← hW]; exact kAlloc (kAlloc (kAlloc (Below.refl _ _) _) _) _
  have hs0 : w.heap.size + 3 ≤ W0.heap.size := by rw [← hW]; simp
  have bX : W0.heap[w.heap.size]? = some (.cells #[.int .i8 wd, .int .i8 hi, .slice (some ⟨b, 0, none⟩) n n] 30 (0, 0)) := by
    rw [← hW]; exact (Below.heap_alloc _ _ _ (by simp; omega)).trans ((Below.heap_alloc _ _ _ (by simp)).trans (heap_alloc_new _ _))
  have bY : W0.heap[w.heap.size + 1]? = some (.cells #[.int .i8 wd', .int .i8 hi', .slice (some ⟨b', 0, none⟩) m m] 30 (0, 0)) := by
    rw [← hW]; exact (Below.heap_alloc _ _ _ (by simp)).trans (heap_two _ _ _)
  have bR : W0.heap[w.heap.size + 1 + 1]? = some (.cells #[.int .i8 0, .int .i8 0, .slice none 0 0] 30 (0, 0)) := by
    rw [← hW]
    have h := heap_alloc_new ((w.alloc (.cells #[.int .i8 wd, .int .i8 hi, .slice (some ⟨b, 0, none⟩) n n] 30)).alloc (.cells #[.int .i8 wd', .int .i8 hi', .slice (some ⟨b', 0, none⟩) m m] 30)) (.cells #[.int .i8 0, .int .i8 0, .slice none 0 0] 30)
    simpa only [World.size_alloc] using h
  have hx := BdAt.of bX
  have hy := BdAt.of bY
  have hlx := hx.lt
  have hly := hy.lt
  have HX := Lib.hid (fun W2 (h2 : Below W0.heap.size W0 W2) => hx.below h2 hx.lt)
  have HY := Lib.hid (fun W2 (h2 : Below W0.heap.size W0 W2) => hy.below h2 hy.lt)
  have HBR := Lib.hid (fun W2 (h2 : Below W0.heap.size W0 W2) => blk_below bR h2)
  have HV := Lib.hid (fun W2 (h2 : Below W0.heap.size W0 W2) => layoutOf_any b 0 n n wd hi l W2 hn (hp.below (kTrans k0 h2) hb) (Nat.lt_of_lt_of_le hb (kTrans k0 h2).size) (Nat.le_refl _) h8 hmax R hR)
  have HV' := Lib.hid (fun W2 (h2 : Below W0.heap.size W0 W2) => implValidBoard_any b' 0 m m wd' hi' l' W2 hm (hp'.below (kTrans k0 h2) hb') (Nat.lt_of_lt_of_le hb' (kTrans k0 h2).size) (Nat.le_refl _) h8' hmax' R' hR')
  have HP := Lib.hid (fun W2 (h2 : Below W0.heap.size W0 W2) => hp.below (kTrans k0 h2) hb)
  have HP' := Lib.hid (fun W2 (h2 : Below W0.heap.size W0 W2) => hp'.below (kTrans k0 h2) hb')
  have HK0 := Lib.hid k0
  have HW := Lib.hid hW
  have Hn := Lib.hid hn
  have Hm := Lib.hid hm
  have H8' := Lib.hid h8'
  have hbW : b < W0.heap.size := Nat.lt_of_lt_of_le hb k0.size
  have hbW' : b' < W0.heap.size := Nat.lt_of_lt_of_le hb' k0.size
  obtain ⟨x0, x1, x2⟩ := bd0 hx
  obtain ⟨y0, y1, y2⟩ := bd0 hy
  rw [jnQ, if_neg hbad] at hQ
  obtain ⟨rfl, rfl, rfl, rfl⟩ := four_inj (show ((0, 0, [], 1) : Int × Int × List Pc × Int) = (Wr, Hr, lr, C) from hQ)
  cases R with
  | false =>
    clear hbad
    clear hR hR' h8 h8' hp hp' hb hb' hW bX bY bR k0 hx hy
    clear hQ HP HP' H8' y0 y1 y2
    go_enter Try.func18, Try.ntmps18
    go_upto_region 1 with fail
    try rw [HW.out]
    go_wp2_with fail
    refine (HV.out _ (Below.refl _ _)).mono ?_
    rintro e w1 ⟨hT, hF, hb1⟩
    obtain rfl := hF rfl
    clear hT hF x0 x1 x2 HV HW
    have hz1 := hb1.size
    obtain ⟨W1, hW1⟩ : ∃ z, w1.alloc (.cells #[.int .i8 0, .int .i8 0, .map none] 97) = z := ⟨_, rfl⟩
    have kW1 : Below w1.heap.size w1 W1 := by rw [← hW1]; exact kAlloc (Below.refl _ _) _
    have bW1 := Lib.hid (show W1.heap[w1.heap.size]? = some (.cells #[.int .i8 0, .int .i8 0, .map none] 97 (0, 0)) by rw [← hW1]; exact nNewJ _ _)
    have HBW1 := Lib.hid (kTrans hb1 kW1)
    have HW1 := Lib.hid hW1
    clear hW1 kW1
    go_upto_region 2 with fail
    try rw [HW1.out]
    clear HW1 bW1
    have rs_ := HBR.out _ HBW1.out
    have HT := Lib.hid (kTrans HK0.out HBW1.out)
    clear HBR
    go_wp2_with (refine wpList_store_row rfl 30 _ _ rfl (w.heap.size + 1 + 1) #[.int .i8 0, .int .i8 0, .slice none 0 0] rfl rfl 30 _ rs_ (by kernel_rfl) (by kernel_rfl) (by kernel_rfl) ?_)
    refine bodyPost_ret (v := .tuple #[.agg #[.int .i8 0, .int .i8 0, .slice none 0 0], .int .i64 1]) (results_cell_tmp rfl _ _ (w.heap.size + 1 + 1) 30 #[.int .i8 0, .int .i8 0, .slice none 0 0] (0, 0) _ _ rfl rfl (setRow_heap _ _ _ _ _ _ rs_) Try.underlying30 rfl (by kernel_rfl)) rfl ?_
    exact ⟨_, rfl, .empty _ _ rfl, kRowW HT.out (by omega) _⟩
  | true =>
    obtain rfl : R' = false := by cases R' with | false => rfl | true => exact absurd ⟨rfl, rfl⟩ hbad
    clear hbad
    clear hR hR' h8 h8' hp hp' hb hb' hW bX bY bR k0 hx hy
    clear hQ HP HP' H8'
    go_enter Try.func18, Try.ntmps18
    go_upto_region 1 with fail
    try rw [HW.out]
    go_wp2_with fail
    refine (HV.out _ (Below.refl _ _)).mono ?_
    rintro e w1 ⟨hT, hF, hb1⟩
    obtain ⟨BM, rfl, hM⟩ := hT rfl
    clear hT hF x0 x1 x2 y0 y1 y2 HV HW hM
    have hz1 := hb1.size
    obtain ⟨W1, hW1⟩ : ∃ z, w1.alloc (.cells #[.int .i8 wd, .int .i8 hi, .map (some BM)] 97) = z := ⟨_, rfl⟩
    have kW1 : Below w1.heap.size w1 W1 := by rw [← hW1]; exact kAlloc (Below.refl _ _) _
    have bW1 := Lib.hid (show W1.heap[w1.heap.size]? = some (.cells #[.int .i8 wd, .int .i8 hi, .map (some BM)] 97 (0, 0)) by rw [← hW1]; exact nNewJ _ _)
    have HBW1 := Lib.hid (kTrans hb1 kW1)
    have HW1 := Lib.hid hW1
    clear hW1 kW1
    go_upto_region 2 with fail
    try rw [HW1.out]
    obtain ⟨y0, y1, y2⟩ := bd0 (HY.out _ HBW1.out)
    have ly1 := (HY.out _ HBW1.out).lt
    clear HW1 bW1
    go_wp2_with fail
    refine (HV'.out _ HBW1.out).mono ?_
    rintro e w2 ⟨rfl, hb2⟩
    have HB2 := Lib.hid (kTrans HBW1.out hb2)
    have hz2 := hb2.size
    clear y0 y1 y2
    have rs_ := HBR.out _ HB2.out
    have HT := Lib.hid (kTrans HK0.out HB2.out)
    clear HBR
    go_wp2_with (refine wpList_store_row rfl 30 _ _ rfl (w.heap.size + 1 + 1) #[.int .i8 0, .int .i8 0, .slice none 0 0] rfl rfl 30 _ rs_ (by kernel_rfl) (by kernel_rfl) (by kernel_rfl) ?_)
    refine bodyPost_ret (v := .tuple #[.agg #[.int .i8 0, .int .i8 0, .slice none 0 0], .int .i64 1]) (results_cell_tmp rfl _ _ (w.heap.size + 1 + 1) 30 #[.int .i8 0, .int .i8 0, .slice none 0 0] (0, 0) _ _ rfl rfl (setRow_heap _ _ _ _ _ _ rs_) Try.underlying30 rfl (by kernel_rfl)) rfl ?_
    exact ⟨_, rfl, .empty _ _ rfl, kRowW HT.out (by omega) _⟩
set_option maxRecDepth 100000 in
set_option maxHeartbeats 8000000 in
theorem implJoin_ok (b b' n m : Nat) (wd hi wd' hi' : Int) (l l' : List Pc) (w : World) (hn : l.length = n) (hm : l'.length = m) (hp : PcsAt w b 0 l) (hp' : PcsAt w b' 0 l') (hb : b < w.heap.size) (hb' : b' < w.heap.size) (h8 : All8 l) (h8' : All8 l') (hw8 : i8 wd) (hh8 : i8 hi) (hw8' : i8 wd') (hh8' : i8 hi') (hmax : n ≤ 1048576) (hmax' : m ≤ 1048576) (R R' : Bool) (hR : R = boardOk wd hi l) (hR' : R' = boardOk wd' hi' l') (hr : R = true) (hr' : R' = true) (Wr Hr : Int) (lr : List Pc) (C : Int) (hQ : jnQ R R' wd hi l l' = (Wr, Hr, lr, C)) :
    Calls Try.prog 18 #[.agg #[.int .i8 wd, .int .i8 hi, .slice (some ⟨b, 0, none⟩) n n], .agg #[.int .i8 wd', .int .i8 hi', .slice (some ⟨b', 0, none⟩) m m]] w (BoardPost Wr Hr lr C w) := by
  obtain ⟨W0, hW⟩ : ∃ W0, ((w.alloc (.cells #[.int .i8 wd, .int .i8 hi, .slice (some ⟨b, 0, none⟩) n n] 30)).alloc (.cells #[.int .i8 wd', .int .i8 hi', .slice (some ⟨b', 0, none⟩) m m] 30)).alloc (.cells #[.int .i8 0, .int .i8 0, .slice none 0 0] 30) = W0 := ⟨_, rfl⟩
  have k0 : Below w.heap.size w W0 := by rw [← hW]; exact kAlloc (kAlloc (kAlloc (Below.refl _ _) _) _) _
  have hs0 : w.heap.size + 3 ≤ W0.heap.size := by rw [← hW]; simp
  have bX : W0.heap[w.heap.size]? = some (.cells #[.int .i8 wd, .int .i8 hi, .slice (some ⟨b, 0, none⟩) n n] 30 (0, 0)) := by
    rw [← hW]; exact (Below.heap_alloc _ _ _ (by simp; omega)).trans ((Below.heap_alloc _ _ _ (by simp)).trans (heap_alloc_new _ _))
  have bY : W0.heap[w.heap.size + 1]? = some (.cells #[.int .i8 wd', .int .i8 hi', .slice (some ⟨b', 0, none⟩) m m] 30 (0, 0)) := by
    rw [← hW]; exact (Below.heap_alloc _ _ _ (by simp)).trans (heap_two _ _ _)
  have bR : W0.heap[w.heap.size + 1 + 1]? = some (.cells #[.int .i8 0, .int .i8 0, .slice none 0 0] 30 (0, 0)) := by
    rw [← hW]
    have h := heap_alloc_new ((w.alloc (.cells #[.int .i8 wd, .int .i8 hi, .slice (some ⟨b, 0, none⟩) n n] 30)).alloc (.cells #[.int .i8 wd', .int .i8 hi', .slice (some ⟨b', 0, none⟩) m m] 30)) (.cells #[.int .i8 0, .int .i8 0, .slice none 0 0] 30)
    simpa only [World.size_alloc] using h
  have hx := BdAt.of bX
  have hy := BdAt.of bY
  have hlx := hx.lt
  have hly := hy.lt
  have HX := Lib.hid (fun W2 (h2 : Below W0.heap.size W0 W2) => hx.below h2 hx.lt)
  have HY := Lib.hid (fun W2 (h2 : Below W0.heap.size W0 W2) => hy.below h2 hy.lt)
  have HBR := Lib.hid (fun W2 (h2 : Below W0.heap.size W0 W2) => blk_below bR h2)
  have HV := Lib.hid (fun W2 (h2 : Below W0.heap.size W0 W2) => layoutOf_any b 0 n n wd hi l W2 hn (hp.below (kTrans k0 h2) hb) (Nat.lt_of_lt_of_le hb (kTrans k0 h2).size) (Nat.le_refl _) h8 hmax R hR)
  have HV' := Lib.hid (fun W2 (h2 : Below W0.heap.size W0 W2) => implValidBoard_any b' 0 m m wd' hi' l' W2 hm (hp'.below (kTrans k0 h2) hb') (Nat.lt_of_lt_of_le hb' (kTrans k0 h2).size) (Nat.le_refl _) h8' hmax' R' hR')
  have HP := Lib.hid (fun W2 (h2 : Below W0.heap.size W0 W2) => hp.below (kTrans k0 h2) hb)
  have HP' := Lib.hid (fun W2 (h2 : Below W0.heap.size W0 W2) => hp'.below (kTrans k0 h2) hb')
  have HK0 := Lib.hid k0
  have HW := Lib.hid hW
  have Hn := Lib.hid hn
  have Hm := Lib.hid hm
  have H8' := Lib.hid h8'
  have hbW : b < W0.heap.size := Nat.lt_of_lt_of_le hb k0.size
  have hbW' : b' < W0.heap.size := Nat.lt_of_lt_of_le hb' k0.size
  obtain ⟨x0, x1, x2⟩ := bd0 hx
  obtain ⟨y0, y1, y2⟩ := bd0 hy
  rw [jnQ, if_pos ⟨hr, hr'⟩] at hQ
  subst hr hr'
  have hl2 := boardOk_len hR.symm
  have hl2' := boardOk_len hR'.symm
  have HQ := Lib.hid hQ
  have hm200 : m ≤ 200 := by omega
  have hn200 : n ≤ 200 := by omega
  clear hR hR' h8 h8' hp hp' hb hb' hW bX bY bR k0 hx hy
  clear hQ hl2 hl2'
  go_enter Try.func18, Try.ntmps18
  go_upto_region 1 with fail
  try rw [HW.out]
  go_wp2_with fail
  refine (HV.out _ (Below.refl _ _)).mono ?_
  rintro e w1 ⟨hT, hF, hb1⟩
  obtain ⟨BM, rfl, hM⟩ := hT rfl
  clear hT hF x0 x1 x2 y0 y1 y2 HV HW
  have hz1 := hb1.size
  obtain ⟨W1, hW1⟩ : ∃ z, w1.alloc (.cells #[.int .i8 wd, .int .i8 hi, .map (some BM)] 97) = z := ⟨_, rfl⟩
  have kW1 : Below w1.heap.size w1 W1 := by rw [← hW1]; exact kAlloc (Below.refl _ _) _
  have bW1 := Lib.hid (show W1.heap[w1.heap.size]? = some (.cells #[.int .i8 wd, .int .i8 hi, .map (some BM)] 97 (0, 0)) by rw [← hW1]; exact nNewJ _ _)
  have HBW1 := Lib.hid (kTrans hb1 kW1)
  have HW1 := Lib.hid hW1
  have HM := Lib.hid (fun W2 (h2 : Below W1.heap.size W1 W2) => (hM.below kW1).below h2)
  clear hW1 kW1 hM
  go_upto_region 2 with fail
  try rw [HW1.out]
  obtain ⟨Lb, hLb⟩ : ∃ z, w1.heap.size = z := ⟨_, rfl⟩
  rw [hLb] at bW1 ⊢
  clear hLb
  obtain ⟨y0, y1, y2⟩ := bd0 (HY.out _ HBW1.out)
  have ly1 := (HY.out _ HBW1.out).lt
  clear HW1
  go_wp2_with fail
  refine (HV'.out _ HBW1.out).mono ?_
  rintro e w2 ⟨rfl, hb2⟩
  have HB2 := Lib.hid (show Below W1.heap.size W1 w2 from hb2)
  clear y0 y1 y2 hb1 hb2 HV' ly1
  obtain ⟨y0, y1, y2⟩ := bd0 (HY.out _ (kTrans HBW1.out HB2.out))
  have ly := (HY.out _ (kTrans HBW1.out HB2.out)).lt
  go_wp2
  go_loopw [9, 28] (fun _ z wr => ∃ j : Nat, j ≤ m ∧ z = .int .i64 j ∧ Hid (∀ i (h : i < l'.length), i < j → jIn wd hi l'[i] = true) ∧ Hid (Below W1.heap.size W1 wr)) (fun _ z _ => m - (intOf z).toNat)
  case atStart => exact ⟨0, by omega, rfl, Lib.hid (fun i _ hi => by omega), HB2⟩
  case round =>
    clear HB2 y0 y1 y2 ly
    obtain ⟨j, hj, rfl, hall, hB⟩ := hrel
    obtain ⟨y0, y1, y2⟩ := bd0 (HY.out _ (kTrans HBW1.out hB.out))
    have ly := (HY.out _ (kTrans HBW1.out hB.out)).lt
    by_cases hjm : j < m
    · have hlk : j < l'.length := by rw [Hm.out]; exact hjm
      obtain ⟨p, hpj⟩ : ∃ p, l'[j] = p := ⟨_, rfl⟩
      have h8p : p.in8 := by rw [← hpj]; exact H8'.out _ (List.getElem_mem hlk)
      obtain ⟨a0, a1, a2, a3, a4⟩ := (show PcAt wr b' (0 + j * 5) p by have h := HP'.out wr (kTrans HBW1.out hB.out) j hlk; rw [hpj] at h; exact h)
      have zb := Nat.lt_of_lt_of_le hbW' (kTrans HBW1.out hB.out).size
      simp only [Nat.zero_add] at a0 a1 a2 a3 a4
      have Hpj := Lib.hid hpj
      obtain ⟨px, py, pk, pt, pd⟩ := p
      simp only at a0 a1 a2 a3 a4
      have lb_ := blk_below bW1.out hB.out
      have v0 : wr.cell? ⟨Lb, 0, none⟩ = some (.int .i8 wd) := cell_of_row _ _ 0 _ _ _ lb_
      have v1 : wr.cell? ⟨Lb, 1, none⟩ = some (.int .i8 hi) := cell_of_row _ _ 1 _ _ _ lb_
      have lL := blk_lt lb_
      obtain ⟨gd, hgd⟩ : ∃ gd, jIn wd hi ⟨px, py, pk, pt, pd⟩ = gd := ⟨_, rfl⟩
      have HH := Lib.hid (fun W => holds_any px py wd hi W h8p.1 h8p.2.1 hw8 hh8 gd (by rw [← hgd]; unfold jIn; congr 1; simp only [eq_iff_iff]; omega))
      have Hgd := Lib.hid hgd
      obtain ⟨w5, hW5⟩ : ∃ w5, wr.alloc (.cells #[.int .i8 px, .int .i8 py, .int .i8 pk, .int .i8 pt, .int .i8 pd] 66) = w5 := ⟨_, rfl⟩
      have k5 : Below wr.heap.size wr w5 := by rw [← hW5]; exact kAlloc (Below.refl _ _) _
      have bN : w5.heap[wr.heap.size]? = some (.cells #[.int .i8 px, .int .i8 py, .int .i8 pk, .int .i8 pt, .int .i8 pd] 66 (0, 0)) := by rw [← hW5]; exact nNewJ _ _
      have HW5 := Lib.hid hW5
      have HB5 := Lib.hid (kTrans hB.out k5)
      clear hpj hgd hW5 lb_
      have k5L := k5
      go_upto_region 7 with fail
      try rw [HW5.out]
      clear v0 v1 a0 a1 a2 a3 a4 zb HW5 k5 k5L y0 y1 y2 ly lL
      have lb_ := blk_below bW1.out HB5.out
      have v0 : w5.cell? ⟨Lb, 0, none⟩ = some (.int .i8 wd) := cell_of_row _ _ 0 _ _ _ lb_
      have v1 : w5.cell? ⟨Lb, 1, none⟩ = some (.int .i8 hi) := cell_of_row _ _ 1 _ _ _ lb_
      have lL := blk_lt lb_
      have n0 : w5.cell? ⟨wr.heap.size, 0, none⟩ = some (.int .i8 px) := cell_of_row _ _ 0 _ _ _ bN
      have n1 : w5.cell? ⟨wr.heap.size, 1, none⟩ = some (.int .i8 py) := cell_of_row _ _ 1 _ _ _ bN
      have ln := blk_lt bN
      clear bN lb_
      go_wp2_with fail
      refine (HH.out _).mono ?_
      rintro e w6 ⟨rfl, hb6⟩
      have HB6 := Lib.hid (kTrans HB5.out hb6)
      clear v0 v1 n0 n1 lL ln hb6 HH
      cases gd with
      | false =>
        have hno : jInR wd hi l' = false := all_no hlk (by rw [Hpj.out]; exact Hgd.out)
        obtain ⟨rfl, rfl, rfl, rfl⟩ := four_inj (show ((0, 0, [], 2) : Int × Int × List Pc × Int) = (Wr, Hr, lr, C) by have h := HQ.out; rw [if_neg (by rw [hno]; simp)] at h; exact h)
        clear hno hall hB
        have HB6f := Lib.hid (kTrans HBW1.out HB6.out)
        have rs_ := HBR.out _ HB6f.out
        have HT := Lib.hid (kTrans HK0.out HB6f.out)
        clear HBR
        go_wp2_with (refine wpList_store_row rfl 30 _ _ rfl (w.heap.size + 1 + 1) #[.int .i8 0, .int .i8 0, .slice none 0 0] rfl rfl 30 _ rs_ (by kernel_rfl) (by kernel_rfl) (by kernel_rfl) ?_)
        refine bodyPost_ret (v := .tuple #[.agg #[.int .i8 0, .int .i8 0, .slice none 0 0], .int .i64 2]) (results_cell_tmp rfl _ _ (w.heap.size + 1 + 1) 30 #[.int .i8 0, .int .i8 0, .slice none 0 0] (0, 0) _ _ rfl rfl (setRow_heap _ _ _ _ _ _ rs_) Try.underlying30 rfl (by kernel_rfl)) rfl ?_
        exact ⟨_, rfl, .empty _ _ rfl, kRowW HT.out (by omega) _⟩
      | true =>
        have HA := Lib.hid (show ∀ i (h : i < l'.length), i < j + 1 → jIn wd hi l'[i] = true from fun i h hi => by
          by_cases hij : i = j
          · subst hij; rw [Hpj.out]; exact Hgd.out
          · exact hall.out i h (by omega))
        clear hall hB
        go_wp2
        exact ⟨⟨j + 1, by omega, by go_num, HA, HB6⟩, by simp [intOf]; omega⟩
    · obtain rfl : j = m := by omega
      have hyes : jInR wd hi l' = true := all_yes (fun i h => hall.out i h (by rw [Hm.out] at h; exact h))
      have HQ2 := Lib.hid (by have h := HQ.out; rw [if_pos hyes] at h; exact h)
      have HB2 := hB
      clear hyes hall HQ hB
      go_wp2
      go_loopw [11, 43] (fun _ z wr => ∃ i : Nat, i ≤ j ∧ z = .int .i64 i ∧ Hid (∀ q (h : q < l'.length), q < i → jFr l l'[q] = true) ∧ Hid (Below W1.heap.size W1 wr)) (fun _ z _ => j - (intOf z).toNat)
      case atStart => exact ⟨0, by omega, rfl, Lib.hid (fun q _ hq => by omega), HB2⟩
      case round =>
        clear HB2 y0 y1 y2 ly
        rename World => wr2
        obtain ⟨i, hi_, rfl, hall, hB⟩ := hrel
        obtain ⟨y0, y1, y2⟩ := bd0 (HY.out _ (kTrans HBW1.out hB.out))
        have ly := (HY.out _ (kTrans HBW1.out hB.out)).lt
        by_cases him : i < j
        · have hlk : i < l'.length := by rw [Hm.out]; exact him
          obtain ⟨p, hpj⟩ : ∃ p, l'[i] = p := ⟨_, rfl⟩
          obtain ⟨a0, a1, a2, a3, a4⟩ := (show PcAt wr2 b' (0 + i * 5) p by have h := HP'.out wr2 (kTrans HBW1.out hB.out) i hlk; rw [hpj] at h; exact h)
          have zb := Nat.lt_of_lt_of_le hbW' (kTrans HBW1.out hB.out).size
          simp only [Nat.zero_add] at a0 a1 a2 a3 a4
          have Hpj := Lib.hid hpj
          obtain ⟨px, py, pk, pt, pd⟩ := p
          simp only at a0 a1 a2 a3 a4
          obtain ⟨f, hf⟩ : ∃ f, findFrom px py l 0 = f := ⟨_, rfl⟩
          have HH := Lib.hid (fun W (h2 : Below W1.heap.size W1 W) => by have h := indexAt_any wd hi px py BM l W (HM.out W h2); rw [hf] at h; exact h)
          have Hf := Lib.hid hf
          obtain ⟨w5, hW5⟩ : ∃ w5, wr2.alloc (.cells #[.int .i8 px, .int .i8 py, .int .i8 pk, .int .i8 pt, .int .i8 pd] 66) = w5 := ⟨_, rfl⟩
          have k5 : Below wr2.heap.size wr2 w5 := by rw [← hW5]; exact kAlloc (Below.refl _ _) _
          have bN : w5.heap[wr2.heap.size]? = some (.cells #[.int .i8 px, .int .i8 py, .int .i8 pk, .int .i8 pt, .int .i8 pd] 66 (0, 0)) := by rw [← hW5]; exact nNewJ _ _
          have HW5 := Lib.hid hW5
          have HB5 := Lib.hid (kTrans hB.out k5)
          clear hpj hf hW5 k5
          go_upto_region 13 with fail
          try rw [HW5.out]
          clear a0 a1 a2 a3 a4 zb HW5 y0 y1 y2 ly
          have lb_ := blk_below bW1.out HB5.out
          have v0 : w5.cell? ⟨Lb, 0, none⟩ = some (.int .i8 wd) := cell_of_row _ _ 0 _ _ _ lb_
          have v1 : w5.cell? ⟨Lb, 1, none⟩ = some (.int .i8 hi) := cell_of_row _ _ 1 _ _ _ lb_
          have v2 : w5.cell? ⟨Lb, 2, none⟩ = some (.map (some BM)) := cell_of_row _ _ 2 _ _ _ lb_
          have lL := blk_lt lb_
          have n0 : w5.cell? ⟨wr2.heap.size, 0, none⟩ = some (.int .i8 px) := cell_of_row _ _ 0 _ _ _ bN
          have n1 : w5.cell? ⟨wr2.heap.size, 1, none⟩ = some (.int .i8 py) := cell_of_row _ _ 1 _ _ _ bN
          have ln := blk_lt bN
          clear bN lb_
          go_wp2_with fail
          refine (HH.out _ HB5.out).mono ?_
          rintro e w6 ⟨rfl, hb6⟩
          have HB6 := Lib.hid (kTrans HB5.out hb6)
          clear v0 v1 v2 n0 n1 lL ln hb6 HH
          by_cases hf0 : f < 0
          · have e1 : decide ((0 : Int) ≤ f) = false := by simp; omega
            have HA := Lib.hid (show ∀ q (h : q < l'.length), q < i + 1 → jFr l l'[q] = true from fun q h hq => by
              by_cases hqi : q = i
              · subst hqi; rw [Hpj.out]; unfold jFr; simp only; rw [Hf.out]; exact decide_eq_true hf0
              · exact hall.out q h (by omega))
            clear hall hB
            go_wp2
            exact ⟨⟨i + 1, by omega, by go_num, HA, HB6⟩, by simp [intOf]; omega⟩
          · have hno : jFrR l l' = false := all_no hlk (by rw [Hpj.out]; unfold jFr; simp only; rw [Hf.out]; exact decide_eq_false hf0)
            obtain ⟨rfl, rfl, rfl, rfl⟩ := four_inj (show ((0, 0, [], 4) : Int × Int × List Pc × Int) = (Wr, Hr, lr, C) by have h := HQ2.out; rw [if_neg (by rw [hno]; simp)] at h; exact h)
            have e1 : (0 : Int) ≤ f := by omega
            clear hno hall hB hf0
            have HB6f := Lib.hid (kTrans HBW1.out HB6.out)
            have rs_ := HBR.out _ HB6f.out
            have HT := Lib.hid (kTrans HK0.out HB6f.out)
            clear HBR
            go_wp2_with (refine wpList_store_row rfl 30 _ _ rfl (w.heap.size + 1 + 1) #[.int .i8 0, .int .i8 0, .slice none 0 0] rfl rfl 30 _ rs_ (by kernel_rfl) (by kernel_rfl) (by kernel_rfl) ?_)
            refine bodyPost_ret (v := .tuple #[.agg #[.int .i8 0, .int .i8 0, .slice none 0 0], .int .i64 4]) (results_cell_tmp rfl _ _ (w.heap.size + 1 + 1) 30 #[.int .i8 0, .int .i8 0, .slice none 0 0] (0, 0) _ _ rfl rfl (setRow_heap _ _ _ _ _ _ rs_) Try.underlying30 rfl (by kernel_rfl)) rfl ?_
            exact ⟨_, rfl, .empty _ _ rfl, kRowW HT.out (by omega) _⟩
        · obtain rfl : i = j := by omega
          have hyes : jFrR l l' = true := all_yes (fun q h => hall.out q h (by rw [Hm.out] at h; exact h))
          have HQ3 := Lib.hid (by have h := HQ2.out; rw [if_pos hyes] at h; exact h)
          have HBf := Lib.hid (kTrans HBW1.out hB.out)
          clear hyes hall HQ2 hB
          obtain ⟨x0, x1, x2⟩ := bd0 (HX.out _ HBf.out)
          have lx := (HX.out _ HBf.out).lt
          have hni : (n : Int) ≤ 200 := by omega
          have hmi : (i : Int) ≤ 200 := by omega
          by_cases h200 : n + i ≤ 200
          · have e1 : ¬ (200 : Int) < (n : Int) + i := by omega
            have e2 : decide ((200 : Int) < (n : Int) + i) = false := by simp; omega
            obtain ⟨rfl, rfl, rfl, rfl⟩ := four_inj (show ((wd, hi, l ++ l', 0) : Int × Int × List Pc × Int) = (Wr, Hr, lr, C) by have h := HQ3.out; rw [Hn.out, Hm.out, if_pos h200] at h; exact h)
            clear HQ3
            have hNx := HX.out _ HBf.out
            have hNy := HY.out _ HBf.out
            have hRs := HBR.out _ HBf.out
            have HPa := Lib.hid (fun W (hW : Below wr2.heap.size wr2 W) => HP.out W (kTrans HBf.out hW))
            have HPb := Lib.hid (fun W (hW : Below wr2.heap.size wr2 W) => HP'.out W (kTrans HBf.out hW))
            go_upto_region 18 with fail
            clear x0 x1 x2 lx y0 y1 y2 ly
            refine regionW_of_HJ (fun W' => BdAt W' w.heap.size 0 wd hi (.slice (some ⟨b, 0, none⟩) n n) ∧ BdAt W' (w.heap.size + 1) 0 wd' hi' (.slice (some ⟨b', 0, none⟩) i i)) (by kernel_rfl) ⟨hNx, hNy⟩ (fun hHeld => ?_)
            have lX := hNx.lt
            have lY := hNy.lt
            clear hNx hNy
            refine wpAnyH_take (i := 0) (v := .agg #[.int .i8 wd, .int .i8 hi, .slice (some ⟨b, 0, none⟩) n n]) rfl (by kernel_rfl) (by kernel_rfl) (by kernel_rfl) (fun _ _ _ h => absurd h.1 (by simp)) (Or.inl ⟨by rfl, fun w7 hSw => ?_⟩) (by assumption) ?_
            · obtain ⟨hX_, hY_⟩ := hSw
              obtain ⟨x0, x1, x2⟩ := bd0 hX_
              obtain ⟨y0, y1, y2⟩ := bd0 hY_
              have lx_ := hX_.lt
              have ly_ := hY_.lt
              clear hX_ hY_
              go_simp
            try simp only [Act.put, List.setIfInBounds_toArray, List.set_cons_zero, List.set_cons_succ]
            refine wpAnyH_take (i := 1) (v := .pointer (some ⟨w.heap.size, 2, none⟩)) rfl (by kernel_rfl) (by kernel_rfl) (by kernel_rfl) (fun _ _ _ h => absurd h.1 (by simp)) (Or.inl ⟨by rfl, fun w7 hSw => ?_⟩) (by assumption) ?_
            · clear hSw
              go_simp
            try simp only [Act.put, List.setIfInBounds_toArray, List.set_cons_zero, List.set_cons_succ]
            refine wpAnyH_take (i := 2) (v := .slice (some ⟨b, 0, none⟩) n n) rfl (by kernel_rfl) (by kernel_rfl) (by kernel_rfl) (fun _ _ _ h => absurd h.1 (by simp)) (Or.inl ⟨by rfl, fun w7 hSw => ?_⟩) (by assumption) ?_
            · obtain ⟨hX_, hY_⟩ := hSw
              obtain ⟨x0, x1, x2⟩ := bd0 hX_
              obtain ⟨y0, y1, y2⟩ := bd0 hY_
              have lx_ := hX_.lt
              have ly_ := hY_.lt
              clear hX_ hY_
              go_simp
            try simp only [Act.put, List.setIfInBounds_toArray, List.set_cons_zero, List.set_cons_succ]
            refine wpAnyH_take (i := 3) (v := .pointer (some ⟨w.heap.size + 1, 2, none⟩)) rfl (by kernel_rfl) (by kernel_rfl) (by kernel_rfl) (fun _ _ _ h => absurd h.1 (by simp)) (Or.inl ⟨by rfl, fun w7 hSw => ?_⟩) (by assumption) ?_
            · clear hSw
              go_simp
            try simp only [Act.put, List.setIfInBounds_toArray, List.set_cons_zero, List.set_cons_succ]
            refine wpAnyH_take (i := 4) (v := .slice (some ⟨b', 0, none⟩) i i) rfl (by kernel_rfl) (by kernel_rfl) (by kernel_rfl) (fun _ _ _ h => absurd h.1 (by simp)) (Or.inl ⟨by rfl, fun w7 hSw => ?_⟩) (by assumption) ?_
            · obtain ⟨hX_, hY_⟩ := hSw
              obtain ⟨x0, x1, x2⟩ := bd0 hX_
              obtain ⟨y0, y1, y2⟩ := bd0 hY_
              have lx_ := hX_.lt
              have ly_ := hY_.lt
              clear hX_ hY_
              go_simp
            try simp only [Act.put, List.setIfInBounds_toArray, List.set_cons_zero, List.set_cons_succ]
            have HD := Lib.hid (show Below wr2.heap.size wr2 wr2.drew from Below.drew (Below.refl _ _))
            generalize wr2.drew = wd9 at HD hHeld ⊢
            obtain ⟨w9, hw9⟩ : ∃ w9, wd9.alloc (.cells #[.slice (some ⟨b, 0, none⟩) n n, .slice (some ⟨b', 0, none⟩) i i] 28) = w9 := ⟨_, rfl⟩
            have k9 : Below wd9.heap.size wd9 w9 := by rw [← hw9]; exact kAlloc (Below.refl _ _) _
            have b9 : w9.heap[wd9.heap.size]? = some (.cells #[.slice (some ⟨b, 0, none⟩) n n, .slice (some ⟨b', 0, none⟩) i i] 28 (0, 0)) := by rw [← hw9]; exact nNewJ _ _
            have HB9 := Lib.hid (kTrans HD.out k9)
            have Hw9 := Lib.hid hw9
            have S9 : BdAt w9 w.heap.size 0 wd hi (.slice (some ⟨b, 0, none⟩) n n) ∧ BdAt w9 (w.heap.size + 1) 0 wd' hi' (.slice (some ⟨b', 0, none⟩) i i) := ⟨hHeld.1.below k9 hHeld.1.lt, hHeld.2.below k9 hHeld.2.lt⟩
            clear hw9
            refine wpAnyH_ready (rs := [5]) (by kernel_rfl) (by simp) ?_
            refine AllReadyH.cons rfl (fun K hK => ?_) AllReadyH.nil
            go_simp
            rw [Hw9.out]
            refine hK.out _ _ S9 (fun hHeld => ?_)
            clear S9
            clear hK K
            have q0 : w9.cell? ⟨wd9.heap.size, 0, none⟩ = some (.slice (some ⟨b, 0, none⟩) n n) := cell_of_row _ _ 0 _ _ _ b9
            have q1 : w9.cell? ⟨wd9.heap.size, 1, none⟩ = some (.slice (some ⟨b', 0, none⟩) i i) := cell_of_row _ _ 1 _ _ _ b9
            have HCC := Lib.hid (concatPc_any wd9.heap.size ⟨b, 0, none⟩ ⟨b', 0, none⟩ n i n i (flatL l) (flatL l') w9 q0 q1 (blk_lt b9) (by rw [flatL_length, Hn.out]) (by rw [flatL_length, Hm.out])
              (fun W hW j u hu => (HPa.out W (kTrans HB9.out hW)).news j u hu) (fun W hW j u hu => (HPb.out W (kTrans HB9.out hW)).news j u hu) (flatL_one _) (flatL_one _) (by omega) (by omega))
            have hl9 := blk_lt b9
            clear q0 q1 b9 k9
            obtain ⟨g9, hg9⟩ : ∃ z, w9.heap.size = z := ⟨_, rfl⟩
            have hgl : wr2.heap.size ≤ g9 := by rw [← hg9]; exact HB9.out.size
            refine wpAnyH_ready (rs := [6]) (by kernel_rfl) (by simp) ?_
            refine AllReadyH.cons rfl (fun K hK => ?_) AllReadyH.nil
            go_simp
            go_wp2_with (go_at_call 62
                         refine (HCC.out).mono ?_
                         rintro e w10 ⟨u, rfl, hu, hb10⟩
                         have HU := Lib.hid hu
                         obtain ⟨ua, uc, hua⟩ := owns_slice hu
                         have HB10 := Lib.hid (kTrans HB9.out hb10)
                         have hg10 : g9 ≤ w10.heap.size := by have := hb10.size; omega
                         have S10 : BdAt w10 w.heap.size 0 wd hi (.slice (some ⟨b, 0, none⟩) n n) ∧ BdAt w10 (w.heap.size + 1) 0 wd' hi' (.slice (some ⟨b', 0, none⟩) i i) := ⟨hHeld.1.below hb10 hHeld.1.lt, hHeld.2.below hb10 hHeld.2.lt⟩
                         subst hua
                         clear hu hb10)
            refine hK.out _ _ S10 (fun hHeld => ?_)
            clear S10 HCC
            clear hK K
            rw [hg9] at HU
            have HWP := Lib.hid (withPieces_any wd hi (.slice (some ⟨b, 0, none⟩) n n) (.slice ua (n + i) uc) w10 ⟨_, _, _, rfl⟩)
            refine wpAnyH_ready (rs := [7]) (by kernel_rfl) (by simp) ?_
            refine AllReadyH.cons rfl (fun K hK => ?_) AllReadyH.nil
            go_simp
            go_wp2_with (go_at_call 52
                         refine (HWP.out).mono ?_
                         rintro e w11 ⟨rfl, hb11⟩
                         have HU11 := Lib.hid (owns_below HU.out hb11)
                         have HB11 := Lib.hid (kTrans HB10.out hb11)
                         have hg11 : g9 ≤ w11.heap.size := Nat.le_trans hg10 hb11.size
                         have S11 : BdAt w11 w.heap.size 0 wd hi (.slice (some ⟨b, 0, none⟩) n n) ∧ BdAt w11 (w.heap.size + 1) 0 wd' hi' (.slice (some ⟨b', 0, none⟩) i i) := ⟨hHeld.1.below hb11 hHeld.1.lt, hHeld.2.below hb11 hHeld.2.lt⟩
                         clear hb11)
            refine hK.out _ _ S11 (fun hHeld => ?_)
            clear S11 HWP HU HB10 hg10
            clear hK K
            have rs_ := blk_below hRs HB11.out
            have r0 : w11.cell? ⟨w.heap.size + 1 + 1, 0, none⟩ = some (.int .i8 0) := cell_of_row _ _ 0 _ _ _ rs_
            have r1 : w11.cell? ⟨w.heap.size + 1 + 1, 1, none⟩ = some (.int .i8 0) := cell_of_row _ _ 1 _ _ _ rs_
            have r2 : w11.cell? ⟨w.heap.size + 1 + 1, 2, none⟩ = some (.slice none 0 0) := cell_of_row _ _ 2 _ _ _ rs_
            have z0 : w11.frozen? ⟨w.heap.size + 1 + 1, 0, none⟩ = false := frozen_of_row _ _ 0 _ _ rs_
            have z1 : w11.frozen? ⟨w.heap.size + 1 + 1, 1, none⟩ = false := frozen_of_row _ _ 1 _ _ rs_
            have z2 : w11.frozen? ⟨w.heap.size + 1 + 1, 2, none⟩ = false := frozen_of_row _ _ 2 _ _ rs_
            have lr_ := blk_lt rs_
            have HR3 := Lib.hid (box3_set (x' := .int .i8 wd) (y' := .int .i8 hi) (z' := .slice ua (n + i) uc) rs_)
            have hkr : KeptOut (w.heap.size + 1 + 1) (w.heap.size + 1 + 1 + 1) w11 (((w11.setCell ⟨w.heap.size + 1 + 1, 0, none⟩ (.int .i8 wd)).setCell ⟨w.heap.size + 1 + 1, 1, none⟩ (.int .i8 hi)).setCell ⟨w.heap.size + 1 + 1, 2, none⟩ (.slice ua (n + i) uc)) :=
              (((KeptOut.of_below (Below.refl _ _)).set ⟨w.heap.size + 1 + 1, 0, none⟩ (Nat.le_refl _) (Nat.lt_succ_self _) _).set ⟨w.heap.size + 1 + 1, 1, none⟩ (Nat.le_refl _) (Nat.lt_succ_self _) _).set ⟨w.heap.size + 1 + 1, 2, none⟩ (Nat.le_refl _) (Nat.lt_succ_self _) _
            have S12 : BdAt (((w11.setCell ⟨w.heap.size + 1 + 1, 0, none⟩ (.int .i8 wd)).setCell ⟨w.heap.size + 1 + 1, 1, none⟩ (.int .i8 hi)).setCell ⟨w.heap.size + 1 + 1, 2, none⟩ (.slice ua (n + i) uc)) w.heap.size 0 wd hi (.slice (some ⟨b, 0, none⟩) n n) ∧ BdAt (((w11.setCell ⟨w.heap.size + 1 + 1, 0, none⟩ (.int .i8 wd)).setCell ⟨w.heap.size + 1 + 1, 1, none⟩ (.int .i8 hi)).setCell ⟨w.heap.size + 1 + 1, 2, none⟩ (.slice ua (n + i) uc)) (w.heap.size + 1) 0 wd' hi' (.slice (some ⟨b', 0, none⟩) i i) := ⟨hHeld.1.out hkr (.inl (by omega)), hHeld.2.out hkr (.inl (by omega))⟩
            have hBW0 : W0.heap.size ≤ wr2.heap.size := HBf.out.size
            have HSL := Lib.hid (((SlW.of_owns (l := l ++ l') (by rw [flatL_append]; exact HU11.out)).out hkr (.inr (by omega))).mono (show w.heap.size ≤ g9 by omega) hkr.size)
            have HBB := Lib.hid (kSet (kSet (kSet (kTrans HK0.out (kTrans HBf.out HB11.out)) (p := ⟨w.heap.size + 1 + 1, 0, none⟩) (show w.heap.size ≤ w.heap.size + 1 + 1 by omega) (.int .i8 wd)) (p := ⟨w.heap.size + 1 + 1, 1, none⟩) (show w.heap.size ≤ w.heap.size + 1 + 1 by omega) (.int .i8 hi)) (p := ⟨w.heap.size + 1 + 1, 2, none⟩) (show w.heap.size ≤ w.heap.size + 1 + 1 by omega) (.slice ua (n + i) uc))
            clear hkr rs_ hHeld
            refine wpAnyH_ready (rs := [8]) (by kernel_rfl) (by simp) ?_
            refine AllReadyH.cons rfl (fun K hK => ?_) AllReadyH.nil
            go_simp
            refine hK.out _ _ S12 (fun hHeld => ?_)
            clear S12
            clear hK K
            refine wpAnyH_ready (rs := [9]) (by kernel_rfl) (by simp) ?_
            refine AllReadyH.cons rfl (fun K hK => ?_) AllReadyH.nil
            go_simp
            refine hK.out _ _ hHeld (fun hHeld => ?_)
            clear hK K
            refine wpAnyH_done (by kernel_rfl) ?_ _
            refine ⟨rfl, ?_⟩
            clear hHeld r0 r1 r2 z0 z1 z2
            go_wp2
            refine bodyPost_ret (v := .tuple #[.agg #[.int .i8 wd, .int .i8 hi, .slice ua (n + i) uc], .int .i64 0]) (results_cell_tmp rfl _ _ (w.heap.size + 1 + 1) 30 #[.int .i8 wd, .int .i8 hi, .slice ua (n + i) uc] (0, 0) _ _ rfl rfl HR3.out Try.underlying30 rfl (by kernel_rfl)) rfl ?_
            exact ⟨_, rfl, HSL.out, HBB.out⟩
          · obtain ⟨rfl, rfl, rfl, rfl⟩ := four_inj (show ((0, 0, [], 3) : Int × Int × List Pc × Int) = (Wr, Hr, lr, C) by have h := HQ3.out; rw [Hn.out, Hm.out, if_neg h200] at h; exact h)
            have e1 : (200 : Int) < (n : Int) + i := by omega
            clear HQ3 h200
            have rs_ := HBR.out _ HBf.out
            have HT := Lib.hid (kTrans HK0.out HBf.out)
            clear HBR
            go_wp2_with (refine wpList_store_row rfl 30 _ _ rfl (w.heap.size + 1 + 1) #[.int .i8 0, .int .i8 0, .slice none 0 0] rfl rfl 30 _ rs_ (by kernel_rfl) (by kernel_rfl) (by kernel_rfl) ?_)
            refine bodyPost_ret (v := .tuple #[.agg #[.int .i8 0, .int .i8 0, .slice none 0 0], .int .i64 3]) (results_cell_tmp rfl _ _ (w.heap.size + 1 + 1) 30 #[.int .i8 0, .int .i8 0, .slice none 0 0] (0, 0) _ _ rfl rfl (setRow_heap _ _ _ _ _ _ rs_) Try.underlying30 rfl (by kernel_rfl)) rfl ?_
            exact ⟨_, rfl, .empty _ _ rfl, kRowW HT.out (by omega) _⟩
end Go.Proofs.Ytlmnoopoohdbkaa
