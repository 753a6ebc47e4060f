/- HazardsIn: the model. -/
import Derived.Test.YtaapdjidiahmpaaGreatDoorHz
import Derived.Test.YtaapdjidiahmpaaGreatDoorTs
namespace Go.Proofs.YtaapdjidiahmpaaGreatDoor
open Go.ChangeShapes Go.WideShapes Go.ChangeAt Go.RowKit Go.Joins Go.Deep
set_option linter.unusedVariables false
set_option linter.unusedSimpArgs false

theorem l03Late_any (n : Int) (w : World) (b : Bool) (hb : b = decide (0 ≤ n ∧ n ≤ 100)) : Calls Tryz.prog 77 #[.int .i64 n] w fun e w' => e = .returned (.bool b) ∧ w = w' := by
  have Hb := Lib.hid hb
  clear hb
  go_enter Tryz.func77, Tryz.ntmps77
  go_wp2_with (refine (l00In_any _ _ _ _ b Hb.out).mono ?_; rintro e w' ⟨rfl, rfl⟩)
  go_ret
  exact ⟨rfl, rfl⟩
set_option maxRecDepth 100000 in
set_option maxHeartbeats 16000000 in
theorem specHazardsIn_any (b k q m n r : Nat) (wd hi row by_ : Int) (l : List Pc) (p : List Po) (c : List Cl) (w : World) (hp : PcsAt w b 0 l) (hg : PosAt w k 0 p) (hj : ClsAt w q 0 c) (zb : b < w.heap.size) (zk : k < w.heap.size) (zq : q < w.heap.size)
    (hm : l.length = m) (hn : p.length = n) (hr : c.length = r) (h8 : All8 l) (hw : PosWf p) (bw : i8 wd) (bh : i8 hi) (wr : (Lit.int .i64 row).wf = true) (wb : (Lit.int .i64 by_).wf = true) (m0 : m ≤ 1048576) (m1 : n ≤ 1048576) (m2 : r ≤ 1048576) (M O : Bool) (hM : M = machOk wd hi l p c) (hO : O = hazOk n row by_) (O0 : Int) (f : Nat → Int) (T : List Int) (hT : M = true → O = true → HazAt wd hi row l p c n by_ O0 f ∧ hazL O0 f n = T) (L : List Int) (C : Int) (hQ : rowQ M O T = (L, C)) :
    Calls Tryz.prog 40 #[.agg #[.int .i8 wd, .int .i8 hi, .slice (some ⟨b, 0, none⟩) m m, .slice (some ⟨k, 0, none⟩) n n, .slice (some ⟨q, 0, none⟩) r r], .int .i64 row, .int .i64 by_] w (InPost2 L C w) := by
  obtain ⟨i0, hi0, hz0, hzz1, hzz2⟩ := info_parts info_i64n
  have Hi := Lib.hid hi0
  have Hz0 := Lib.hid hz0
  have Hz1 := Lib.hid hzz1
  have Hz2 := Lib.hid hzz2
  obtain ⟨W, hW⟩ : ∃ W, w.alloc (.cells #[.int .i8 wd, .int .i8 hi, .slice (some ⟨b, 0, none⟩) m m, .slice (some ⟨k, 0, none⟩) n n, .slice (some ⟨q, 0, none⟩) r r] 40) = W := ⟨_, rfl⟩
  have kW : Below w.heap.size w W := by rw [← hW]; exact kAlloc (Below.refl _ _) _
  have bm : McAt W w.heap.size wd hi (.slice (some ⟨b, 0, none⟩) m m) (.slice (some ⟨k, 0, none⟩) n n) (.slice (some ⟨q, 0, none⟩) r r) := by rw [← hW]; exact McAt.box _ _ _ _ _ _ _
  have lD := bm.lt
  have HM0 := Lib.hid (fun W2 (h2 : Below W.heap.size W W2) => bm.below h2 lD)
  have HV := Lib.hid (l03Ok_any w.heap.size b k q m n r wd hi l p c W hm hn hr bm (hp.below kW zb) (hg.below kW zk) (hj.below kW zq) (Nat.lt_of_lt_of_le zb kW.size) (Nat.lt_of_lt_of_le zk kW.size) (Nat.lt_of_lt_of_le zq kW.size) h8 hw bw bh m0 m1 m2 M hM)
  have HP := Lib.hid (fun W2 (h : Below w.heap.size w W2) => hp.below h zb)
  have HG := Lib.hid (fun W2 (h : Below w.heap.size w W2) => hg.below h zk)
  have HC := Lib.hid (fun W2 (h : Below w.heap.size w W2) => hj.below h zq)
  have HT0 := Lib.hid hT
  have HQ := Lib.hid hQ
  have HM := Lib.hid hM
  have HO := Lib.hid hO
  have Hn := Lib.hid hn
  have Hm := Lib.hid hm
  have Hr := Lib.hid hr
  have HW := Lib.hid hW
  obtain ⟨x0, x1, x2, x3, x4⟩ := bm
  clear hp hg hj h8 hw hi0 hz0 hzz1 hzz2 hT hQ hM hO hn hm hr hW
  cases M with
  | false =>
    obtain ⟨rfl, rfl⟩ := pair_LI (show (([] : List Int), (1 : Int)) = (L, C) from by have h := HQ.out; cases O <;> exact h)
    clear HP HG HC HT0 HQ HM HO
    go_enter Tryz.func40, Tryz.ntmps40
    go_upto_region 1 with fail
    try rw [HW.out]
    go_wp2_with fail
    refine HV.out.mono ?_
    rintro e w1 ⟨rfl, hb1⟩
    have T1 := kTrans kW hb1
    clear HV hb1 x0 x1 x2 x3 x4
    go_wp2
    exact bodyPost_ret (v := .tuple #[.slice (some ⟨w1.heap.size, 0, none⟩) 0 0, .int .i64 1]) (by simp [results, Tryz.results40, go_sem]) rfl ⟨_, rfl, .empty _ _ rfl, by repeat (first | with_reducible exact Below.refl _ _ | (with_reducible refine kSet ?_ ?hB _; case hB => (simp; try omega)) | with_reducible refine kAlloc ?_ _ | with_reducible refine Below.drew ?_ | with_reducible refine kDrewN ?_ _ | with_reducible refine kTrans ?_ (by assumption))⟩
  | true =>
    have hmp := machOk_parts HM.out.symm
    rw [Hm.out, Hn.out, Hr.out] at hmp
    have h6 := hmp.2.1.2.1.2
    have hr8 := hmp.2.1.2.2.2
    have hps := pow_small h6
    have hps1 : (2 : Int) ^ n - 1 + 1 = 2 ^ n := by omega
    by_cases hrow : 0 ≤ row ∧ row < 2 ^ n
    · by_cases hby : 0 ≤ by_ ∧ by_ ≤ 100
      · obtain rfl : O = true := by rw [HO.out]; unfold hazOk; rw [decide_eq_true hrow, decide_eq_true hby]; rfl
        obtain ⟨rfl, rfl⟩ := pair_LI (show (T, (0 : Int)) = (L, C) from HQ.out)
        obtain ⟨hHz, hT⟩ := HT0.out rfl rfl
        have HHz := Lib.hid hHz
        have HTT := Lib.hid hT
        have hr64 : 0 ≤ row ∧ row ≤ 64 := ⟨hrow.1, by omega⟩
        clear HT0 HQ HM HO hT hHz hmp
        obtain ⟨pn, hpn⟩ : ∃ pn : Int, (2 : Int) ^ n = pn := ⟨_, rfl⟩
        have HR := Lib.hid (fun W2 (h2 : Below W.heap.size W W2) => by have h := l03Rows_any w.heap.size n wd hi _ _ _ _ W2 (HM0.out W2 h2) h6; rw [hpn] at h; exact h)
        rw [hpn] at hrow hps hps1
        clear hpn
        go_enter Tryz.func40, Tryz.ntmps40
        go_upto_region 1 with fail
        try rw [HW.out]
        go_wp2_with fail
        refine HV.out.mono ?_
        rintro e w1 ⟨rfl, hb1⟩
        clear HV HW x0 x1 x2 x3 x4
        obtain ⟨x0, x1, x2, x3, x4⟩ := HM0.out w1 hb1
        have l1 := Nat.lt_of_lt_of_le lD hb1.size
        go_wp2_with fail
        refine (HR.out _ hb1).mono ?_
        rintro e w2 ⟨rfl, rfl⟩
        go_wp2_with fail
        refine (l00In_any row 0 (pn - 1) _ true (by symm; simp; omega)).mono ?_
        rintro e w2 ⟨rfl, rfl⟩
        go_wp2_with fail
        refine (l03Late_any by_ _ true (by symm; simpa using hby)).mono ?_
        rintro e w2 ⟨rfl, rfl⟩
        go_wp2_with (refine wpList_make_full _ rfl _ _ 30 rfl w1.heap.size 2 i0 _ 1 Tryz.underlying30 Hi.out Hz0.out Hz1.out _ _ _ _ n rfl rfl rfl rfl ?c1 ?c2 ?c3 ?_)
        case c1 => rw [Hz2.out]; omega
        case c2 => unfold maxLen; omega
        case c3 => exact Nat.le_refl _
        intro w2 hown hgr
        obtain ⟨hz, hzl, _⟩ := zeros_made hown
        have hB2 : Below w1.heap.size w1 w2 := (Below.refl _ _).grown hgr (Nat.le_refl _) (by intro k hk; cases hk)
        have k2 := kTrans hb1 hB2
        have T2 := kTrans kW k2
        obtain ⟨lr0, hrun0, hO0⟩ := HHz.out.plain
        have HO0 := Lib.hid (l03Outputs_any w.heap.size b k q w1.heap.size m n r wd hi row l p c (zeros n) w2 (HM0.out _ k2) (HP.out _ T2) (HG.out _ T2) (HC.out _ T2) hz (Nat.lt_of_lt_of_le zb T2.size) (Nat.lt_of_lt_of_le zk T2.size) (Nat.lt_of_lt_of_le zq T2.size) hzl Hm.out Hn.out Hr.out (zeros_length n) h6 hr8 hr64 (zeros_late n) lr0 hrun0 _ rfl O0 hO0)
        clear hown hgr hz hrun0 hO0 x0 x1 x2 x3 x4
        obtain ⟨x0, x1, x2, x3, x4⟩ := HM0.out w2 k2
        go_wp2_with fail
        refine HO0.out.mono ?_
        rintro e w4 ⟨rfl, hb4⟩
        have k4 := kTrans k2 hb4
        clear x0 x1 x2 x3 x4 HO0
        obtain ⟨x0, x1, x2, x3, x4⟩ := HM0.out w4 k4
        have l4 := Nat.lt_of_lt_of_le lD k4.size
        have own0 : Hid ((w4.alloc (.cells #[] 2)).ownsRow w4.heap.size 2 1 (.slice (some ⟨w4.heap.size, 0, none⟩) 0 0) (hazL O0 f 0).length (flatIn (hazL O0 f 0))) := Lib.hid (owns_new (Nat.le_refl _) (heap_alloc_new _ _))
        have hk0 : Below w4.heap.size w4 (w4.alloc (.cells #[] 2)) := by repeat (first | with_reducible exact Below.refl _ _ | (with_reducible refine kSet ?_ ?hB _; case hB => (simp; try omega)) | with_reducible refine kAlloc ?_ _ | with_reducible refine Below.drew ?_ | with_reducible refine kDrewN ?_ _ | with_reducible refine kTrans ?_ (by assumption))
        clear hb4 hB2 hb1 k2 T2 l1 hzl
        go_wp2
        clear x0 x1 x2 x3 x4
        go_loopw [9, 10, 11] (fun out i _ wr => ∃ j : Nat, j ≤ n ∧ i = .int .i64 j ∧ Hid (wr.ownsRow w4.heap.size 2 1 out (hazL O0 f j).length (flatIn (hazL O0 f j))) ∧ Below w4.heap.size w4 wr) (fun _ i _ _ => n - (intOf i).toNat)
        case atStart => exact ⟨0, by omega, rfl, own0, hk0⟩
        case round =>
          clear own0 hk0
          obtain ⟨j, hj, rfl, hown, hbr⟩ := hrel
          obtain ⟨va, vc, rfl⟩ := owns_slice hown.out
          have kWr := kTrans k4 hbr
          obtain ⟨x0, x1, x2, x3, x4⟩ := HM0.out wr kWr
          have lDr := Nat.lt_of_lt_of_le lD kWr.size
          have hHl := hazL_len O0 f j
          by_cases hlt : j < n
          · obtain ⟨lr, hrun, hO⟩ := HHz.out.one j hlt
            go_wp2_with (refine wpList_make_full _ rfl _ _ 30 rfl wr.heap.size 2 i0 _ 1 Tryz.underlying30 Hi.out Hz0.out Hz1.out _ _ _ _ n rfl rfl rfl rfl ?c1 ?c2 ?c3 ?_)
            case c1 => rw [Hz2.out]; omega
            case c2 => unfold maxLen; omega
            case c3 => exact Nat.le_refl _
            intro w5 hown5 hgr5
            obtain ⟨hz5, hzl5, hzf5⟩ := zeros_made hown5
            have hB5 : Below wr.heap.size wr w5 := (Below.refl _ _).grown hgr5 (Nat.le_refl _) (by intro k hk; cases hk)
            have hz5c := hz5 j (by rw [zeros_length]; exact hlt)
            rw [zeros_get, Nat.zero_add] at hz5c
            have hzfj := hzf5 j
            have hS5 := hz5.set0 (i := j) (x := by_) (by rw [zeros_length]; exact hlt)
            have kS : Below wr.heap.size wr (w5.setCell ⟨wr.heap.size, j, none⟩ (.int .i64 by_)) := kSet hB5 (Nat.le_refl _) _
            obtain ⟨W6, hW6⟩ : ∃ W6, w5.setCell ⟨wr.heap.size, j, none⟩ (.int .i64 by_) = W6 := ⟨_, rfl⟩
            rw [hW6] at hS5 kS
            have hzl6 : wr.heap.size < W6.heap.size := by rw [← hW6]; simpa [World.setCell] using hzl5
            have k6 := kTrans kWr kS
            have T6' := kTrans kW k6
            have HOj := Lib.hid (l03Outputs_any w.heap.size b k q wr.heap.size m n r wd hi row l p c (onlyAt n j by_) W6 (HM0.out _ k6) (HP.out _ T6') (HG.out _ T6') (HC.out _ T6') hS5 (Nat.lt_of_lt_of_le zb T6'.size) (Nat.lt_of_lt_of_le zk T6'.size) (Nat.lt_of_lt_of_le zq T6'.size) hzl6 Hm.out Hn.out Hr.out (onlyAt_length n j by_) h6 hr8 hr64 (onlyAt_late hby) lr hrun _ rfl (f j) hO)
            have HW6 := Lib.hid hW6
            clear hown5 hgr5 hz5 hzf5 hS5 hrun hO hW6 x0 x1 x2 x3 x4 hB5
            obtain ⟨x0, x1, x2, x3, x4⟩ := HM0.out W6 k6
            go_upto_region 12 with fail
            try rw [HW6.out]
            clear hz5c hzfj hzl5 HW6
            go_wp2_with fail
            refine HOj.out.mono ?_
            rintro e v2 ⟨rfl, hb7⟩
            have kv2 := kTrans kS hb7
            have T2 := kTrans hbr kv2
            have hown2 := Lib.hid (owns_below hown.out kv2)
            have Hblk := Lib.hid (owns_block hown2.out)
            clear HOj hb7 x0 x1 x2 x3 x4 hown
            by_cases hs : f j = O0
            · have hs2 : (f j == O0) = true := by simpa using hs
              have hR : Hid (v2.ownsRow w4.heap.size 2 1 (.slice va (hazL O0 f j).length vc) (hazL O0 f (j + 1)).length (flatIn (hazL O0 f (j + 1)))) := Lib.hid (by have h := hown2.out; simp only [hazL, if_pos hs, List.append_nil]; exact h)
              go_wp2
              exact ⟨⟨j + 1, by omega, by go_num, hR, T2⟩, by simp [intOf]; omega⟩
            · have hs2 : (f j == O0) = false := by simpa using hs
              have hRl : hazL O0 f (j + 1) = hazL O0 f j ++ [(j : Int)] := by simp only [hazL, if_neg hs]
              obtain ⟨A, hA⟩ : ∃ A, hazL O0 f j = A := ⟨_, rfl⟩
              rw [hA] at hown2 hRl hHl Hblk ⊢
              have HRl := Lib.hid hRl
              clear hRl hA
              go_wp2_with (at_builtin; refine wpList_append_own _ rfl _ _ 30 rfl w4.heap.size 2 i0 _ 1 8 Tryz.underlying30 Hi.out Hz0.out Hz1.out Hz2.out rfl (by decide) (.slice va A.length vc) A.length (flatIn A) rfl (owns_below hown2.out (kAlloc (Below.refl _ _) _)) ⟨v2.heap.size, 0, none⟩ 1 1 [.int .i64 j] rfl rfl (World.news_of_block (cs := #[.int .i64 j]) (heap_alloc_new _ _)) (by simp [Value.oneCell']) ?qc4 ?qc5 ?qc6 ?_)
              case qc4 => unfold maxLen; omega
              case qc5 => omega
              case qc6 => have := T2.size; simp; omega
              intro v6 w6 hown6 hgr hnil
              have Hown6 := Lib.hid (show w6.ownsRow w4.heap.size 2 1 v6 (hazL O0 f (j + 1)).length (flatIn (hazL O0 f (j + 1))) by rw [HRl.out, flatIn_end, List.length_append]; exact hown6)
              have T6 : Below w4.heap.size w4 w6 := grown_below (v := .slice va A.length vc) (kAlloc T2 _) hgr (by intro q hq; exact (Hblk.out q hq).1)
              clear hown6 hgr hnil
              go_wp2
              exact ⟨⟨j + 1, by omega, by go_num, Hown6, T6⟩, by simp [intOf]; omega⟩
          · obtain rfl : j = n := by omega
            have T4 := kTrans (kTrans kW k4) hbr
            have HW2 := Lib.hid ((SlWIn.of_owns hown.out).mono (kTrans kW k4).size (Nat.le_refl _))
            rw [HTT.out] at HW2 ⊢
            clear hown
            go_wp2
            exact bodyPost_ret (v := .tuple #[.slice va T.length vc, .int .i64 0]) (by simp [results, Tryz.results40, go_sem]) rfl ⟨_, rfl, HW2.out, T4⟩
      · obtain rfl : O = false := by rw [HO.out]; unfold hazOk; rw [decide_eq_false hby]; simp
        obtain ⟨rfl, rfl⟩ := pair_LI (show (([] : List Int), (2 : Int)) = (L, C) from HQ.out)
        obtain ⟨pn, hpn⟩ : ∃ pn : Int, (2 : Int) ^ n = pn := ⟨_, rfl⟩
        have HR := Lib.hid (fun W2 (h2 : Below W.heap.size W W2) => by have h := l03Rows_any w.heap.size n wd hi _ _ _ _ W2 (HM0.out W2 h2) h6; rw [hpn] at h; exact h)
        rw [hpn] at hrow hps hps1
        clear HP HG HC HT0 HQ HM HO hmp hpn
        go_enter Tryz.func40, Tryz.ntmps40
        go_upto_region 1 with fail
        try rw [HW.out]
        go_wp2_with fail
        refine HV.out.mono ?_
        rintro e w1 ⟨rfl, hb1⟩
        have T1 := kTrans kW hb1
        clear HV HW x0 x1 x2 x3 x4
        go_wp2_with fail
        refine (HR.out _ hb1).mono ?_
        rintro e w2 ⟨rfl, rfl⟩
        go_wp2_with fail
        refine (l00In_any row 0 (pn - 1) _ true (by symm; simp; omega)).mono ?_
        rintro e w2 ⟨rfl, rfl⟩
        go_wp2_with fail
        refine (l03Late_any by_ _ false (by symm; simpa using hby)).mono ?_
        rintro e w2 ⟨rfl, rfl⟩
        clear hb1
        go_wp2
        exact bodyPost_ret (v := .tuple #[.slice (some ⟨w1.heap.size, 0, none⟩) 0 0, .int .i64 2]) (by simp [results, Tryz.results40, go_sem]) rfl ⟨_, rfl, .empty _ _ rfl, by repeat (first | with_reducible exact Below.refl _ _ | (with_reducible refine kSet ?_ ?hB _; case hB => (simp; try omega)) | with_reducible refine kAlloc ?_ _ | with_reducible refine Below.drew ?_ | with_reducible refine kDrewN ?_ _ | with_reducible refine kTrans ?_ (by assumption))⟩
    · obtain rfl : O = false := by rw [HO.out]; unfold hazOk; rw [decide_eq_false hrow]; simp
      obtain ⟨rfl, rfl⟩ := pair_LI (show (([] : List Int), (2 : Int)) = (L, C) from HQ.out)
      obtain ⟨pn, hpn⟩ : ∃ pn : Int, (2 : Int) ^ n = pn := ⟨_, rfl⟩
      have HR := Lib.hid (fun W2 (h2 : Below W.heap.size W W2) => by have h := l03Rows_any w.heap.size n wd hi _ _ _ _ W2 (HM0.out W2 h2) h6; rw [hpn] at h; exact h)
      rw [hpn] at hrow hps hps1
      clear HP HG HC HT0 HQ HM HO hmp hpn
      go_enter Tryz.func40, Tryz.ntmps40
      go_upto_region 1 with fail
      try rw [HW.out]
      go_wp2_with fail
      refine HV.out.mono ?_
      rintro e w1 ⟨rfl, hb1⟩
      have T1 := kTrans kW hb1
      clear HV HW x0 x1 x2 x3 x4
      go_wp2_with fail
      refine (HR.out _ hb1).mono ?_
      rintro e w2 ⟨rfl, rfl⟩
      go_wp2_with fail
      refine (l00In_any row 0 (pn - 1) _ false (by symm; simp; omega)).mono ?_
      rintro e w2 ⟨rfl, rfl⟩
      clear hb1
      go_wp2
      exact bodyPost_ret (v := .tuple #[.slice (some ⟨w1.heap.size, 0, none⟩) 0 0, .int .i64 2]) (by simp [results, Tryz.results40, go_sem]) rfl ⟨_, rfl, .empty _ _ rfl, by repeat (first | with_reducible exact Below.refl _ _ | (with_reducible refine kSet ?_ ?hB _; case hB => (simp; try omega)) | with_reducible refine kAlloc ?_ _ | with_reducible refine Below.drew ?_ | with_reducible refine kDrewN ?_ _ | with_reducible refine kTrans ?_ (by assumption))⟩
end Go.Proofs.YtaapdjidiahmpaaGreatDoor
