/- CheckMerge, the model. -/
import Derived.Test.YtlbnhdnmcnfgdaaCm0
namespace Go.Proofs.Ytlbnhdnmcnfgdaa
open Go.ChangeShapes Go.WideShapes Go.ChangeAt Go.RowKit Go.Joins Go.Deep
set_option linter.unusedVariables false
set_option linter.unusedSimpArgs false

set_option maxRecDepth 100000 in
set_option maxHeartbeats 16000000 in
theorem specCheckMerge_any (b k b' k' qb : Nat) (ni nj : Int) (l l' : List Nd) (p p' q : List Int) (w : World) (h : NK w b k l p) (h' : NK w b' k' l' p') (hq : InsAt w qb 0 q) (zq : qb < w.heap.size) (h8 : NdsWf l) (h9 : ShsWf p) (h8' : NdsWf l') (h9' : ShsWf p') (bw : i8 ni) (bw' : i8 nj) (m0 : l.length ≤ 1048576) (m1 : p.length ≤ 1048576) (m0' : l'.length ≤ 1048576) (m1' : p'.length ≤ 1048576) (R1 R2 : Bool) (hR1 : R1 = netOk ni l p) (hR2 : R2 = netOk nj l' p') (B : Bool) (C : Int) (hQ : mergeQ R1 R2 ni nj l l' p p' q = (B, C)) :
    Calls Try.prog 32 #[.agg #[.int .i8 ni, .slice (some ⟨b, 0, none⟩) l.length l.length, .slice (some ⟨k, 0, none⟩) p.length p.length], .agg #[.int .i8 nj, .slice (some ⟨b', 0, none⟩) l'.length l'.length, .slice (some ⟨k', 0, none⟩) p'.length p'.length], .slice (some ⟨qb, 0, none⟩) q.length q.length] w fun e w' => e = .returned (.tuple #[.bool B, .int .i64 C]) ∧ Below w.heap.size w w' := by
  obtain ⟨W, hW⟩ : ∃ W, (w.alloc (.cells #[.int .i8 ni, .slice (some ⟨b, 0, none⟩) l.length l.length, .slice (some ⟨k, 0, none⟩) p.length p.length] 31)).alloc (.cells #[.int .i8 nj, .slice (some ⟨b', 0, none⟩) l'.length l'.length, .slice (some ⟨k', 0, none⟩) p'.length p'.length] 31) = W := ⟨_, rfl⟩
  have kW : Below w.heap.size w W := by rw [← hW]; exact kAlloc (kAlloc (Below.refl _ _) _) _
  have gA : NwAt W w.heap.size ni (.slice (some ⟨b, 0, none⟩) l.length l.length) (.slice (some ⟨k, 0, none⟩) p.length p.length) := by rw [← hW]; exact (NwAt.box w ni _ _ 31).below (kAlloc (Below.refl _ _) _) (by simp)
  have gB : NwAt W (w.heap.size + 1) nj (.slice (some ⟨b', 0, none⟩) l'.length l'.length) (.slice (some ⟨k', 0, none⟩) p'.length p'.length) := by
    rw [← hW]
    have h := NwAt.box (w.alloc (.cells #[.int .i8 ni, .slice (some ⟨b, 0, none⟩) l.length l.length, .slice (some ⟨k, 0, none⟩) p.length p.length] 31)) nj (.slice (some ⟨b', 0, none⟩) l'.length l'.length) (.slice (some ⟨k', 0, none⟩) p'.length p'.length) 31
    simpa only [World.size_alloc] using h
  have la := gA.lt
  have lb := gB.lt
  have kW0 := Lib.hid kW
  have GA0 := Lib.hid (fun W2 (h2 : Below W.heap.size W W2) => gA.below h2 la)
  have GB0 := Lib.hid (fun W2 (h2 : Below W.heap.size W W2) => gB.below h2 lb)
  obtain ⟨m, hm⟩ : ∃ m, l.length = m := ⟨_, rfl⟩
  obtain ⟨m', hm'⟩ : ∃ m', l'.length = m' := ⟨_, rfl⟩
  obtain ⟨r, hr⟩ : ∃ r, p.length = r := ⟨_, rfl⟩
  obtain ⟨r', hr'⟩ : ∃ r', p'.length = r' := ⟨_, rfl⟩
  obtain ⟨nq, hnq⟩ : ∃ nq, q.length = nq := ⟨_, rfl⟩
  rw [hm, hr] at hW gA
  rw [hm', hr'] at hW gB
  rw [hm, hr, hm', hr', hnq]
  have Hm := Lib.hid hm
  have Hm' := Lib.hid hm'
  have Hr := Lib.hid hr
  have Hr' := Lib.hid hr'
  have Hnq := Lib.hid hnq
  clear hm hm' hr hr' hnq
  have GA := Lib.hid (fun W2 (h2 : Below W.heap.size W W2) => gA.below h2 la)
  have GB := Lib.hid (fun W2 (h2 : Below W.heap.size W W2) => gB.below h2 lb)
  have HA := Lib.hid (fun W2 (h2 : Below W.heap.size W W2) => h.below (kTrans kW h2))
  have HB := Lib.hid (fun W2 (h2 : Below W.heap.size W W2) => h'.below (kTrans kW h2))
  have HQ := Lib.hid (fun W2 (h2 : Below W.heap.size W W2) => hq.below (kTrans kW h2) zq)
  have zqW : qb < W.heap.size := Nat.lt_of_lt_of_le zq kW.size
  have HW := Lib.hid hW
  have HV1 := Lib.hid (fun W2 (h2 : Below W.heap.size W W2) => l04Ok_any w.heap.size b k ni l p W2 (GA0.out W2 h2) (HA.out W2 h2) h8 h9 bw m0 m1 R1 hR1)
  have HV2 := Lib.hid (fun W2 (h2 : Below W.heap.size W W2) => l04Ok_any (w.heap.size + 1) b' k' nj l' p' W2 (GB0.out W2 h2) (HB.out W2 h2) h8' h9' bw' m0' m1' R2 hR2)
  obtain ⟨x0, x1, x2⟩ := gA
  obtain ⟨y0, y1, y2⟩ := gB
  clear hW h h' hq
  cases R1 with
  | false =>
    obtain ⟨rfl, rfl⟩ := mergeQ_no1 hQ
    clear hQ hR1 hR2
    go_enter Try.func32, Try.ntmps32
    go_upto_region 1 with fail
    try rw [HW.out]
    go_wp2_with fail
    refine (HV1.out _ (Below.refl _ _)).mono ?_
    rintro e w1 ⟨rfl, hd1⟩
    have hb1 : Below W.heap.size W w1 := hd1
    have T1 := kTrans kW hb1
    clear x0 x1 x2 y0 y1 y2 hd1
    obtain ⟨x0, x1, x2⟩ := GA.out w1 hb1
    obtain ⟨y0, y1, y2⟩ := GB.out w1 hb1
    go_wp2
    exact bodyPost_ret (v := .tuple #[.bool false, .int .i64 1]) (by simp [results, Try.results32, go_sem]) rfl ⟨rfl, T1⟩
  | true =>
    cases R2 with
    | false =>
      obtain ⟨rfl, rfl⟩ := mergeQ_no2 hQ
      clear hQ hR1 hR2
      go_enter Try.func32, Try.ntmps32
      go_upto_region 1 with fail
      try rw [HW.out]
      go_wp2_with fail
      refine (HV1.out _ (Below.refl _ _)).mono ?_
      rintro e w1 ⟨rfl, hd1⟩
      have hb1 : Below W.heap.size W w1 := hd1
      have T1 := kTrans kW hb1
      clear x0 x1 x2 y0 y1 y2 hd1
      obtain ⟨x0, x1, x2⟩ := GA.out w1 hb1
      obtain ⟨y0, y1, y2⟩ := GB.out w1 hb1
      go_wp2_with fail
      refine (HV2.out _ hb1).mono ?_
      rintro e w2 ⟨rfl, hd2⟩
      have hb2 := kTrans hb1 hd2
      have T2 := kTrans kW hb2
      clear x0 x1 x2 y0 y1 y2 T1 hb1 hd2
      obtain ⟨x0, x1, x2⟩ := GA.out w2 hb2
      obtain ⟨y0, y1, y2⟩ := GB.out w2 hb2
      go_wp2
      exact bodyPost_ret (v := .tuple #[.bool false, .int .i64 1]) (by simp [results, Try.results32, go_sem]) rfl ⟨rfl, T2⟩
    | true =>
      have hp1 := netOk_parts hR1.symm
      have hp2 := netOk_parts hR2.symm
      obtain ⟨n, rfl⟩ : ∃ n : Nat, ni = n := ⟨ni.toNat, by omega⟩
      obtain ⟨n', rfl⟩ : ∃ n' : Nat, nj = n' := ⟨nj.toNat, by omega⟩
      obtain ⟨hB, rfl⟩ := mergeQ_yes hQ
      have HTa := Lib.hid (fun W2 (h2 : Below W.heap.size W W2) => l04Tables_any n w.heap.size b k l p W2 (GA0.out W2 h2) (HA.out W2 h2) hR1.symm)
      have HTb := Lib.hid (fun W2 (h2 : Below W.heap.size W W2) => l04Tables_any n' (w.heap.size + 1) b' k' l' p' W2 (GB0.out W2 h2) (HB.out W2 h2) hR2.symm)
      clear hQ hR1 hR2
      rw [Hr.out, Hr'.out, Hnq.out, Hm.out] at hB
      by_cases hlq : nq = m
      · subst hlq
        by_cases hnn : n = n'
        · subst hnn
          by_cases hpp : r = r'
          · subst hpp
            rw [decide_eq_true (rfl : (n : Int) = n), decide_eq_true (rfl : (r : Int) = r), decide_eq_true (rfl : nq = nq)] at hB
            simp only [Bool.true_and] at hB
            have hml := Hm.out
            have hnq := Hnq.out
            have hTl : (tabsL n l []).length = l.length := by rw [tabsL_length]; simp
            have hTl' : (tabsL n l' []).length = l'.length := by rw [tabsL_length]; simp
            obtain ⟨T, hT⟩ : ∃ T, tabsL n l [] = T := ⟨_, rfl⟩
            obtain ⟨T', hT'⟩ : ∃ T', tabsL n l' [] = T' := ⟨_, rfl⟩
            rw [hT] at HTa hTl hB
            rw [hT'] at HTb hTl' hB
            obtain ⟨t, ht⟩ : ∃ t, T'.length = t := ⟨_, rfl⟩
            obtain ⟨FT, hFT⟩ : ∃ FT, haveT T' q T = FT := ⟨_, rfl⟩
            obtain ⟨FO, hFO⟩ : ∃ FO, haveO q p p' = FO := ⟨_, rfl⟩
            have Hpos := Lib.hid (show 0 < T.length ∧ 0 < T'.length by omega)
            have HTq := Lib.hid (show T.length = nq by omega)
            have Ht := Lib.hid ht
            have ht80 : t ≤ 80 := by omega
            have ht1 : 1 ≤ t := by omega
            have nq80 : nq ≤ 80 := by omega
            have r8 : r ≤ 8 := by have := Hr.out; omega
            have HR := Lib.hid (outsOkN_all hp1.2.2.2.2)
            have HR' := Lib.hid (outsOkN_all hp2.2.2.2.2)
            have Hl80 := Lib.hid (show l'.length ≤ 80 by omega)
            have Hlq := Hm
            have hwt : IntKind.i64.wrap ((t : Int) - 1) = t - 1 := IntWalk.i64_in _ (by omega)
            have hwt' : wrap64 ((t : Int) - 1) = t - 1 := by have h := hwt; rw [IntKind.wrap_i64] at h; unfold wrap64; exact h
            have HF0 : Hid (haveT T' (q.drop 0) (T.drop 0) = FT) := Lib.hid hFT
            have HO0 : Hid (haveO q (p.drop 0) (p'.drop 0) = FO) := Lib.hid hFO
            rw [hFT, hFO] at hB
            have HB0 := Lib.hid hB
            clear hB hFT hFO hT hT' hTl hTl' ht hp1 hp2 hml hnq
            go_enter Try.func32, Try.ntmps32
            go_upto_region 1 with fail
            try rw [HW.out]
            go_wp2_with fail
            refine (HV1.out _ (Below.refl _ _)).mono ?_
            rintro e w1 ⟨rfl, hd1⟩
            have hb1 : Below W.heap.size W w1 := hd1
            have T1 := kTrans kW hb1
            clear x0 x1 x2 y0 y1 y2 hd1
            obtain ⟨x0, x1, x2⟩ := GA.out w1 hb1
            obtain ⟨y0, y1, y2⟩ := GB.out w1 hb1
            go_wp2_with fail
            refine (HV2.out _ hb1).mono ?_
            rintro e w2 ⟨rfl, hd2⟩
            have hb2 := kTrans hb1 hd2
            have T2 := kTrans kW hb2
            clear x0 x1 x2 y0 y1 y2 T1 hb1 hd2
            obtain ⟨x0, x1, x2⟩ := GA.out w2 hb2
            obtain ⟨y0, y1, y2⟩ := GB.out w2 hb2
            go_wp2_with fail
            refine (HTa.out _ hb2).mono ?_
            rintro e w3 ⟨ua, rfl, hua, hd3⟩
            obtain ⟨va, ca, rfl⟩ := hua.form
            have hb3 := kTrans hb2 hd3
            obtain ⟨g, o, rfl, eC, eG, eL, _⟩ := slUs_some hua.sl Hpos.out.1
            have HC3 := Lib.hid eC
            clear x0 x1 x2 y0 y1 y2 eC hua hd3 hb2 T2
            obtain ⟨x0, x1, x2⟩ := GA.out w3 hb3
            obtain ⟨y0, y1, y2⟩ := GB.out w3 hb3
            go_wp2_with fail
            refine (HTb.out _ hb3).mono ?_
            rintro e w4 ⟨ub, rfl, hub, hd4⟩
            obtain ⟨vb, cb, rfl⟩ := hub.form
            have hb4 := kTrans hb3 hd4
            obtain ⟨g', o', rfl, eC', eG', eL', _⟩ := slUs_some hub.sl Hpos.out.2
            have HC := Lib.hid (HC3.out.below hd4 eG)
            have HC' := Lib.hid eC'
            have eG4 := Nat.lt_of_lt_of_le eG hd4.size
            rw [HTq.out] at eL ⊢
            rw [Ht.out] at eL' ⊢
            have zq4 := Nat.lt_of_lt_of_le zqW hb4.size
            have zkW := Lib.hid (fun W2 (h2 : Below W.heap.size W W2) => (HA.out W2 h2).z1)
            have zkW' := Lib.hid (fun W2 (h2 : Below W.heap.size W W2) => (HB.out W2 h2).z1)
            clear HC3 eG eC' hub hd4 hb3 x0 x1 x2 y0 y1 y2 HTa HTb HV1 HV2 Hpos HW kW la lb
            go_wp2
            go_loopw [10] (fun i wr => ∃ j : Nat, j ≤ nq ∧ i = .int .i64 j ∧ Hid (haveT T' (q.drop j) (T.drop j) = FT) ∧ Below w4.heap.size w4 wr) (fun i _ => nq - (intOf i).toNat)
            case atStart => exact ⟨0, by omega, rfl, HF0, by first | exact Below.refl _ _ | exact Below.drew (Below.refl _ _)⟩
            case round =>
              clear HF0
              obtain ⟨j, hj, rfl, hf, hbr⟩ := hrel
              have Dr := kTrans hb4 hbr
              by_cases hlt : j < nq
              · have hlk : j < q.length := by rw [Hnq.out]; exact hlt
                have hlT : j < T.length := by rw [HTq.out]; exact hlt
                have cq := (HQ.out wr Dr) j hlk
                have ct := (HC.out.below hbr eG4) j hlT
                have hf2 := hf.out
                rw [haveT_drop hlk hlT] at hf2
                have kq := Nat.lt_of_lt_of_le zq4 hbr.size
                have kg := Nat.lt_of_lt_of_le eG4 hbr.size
                have kg' := Nat.lt_of_lt_of_le eG' hbr.size
                generalize q[j] = x at cq hf2
                generalize T[j] = y at ct hf2
                rw [Ht.out] at hf2
                simp only [Nat.zero_add] at cq
                clear hf
                by_cases c0 : 0 ≤ x ∧ x ≤ (t : Int) - 1
                · obtain ⟨kx, rfl⟩ : ∃ kx : Nat, x = kx := ⟨x.toNat, by omega⟩
                  have c1 : (kx : Int) < t := by omega
                  have hkT : kx < T'.length := by rw [Ht.out]; omega
                  have hkt : kx < t := by omega
                  have cu := (HC'.out.below hbr eG') kx hkT
                  rw [Int.toNat_natCast, getD_at hkT] at hf2
                  generalize T'[kx] = z at cu hf2
                  have HI := Lib.hid (fun W2 => l00In_any (kx : Int) 0 ((t : Int) - 1) W2 true (decide_eq_true c0).symm)
                  by_cases c2 : y = z
                  · have hf3 : Hid (haveT T' (q.drop (j + 1)) (T.drop (j + 1)) = FT) := Lib.hid (by rw [← hf2]; simp [c0.1, c1, c2])
                    have c2' : (y == z) = true := by simpa using c2
                    clear hf2 c2 c0
                    go_wp2_with fail
                    go_quiet ((go_at_call 59; exact Calls.quiet_of_same ((HI.out _).mono fun e w' h => ⟨h.1, h.2.symm⟩)))
                    go_wp2
                    exact ⟨⟨j + 1, by omega, by go_num, hf3, kDrewN hbr _⟩, by simp [intOf]; omega⟩
                  · obtain rfl : FT = false := by rw [← hf2]; simp [c2]
                    obtain rfl : B = false := by rw [← HB0.out]; rfl
                    have c2' : (y == z) = false := by simpa using c2
                    clear hf2 c2 c0
                    go_wp2_with fail
                    go_quiet ((go_at_call 59; exact Calls.quiet_of_same ((HI.out _).mono fun e w' h => ⟨h.1, h.2.symm⟩)))
                    go_wp2
                    exact bodyPost_ret (v := .tuple #[.bool false, .int .i64 0]) (by simp [results, Try.results32, go_sem]) rfl ⟨rfl, kDrewN (kTrans kW0.out Dr) _⟩
                · obtain rfl : FT = false := by
                    rw [← hf2]
                    by_cases d0 : 0 ≤ x
                    · have d1 : ¬ x < t := by omega
                      simp [d1]
                    · simp [d0]
                  obtain rfl : B = false := by rw [← HB0.out]; rfl
                  have HI := Lib.hid (fun W2 => l00In_any x 0 ((t : Int) - 1) W2 false (decide_eq_false c0).symm)
                  clear hf2 c0
                  go_wp2_with fail
                  go_quiet ((go_at_call 59; exact Calls.quiet_of_same ((HI.out _).mono fun e w' h => ⟨h.1, h.2.symm⟩)))
                  go_wp2
                  exact bodyPost_ret (v := .tuple #[.bool false, .int .i64 0]) (by simp [results, Try.results32, go_sem]) rfl ⟨rfl, kDrewN (kTrans kW0.out Dr) _⟩
              · obtain rfl : j = nq := by omega
                obtain rfl : FT = true := by rw [← hf.out]; exact haveT_end (by rw [Hnq.out]; exact Nat.le_refl _)
                obtain rfl : FO = B := HB0.out
                clear hf HC HC' HB0
                go_wp2
                go_loopw [11] (fun i wz => ∃ s : Nat, s ≤ r ∧ i = .int .i64 s ∧ Hid (haveO q (p.drop s) (p'.drop s) = FO) ∧ Below W.heap.size W wz) (fun i _ => r - (intOf i).toNat)
                case atStart => exact ⟨0, by omega, rfl, HO0, Dr⟩
                case round =>
                  clear HO0
                  obtain ⟨s, hs, rfl, hf, hbz⟩ := hrel
                  have Tz := kTrans kW0.out hbz
                  obtain ⟨x0, x1, x2⟩ := GA.out _ hbz
                  obtain ⟨y0, y1, y2⟩ := GB.out _ hbz
                  by_cases hlt2 : s < r
                  · have hlk : s < p.length := by rw [Hr.out]; exact hlt2
                    have hlk' : s < p'.length := by rw [Hr'.out]; exact hlt2
                    have cp := (HA.out _ hbz).p1 s hlk
                    have cp' := (HB.out _ hbz).p1 s hlk'
                    have hx := HR.out _ (List.getElem_mem hlk)
                    have hy := HR'.out _ (List.getElem_mem hlk')
                    have hl80 := Hl80.out
                    have hf2 := hf.out
                    rw [haveO_drop hlk hlk'] at hf2
                    have kq := Nat.lt_of_lt_of_le zqW hbz.size
                    have kk := (HA.out _ hbz).z1
                    have kk' := (HB.out _ hbz).z1
                    generalize p[s] = x at cp hf2 hx
                    generalize p'[s] = y at cp' hf2 hy
                    simp only [Nat.zero_add] at cp cp'
                    obtain ⟨kx, rfl⟩ : ∃ kx : Nat, x = kx := ⟨x.toNat, by omega⟩
                    have hkm : kx < j := by have := Hlq.out; omega
                    have hkq : kx < q.length := by rw [Hnq.out]; exact hkm
                    have cq := (HQ.out _ hbz) kx hkq
                    rw [Int.toNat_natCast, getD_at hkq] at hf2
                    generalize q[kx] = z at cq hf2
                    simp only [Nat.zero_add] at cq
                    have hwy : IntKind.i64.wrap y = y := IntWalk.i64_in _ (by omega)
                    clear hf
                    by_cases c2 : z = y
                    · have hf3 : Hid (haveO q (p.drop (s + 1)) (p'.drop (s + 1)) = FO) := Lib.hid (by rw [← hf2]; simp [c2])
                      have c2' : (z == y) = true := by simpa using c2
                      clear hf2 c2
                      go_wp2
                      go_quiet (fail)
                      go_wp2
                      exact ⟨⟨s + 1, by omega, by go_num, hf3, kDrewN hbz _⟩, by simp [intOf]; omega⟩
                    · obtain rfl : FO = false := by rw [← hf2]; simp [c2]
                      have c2' : (z == y) = false := by simpa using c2
                      clear hf2 c2
                      go_wp2
                      go_quiet (fail)
                      go_wp2
                      exact bodyPost_ret (v := .tuple #[.bool false, .int .i64 0]) (by simp [results, Try.results32, go_sem]) rfl ⟨rfl, kDrewN Tz _⟩
                  · obtain rfl : s = r := by omega
                    obtain rfl : FO = true := by rw [← hf.out]; exact haveO_end (by rw [Hr.out]; exact Nat.le_refl _)
                    clear hf
                    go_wp2
                    exact bodyPost_ret (v := .tuple #[.bool true, .int .i64 0]) (by simp [results, Try.results32, go_sem]) rfl ⟨rfl, Tz⟩
          · have c3 : ¬ (r : Int) = r' := by omega
            obtain rfl : B = false := by rw [← hB, decide_eq_false (show ¬ (r : Int) = r' by omega), Bool.and_false, Bool.false_and]
            clear hB
            go_enter Try.func32, Try.ntmps32
            go_upto_region 1 with fail
            try rw [HW.out]
            go_wp2_with fail
            refine (HV1.out _ (Below.refl _ _)).mono ?_
            rintro e w1 ⟨rfl, hd1⟩
            have hb1 : Below W.heap.size W w1 := hd1
            have T1 := kTrans kW hb1
            clear x0 x1 x2 y0 y1 y2 hd1
            obtain ⟨x0, x1, x2⟩ := GA.out w1 hb1
            obtain ⟨y0, y1, y2⟩ := GB.out w1 hb1
            go_wp2_with fail
            refine (HV2.out _ hb1).mono ?_
            rintro e w2 ⟨rfl, hd2⟩
            have hb2 := kTrans hb1 hd2
            have T2 := kTrans kW hb2
            clear x0 x1 x2 y0 y1 y2 T1 hb1 hd2
            obtain ⟨x0, x1, x2⟩ := GA.out w2 hb2
            obtain ⟨y0, y1, y2⟩ := GB.out w2 hb2
            go_wp2
            exact bodyPost_ret (v := .tuple #[.bool false, .int .i64 0]) (by simp [results, Try.results32, go_sem]) rfl ⟨rfl, T2⟩
        · have c2 : ¬ (n : Int) = n' := by omega
          obtain rfl : B = false := by rw [← hB, decide_eq_false (show ¬ (n : Int) = n' by omega), Bool.false_and, Bool.false_and]
          clear hB
          go_enter Try.func32, Try.ntmps32
          go_upto_region 1 with fail
          try rw [HW.out]
          go_wp2_with fail
          refine (HV1.out _ (Below.refl _ _)).mono ?_
          rintro e w1 ⟨rfl, hd1⟩
          have hb1 : Below W.heap.size W w1 := hd1
          have T1 := kTrans kW hb1
          clear x0 x1 x2 y0 y1 y2 hd1
          obtain ⟨x0, x1, x2⟩ := GA.out w1 hb1
          obtain ⟨y0, y1, y2⟩ := GB.out w1 hb1
          go_wp2_with fail
          refine (HV2.out _ hb1).mono ?_
          rintro e w2 ⟨rfl, hd2⟩
          have hb2 := kTrans hb1 hd2
          have T2 := kTrans kW hb2
          clear x0 x1 x2 y0 y1 y2 T1 hb1 hd2
          obtain ⟨x0, x1, x2⟩ := GA.out w2 hb2
          obtain ⟨y0, y1, y2⟩ := GB.out w2 hb2
          go_wp2
          exact bodyPost_ret (v := .tuple #[.bool false, .int .i64 0]) (by simp [results, Try.results32, go_sem]) rfl ⟨rfl, T2⟩
      · have c0 : ¬ (nq : Int) = m := by omega
        obtain rfl : B = false := by rw [← hB, decide_eq_false hlq, Bool.false_and, Bool.and_false]
        clear hB
        go_enter Try.func32, Try.ntmps32
        go_upto_region 1 with fail
        try rw [HW.out]
        go_wp2_with fail
        refine (HV1.out _ (Below.refl _ _)).mono ?_
        rintro e w1 ⟨rfl, hd1⟩
        have hb1 : Below W.heap.size W w1 := hd1
        have T1 := kTrans kW hb1
        clear x0 x1 x2 y0 y1 y2 hd1
        obtain ⟨x0, x1, x2⟩ := GA.out w1 hb1
        obtain ⟨y0, y1, y2⟩ := GB.out w1 hb1
        go_wp2_with fail
        refine (HV2.out _ hb1).mono ?_
        rintro e w2 ⟨rfl, hd2⟩
        have hb2 := kTrans hb1 hd2
        have T2 := kTrans kW hb2
        clear x0 x1 x2 y0 y1 y2 T1 hb1 hd2
        obtain ⟨x0, x1, x2⟩ := GA.out w2 hb2
        obtain ⟨y0, y1, y2⟩ := GB.out w2 hb2
        go_wp2
        exact bodyPost_ret (v := .tuple #[.bool false, .int .i64 0]) (by simp [results, Try.results32, go_sem]) rfl ⟨rfl, T2⟩
end Go.Proofs.Ytlbnhdnmcnfgdaa
