/- CheckMerge, the program. -/
import Derived.Test.YtlbnhdnmcnfgdaaCm1
import Derived.Test.YtlbnhdnmcnfgdaaCm2
namespace Go.Proofs.Ytlbnhdnmcnfgdaa
open Go.ChangeShapes Go.WideShapes Go.ChangeAt Go.RowKit Go.Joins Go.Deep
set_option linter.unusedVariables false
set_option linter.unusedSimpArgs false

set_option maxRecDepth 100000 in
set_option maxHeartbeats 16000000 in
theorem implCheckMerge_any (b k b' k' qb : Nat) (ni nj : Int) (l l' : List Nd) (p p' q : List Int) (w : World) (h : NK w b k l p) (h' : NK w b' k' l' p') (hq : InsAt w qb 0 q) (zq : qb < w.heap.size) (h8 : NdsWf l) (h9 : ShsWf p) (h8' : NdsWf l') (h9' : ShsWf p') (bw : i8 ni) (bw' : i8 nj) (m0 : l.length ≤ 1048576) (m1 : p.length ≤ 1048576) (m0' : l'.length ≤ 1048576) (m1' : p'.length ≤ 1048576) (R1 R2 : Bool) (hR1 : R1 = netOk ni l p) (hR2 : R2 = netOk nj l' p') (B : Bool) (C : Int) (hQ : mergeQ R1 R2 ni nj l l' p p' q = (B, C)) :
    Calls Try.prog 34 #[.agg #[.int .i8 ni, .slice (some ⟨b, 0, none⟩) l.length l.length, .slice (some ⟨k, 0, none⟩) p.length p.length], .agg #[.int .i8 nj, .slice (some ⟨b', 0, none⟩) l'.length l'.length, .slice (some ⟨k', 0, none⟩) p'.length p'.length], .slice (some ⟨qb, 0, none⟩) q.length q.length] w fun e w' => e = .returned (.tuple #[.bool B, .int .i64 C]) ∧ Below w.heap.size w w' := by
  obtain ⟨W, hW⟩ : ∃ W, (w.alloc (.cells #[.int .i8 ni, .slice (some ⟨b, 0, none⟩) l.length l.length, .slice (some ⟨k, 0, none⟩) p.length p.length] 31)).alloc (.cells #[.int .i8 nj, .slice (some ⟨b', 0, none⟩) l'.length l'.length, .slice (some ⟨k', 0, none⟩) p'.length p'.length] 31) = W := ⟨_, rfl⟩
  have kW : Below w.heap.size w W := by rw [← hW]; exact kAlloc (kAlloc (Below.refl _ _) _) _
  have gA : NwAt W w.heap.size ni (.slice (some ⟨b, 0, none⟩) l.length l.length) (.slice (some ⟨k, 0, none⟩) p.length p.length) := by rw [← hW]; exact (NwAt.box w ni _ _ 31).below (kAlloc (Below.refl _ _) _) (by simp)
  have gB : NwAt W (w.heap.size + 1) nj (.slice (some ⟨b', 0, none⟩) l'.length l'.length) (.slice (some ⟨k', 0, none⟩) p'.length p'.length) := by
    rw [← hW]
    have h := NwAt.box (w.alloc (.cells #[.int .i8 ni, .slice (some ⟨b, 0, none⟩) l.length l.length, .slice (some ⟨k, 0, none⟩) p.length p.length] 31)) nj (.slice (some ⟨b', 0, none⟩) l'.length l'.length) (.slice (some ⟨k', 0, none⟩) p'.length p'.length) 31
    simpa only [World.size_alloc] using h
  have la := gA.lt
  have lb := gB.lt
  have GA := Lib.hid (fun W2 (h2 : Below W.heap.size W W2) => gA.below h2 la)
  have GB := Lib.hid (fun W2 (h2 : Below W.heap.size W W2) => gB.below h2 lb)
  have HA := Lib.hid (fun W2 (h2 : Below W.heap.size W W2) => h.below (kTrans kW h2))
  have HB := Lib.hid (fun W2 (h2 : Below W.heap.size W W2) => h'.below (kTrans kW h2))
  have HQ := Lib.hid (fun W2 (h2 : Below W.heap.size W W2) => hq.below (kTrans kW h2) zq)
  have zqW : qb < W.heap.size := Nat.lt_of_lt_of_le zq kW.size
  have HW := Lib.hid hW
  have HV1 := Lib.hid (fun W2 (h2 : Below W.heap.size W W2) => implValidNetwork_any b k ni l p W2 (HA.out W2 h2) h8 h9 bw m0 m1 R1 hR1)
  have HV2 := Lib.hid (fun W2 (h2 : Below W.heap.size W W2) => implValidNetwork_any b' k' nj l' p' W2 (HB.out W2 h2) h8' h9' bw' m0' m1' R2 hR2)
  obtain ⟨x0, x1, x2⟩ := gA
  obtain ⟨y0, y1, y2⟩ := gB
  clear hW h h' hq
  cases R1 with
  | false =>
    obtain ⟨rfl, rfl⟩ := mergeQ_no1 hQ
    clear hQ hR1 hR2
    go_enter Try.func34, Try.ntmps34
    go_upto_region 1 with fail
    try rw [HW.out]
    go_wp2_with fail
    refine (HV1.out _ (Below.refl _ _)).mono ?_
    rintro e w1 ⟨rfl, hd1⟩
    have hb1 : Below W.heap.size W w1 := hd1
    have T1 := kTrans kW hb1
    clear x0 x1 x2 y0 y1 y2 hd1
    obtain ⟨x0, x1, x2⟩ := GA.out w1 hb1
    obtain ⟨y0, y1, y2⟩ := GB.out w1 hb1
    go_wp2
    exact bodyPost_ret (v := .tuple #[.bool false, .int .i64 1]) (by simp [results, Try.results34, go_sem]) rfl ⟨rfl, T1⟩
  | true =>
    cases R2 with
    | false =>
      obtain ⟨rfl, rfl⟩ := mergeQ_no2 hQ
      clear hQ hR1 hR2
      go_enter Try.func34, Try.ntmps34
      go_upto_region 1 with fail
      try rw [HW.out]
      go_wp2_with fail
      refine (HV1.out _ (Below.refl _ _)).mono ?_
      rintro e w1 ⟨rfl, hd1⟩
      have hb1 : Below W.heap.size W w1 := hd1
      have T1 := kTrans kW hb1
      clear x0 x1 x2 y0 y1 y2 hd1
      obtain ⟨x0, x1, x2⟩ := GA.out w1 hb1
      obtain ⟨y0, y1, y2⟩ := GB.out w1 hb1
      go_wp2_with fail
      refine (HV2.out _ hb1).mono ?_
      rintro e w2 ⟨rfl, hd2⟩
      have hb2 := kTrans hb1 hd2
      have T2 := kTrans kW hb2
      clear x0 x1 x2 y0 y1 y2 T1 hb1 hd2
      obtain ⟨x0, x1, x2⟩ := GA.out w2 hb2
      obtain ⟨y0, y1, y2⟩ := GB.out w2 hb2
      go_wp2
      exact bodyPost_ret (v := .tuple #[.bool false, .int .i64 1]) (by simp [results, Try.results34, go_sem]) rfl ⟨rfl, T2⟩
    | true =>
      have hn1 := (netOk_parts hR1.symm).1
      have hn2 := (netOk_parts hR2.symm).1
      obtain ⟨n, rfl⟩ : ∃ n : Nat, ni = n := ⟨ni.toNat, by omega⟩
      obtain ⟨n', rfl⟩ : ∃ n' : Nat, nj = n' := ⟨nj.toNat, by omega⟩
      obtain ⟨hB, rfl⟩ := mergeQ_yes hQ
      have HC := Lib.hid (fun W2 (F : Bool) hF => areComparable_any n n' b k b' k' l l' p p' W2 F hF)
      have HT := Lib.hid (fun W2 (h2 : Below W.heap.size W W2) hlq (F : Bool) hF => haveTables_any n n' b k b' k' qb l l' p p' q W2 (HA.out W2 h2) hR1.symm (HB.out W2 h2) hR2.symm (HQ.out W2 h2) (Nat.lt_of_lt_of_le zqW h2.size) hlq F hF)
      have HO := Lib.hid (fun W2 (h2 : Below W.heap.size W W2) hlq hpp (F : Bool) hF => haveOutputs_any n n' b k b' k' qb l l' p p' q W2 (HA.out W2 h2) hR1.symm (HB.out W2 h2) hR2.symm (HQ.out W2 h2) (Nat.lt_of_lt_of_le zqW h2.size) hlq hpp F hF)
      clear hQ hR1 hR2 hn1 hn2 HA HB HQ
      cases hK : (decide ((n : Int) = n') && decide ((p.length : Int) = p'.length)) with
      | false =>
        obtain rfl : B = false := by rw [← hB, hK]; rfl
        have HK := Lib.hid hK
        clear hB hK
        go_enter Try.func34, Try.ntmps34
        go_upto_region 1 with fail
        try rw [HW.out]
        go_wp2_with fail
        refine (HV1.out _ (Below.refl _ _)).mono ?_
        rintro e w1 ⟨rfl, hd1⟩
        have hb1 : Below W.heap.size W w1 := hd1
        have T1 := kTrans kW hb1
        clear x0 x1 x2 y0 y1 y2 hd1
        obtain ⟨x0, x1, x2⟩ := GA.out w1 hb1
        obtain ⟨y0, y1, y2⟩ := GB.out w1 hb1
        go_wp2_with fail
        refine (HV2.out _ hb1).mono ?_
        rintro e w2 ⟨rfl, hd2⟩
        have hb2 := kTrans hb1 hd2
        have T2 := kTrans kW hb2
        clear x0 x1 x2 y0 y1 y2 T1 hb1 hd2
        obtain ⟨x0, x1, x2⟩ := GA.out w2 hb2
        obtain ⟨y0, y1, y2⟩ := GB.out w2 hb2
        go_wp2_with fail
        refine (HC.out _ false HK.out).mono ?_
        rintro e w3 ⟨rfl, hd3⟩
        have hb3 := kTrans hb2 hd3
        have T3 := kTrans kW hb3
        clear x0 x1 x2 y0 y1 y2 T2 hb2 hd3
        obtain ⟨x0, x1, x2⟩ := GA.out w3 hb3
        obtain ⟨y0, y1, y2⟩ := GB.out w3 hb3
        go_wp2
        exact bodyPost_ret (v := .tuple #[.bool false, .int .i64 0]) (by simp [results, Try.results34, go_sem]) rfl ⟨rfl, T3⟩
      | true =>
        have HK := Lib.hid hK
        have hpp : p.length = p'.length := by simp only [Bool.and_eq_true, decide_eq_true_eq] at hK; omega
        rw [hK] at hB
        clear hK
        by_cases hlq : q.length = l.length
        · have c0 : ((q.length : Int) == (l.length : Int)) = true := by simp [hlq]
          have c1 : (q.length == l.length) = true := by simp [hlq]
          have hlq' : l.length = q.length := hlq.symm
          have HL := Lib.hid hlq
          have HP := Lib.hid hpp
          rw [decide_eq_true hlq] at hB
          clear hpp hlq hlq'
          cases hT : haveT (tabsL n' l' []) q (tabsL n l []) with
          | false =>
            obtain rfl : B = false := by rw [← hB, hT]; rfl
            have HT0 := Lib.hid hT
            clear hB hT
            go_enter Try.func34, Try.ntmps34
            go_upto_region 1 with fail
            try rw [HW.out]
            go_wp2_with fail
            refine (HV1.out _ (Below.refl _ _)).mono ?_
            rintro e w1 ⟨rfl, hd1⟩
            have hb1 : Below W.heap.size W w1 := hd1
            have T1 := kTrans kW hb1
            clear x0 x1 x2 y0 y1 y2 hd1
            obtain ⟨x0, x1, x2⟩ := GA.out w1 hb1
            obtain ⟨y0, y1, y2⟩ := GB.out w1 hb1
            go_wp2_with fail
            refine (HV2.out _ hb1).mono ?_
            rintro e w2 ⟨rfl, hd2⟩
            have hb2 := kTrans hb1 hd2
            have T2 := kTrans kW hb2
            clear x0 x1 x2 y0 y1 y2 T1 hb1 hd2
            obtain ⟨x0, x1, x2⟩ := GA.out w2 hb2
            obtain ⟨y0, y1, y2⟩ := GB.out w2 hb2
            go_wp2_with fail
            refine (HC.out _ true HK.out).mono ?_
            rintro e w3 ⟨rfl, hd3⟩
            have hb3 := kTrans hb2 hd3
            have T3 := kTrans kW hb3
            clear x0 x1 x2 y0 y1 y2 T2 hb2 hd3
            obtain ⟨x0, x1, x2⟩ := GA.out w3 hb3
            obtain ⟨y0, y1, y2⟩ := GB.out w3 hb3
            go_wp2_with fail
            refine (HT.out _ hb3 HL.out false HT0.out).mono ?_
            rintro e w4 ⟨rfl, hd4⟩
            have hb4 := kTrans hb3 hd4
            have T4 := kTrans kW hb4
            clear x0 x1 x2 y0 y1 y2 T3 hb3 hd4
            obtain ⟨x0, x1, x2⟩ := GA.out w4 hb4
            obtain ⟨y0, y1, y2⟩ := GB.out w4 hb4
            go_wp2
            exact bodyPost_ret (v := .tuple #[.bool false, .int .i64 0]) (by simp [results, Try.results34, go_sem]) rfl ⟨rfl, T4⟩
          | true =>
            have hO : haveO q p p' = B := by rw [← hB, hT]; rfl
            have HT0 := Lib.hid hT
            have HO0 := Lib.hid hO
            clear hB hT hO
            go_enter Try.func34, Try.ntmps34
            go_upto_region 1 with fail
            try rw [HW.out]
            go_wp2_with fail
            refine (HV1.out _ (Below.refl _ _)).mono ?_
            rintro e w1 ⟨rfl, hd1⟩
            have hb1 : Below W.heap.size W w1 := hd1
            have T1 := kTrans kW hb1
            clear x0 x1 x2 y0 y1 y2 hd1
            obtain ⟨x0, x1, x2⟩ := GA.out w1 hb1
            obtain ⟨y0, y1, y2⟩ := GB.out w1 hb1
            go_wp2_with fail
            refine (HV2.out _ hb1).mono ?_
            rintro e w2 ⟨rfl, hd2⟩
            have hb2 := kTrans hb1 hd2
            have T2 := kTrans kW hb2
            clear x0 x1 x2 y0 y1 y2 T1 hb1 hd2
            obtain ⟨x0, x1, x2⟩ := GA.out w2 hb2
            obtain ⟨y0, y1, y2⟩ := GB.out w2 hb2
            go_wp2_with fail
            refine (HC.out _ true HK.out).mono ?_
            rintro e w3 ⟨rfl, hd3⟩
            have hb3 := kTrans hb2 hd3
            have T3 := kTrans kW hb3
            clear x0 x1 x2 y0 y1 y2 T2 hb2 hd3
            obtain ⟨x0, x1, x2⟩ := GA.out w3 hb3
            obtain ⟨y0, y1, y2⟩ := GB.out w3 hb3
            go_wp2_with fail
            refine (HT.out _ hb3 HL.out true HT0.out).mono ?_
            rintro e w4 ⟨rfl, hd4⟩
            have hb4 := kTrans hb3 hd4
            have T4 := kTrans kW hb4
            clear x0 x1 x2 y0 y1 y2 T3 hb3 hd4
            obtain ⟨x0, x1, x2⟩ := GA.out w4 hb4
            obtain ⟨y0, y1, y2⟩ := GB.out w4 hb4
            go_wp2_with fail
            refine (HO.out _ hb4 HL.out HP.out B HO0.out).mono ?_
            rintro e w5 ⟨rfl, hd5⟩
            have hb5 := kTrans hb4 hd5
            have T5 := kTrans kW hb5
            clear x0 x1 x2 y0 y1 y2 T4 hb4 hd5
            obtain ⟨x0, x1, x2⟩ := GA.out w5 hb5
            obtain ⟨y0, y1, y2⟩ := GB.out w5 hb5
            go_wp2
            exact bodyPost_ret (v := .tuple #[.bool B, .int .i64 0]) (by simp [results, Try.results34, go_sem]) rfl ⟨rfl, T5⟩
        · have c0 : ((q.length : Int) == (l.length : Int)) = false := by simp; omega
          have c1 : (q.length == l.length) = false := by simp; omega
          obtain rfl : B = false := by rw [← hB, decide_eq_false hlq]; rfl
          clear hB hpp
          go_enter Try.func34, Try.ntmps34
          go_upto_region 1 with fail
          try rw [HW.out]
          go_wp2_with fail
          refine (HV1.out _ (Below.refl _ _)).mono ?_
          rintro e w1 ⟨rfl, hd1⟩
          have hb1 : Below W.heap.size W w1 := hd1
          have T1 := kTrans kW hb1
          clear x0 x1 x2 y0 y1 y2 hd1
          obtain ⟨x0, x1, x2⟩ := GA.out w1 hb1
          obtain ⟨y0, y1, y2⟩ := GB.out w1 hb1
          go_wp2_with fail
          refine (HV2.out _ hb1).mono ?_
          rintro e w2 ⟨rfl, hd2⟩
          have hb2 := kTrans hb1 hd2
          have T2 := kTrans kW hb2
          clear x0 x1 x2 y0 y1 y2 T1 hb1 hd2
          obtain ⟨x0, x1, x2⟩ := GA.out w2 hb2
          obtain ⟨y0, y1, y2⟩ := GB.out w2 hb2
          go_wp2_with fail
          refine (HC.out _ true HK.out).mono ?_
          rintro e w3 ⟨rfl, hd3⟩
          have hb3 := kTrans hb2 hd3
          have T3 := kTrans kW hb3
          clear x0 x1 x2 y0 y1 y2 T2 hb2 hd3
          obtain ⟨x0, x1, x2⟩ := GA.out w3 hb3
          obtain ⟨y0, y1, y2⟩ := GB.out w3 hb3
          go_wp2
          exact bodyPost_ret (v := .tuple #[.bool false, .int .i64 0]) (by simp [results, Try.results34, go_sem]) rfl ⟨rfl, T3⟩
end Go.Proofs.Ytlbnhdnmcnfgdaa
