/- AdderOf, the model; both sides. -/
import Derived.Test.YtdnjamlibnmpfaaAd
namespace Go.Proofs.Ytdnjamlibnmpfaa
open Go.ChangeShapes Go.WideShapes Go.ChangeAt Go.RowKit Go.Joins Go.Deep
set_option linter.unusedVariables false
set_option linter.unusedSimpArgs false
set_option maxRecDepth 100000 in
set_option maxHeartbeats 8000000 in
theorem specAdder_ok (b : Nat) (w : World) (hb : 1 ≤ b ∧ b ≤ 3) (Nr : Int) (lr : List Nd) (pr : List Int) (C : Int) (hQ : adQ true b = (Nr, lr, pr, C)) :
    Calls Try.prog 13 #[.int .i64 b] w fun e w' => ∃ v u, e = .returned (.tuple #[.agg #[.int .i8 Nr, v, u], .int .i64 C]) ∧ NwR w.heap.size w'.heap.size w' lr pr v u ∧ Below w.heap.size w w' := by
  obtain ⟨j0_, hj0, hj1, hj2, hj3⟩ := info_parts info_i16n
  have Hj := Lib.hid hj0
  have Hj1 := Lib.hid hj1
  have Hj2 := Lib.hid hj2
  have Hj3 := Lib.hid hj3
  obtain ⟨W0, hW⟩ : ∃ W0, ((w.alloc (.cells #[.int .i8 0, .slice none 0 0, .slice none 0 0] 30)).alloc (.cells #[.slice none 0 0] 66)).alloc (.cells #[] 46) = W0 := ⟨_, rfl⟩
  have k0 : Below w.heap.size w W0 := by rw [← hW]; exact kAlloc (kAlloc (kAlloc (Below.refl _ _) _) _) _
  have bR : W0.heap[w.heap.size]? = some (.cells #[.int .i8 0, .slice none 0 0, .slice none 0 0] 30 (0, 0)) := by rw [← hW]; exact (Below.heap_alloc _ _ _ (by simp; omega)).trans ((Below.heap_alloc _ _ _ (by simp)).trans (heap_alloc_new _ _))
  have bB : W0.heap[w.heap.size + 1]? = some (.cells #[.slice none 0 0] 66 (0, 0)) := by rw [← hW]; exact (Below.heap_alloc _ _ _ (by simp)).trans (heap_two _ _ _)
  have HBR := Lib.hid bR
  have HS0 : Hid (BS W0 (w.heap.size + 1) 66 []) := Lib.hid ⟨_, bB, nilT_owns⟩
  have bO : W0.heap[w.heap.size + 1 + 1]? = some (.cells #[] 46 (0, 0)) := by
    rw [← hW]
    have h := heap_alloc_new ((w.alloc (.cells #[.int .i8 0, .slice none 0 0, .slice none 0 0] 30)).alloc (.cells #[.slice none 0 0] 66)) (.cells #[] 46)
    simpa only [World.size_alloc] using h
  have HOw0 := Lib.hid (show W0.ownsRow (w.heap.size + 1 + 1) 46 1 (.slice (some ⟨w.heap.size + 1 + 1, 0, none⟩) 0 0) 0 [] from owns_new (Nat.le_refl _) bO)
  clear bO
  have HK0 := Lib.hid k0
  have HW := Lib.hid hW
  have hsz0 := blk_lt bB
  have HB0 := Lib.hid (show Below (w.heap.size + 1) W0 W0 from Below.refl _ _)
  have HQ := Lib.hid hQ
  have b1 : (1 : Int) ≤ b := by omega
  have b3 : (b : Int) ≤ 3 := by omega
  clear hj0 hj1 hj2 hj3 hW bR bB k0 hQ
  go_enter Try.func13, Try.ntmps13
  have HIN := Lib.hid (l00In_yes (b : Int) 1 3 (w.alloc (.cells #[.int .i8 0, .slice none 0 0, .slice none 0 0] 30)) b1 b3)
  go_wp2_with fail
  refine (HIN.out).mono ?_
  rintro e w1 ⟨rfl, rfl⟩
  clear HIN
  go_upto_region 6 with fail
  try rw [HW.out]
  clear HW
  obtain ⟨B, hB⟩ : ∃ B, w.heap.size + 1 = B := ⟨_, rfl⟩
  have HBe := Lib.hid hB
  have hWB : w.heap.size + 1 ≤ B := Nat.le_of_eq hB
  rw [hB] at HS0 HB0 hsz0 HOw0 ⊢
  clear hB
  go_wp2
  go_loopw [5, 6, 7] (fun o c z wr => ∃ (j : Nat) (acc : List Nd) (outs : List Int) (cv : Int) (va : Option Addr) (vc : Nat), j ≤ b ∧ z = .int .i64 j ∧ o = .slice va j vc ∧ c = .int .i16 cv ∧ Hid (adS b j = (acc, outs, cv)) ∧ Hid (BS wr B 66 acc) ∧ Hid (wr.ownsRow (B + 1) 46 1 (.slice va j vc) outs.length (flatSh outs)) ∧ Hid (Below (w.heap.size + 1) W0 wr) ∧ outs.length = j) (fun _ _ z _ => b - (intOf z).toNat)
  case atStart => exact ⟨0, [], [], 0, _, _, by omega, rfl, rfl, rfl, Lib.hid rfl, HS0, Lib.hid (owns_base_M HOw0.out (Nat.le_refl _)), by first | exact HB0 | exact Lib.hid (Below.refl _ _), rfl⟩
  case round =>
    obtain ⟨j, acc, outs, cv, va, vc, hj, rfl, rfl, rfl, hS, hN, HO, HB, hol⟩ := hrel
    have Hol := Lib.hid hol
    have hla : acc.length ≤ 13 * j := by have h := (adS_len b j).1; rw [hS.out] at h; exact h
    obtain ⟨HBX, hBX⟩ : ∃ cs, wr.heap[B]? = some (.cells cs 66 (0, 0)) := by obtain ⟨v, h1, -⟩ := hN.out.ex; exact ⟨_, h1⟩
    have HBX := Lib.hid hBX
    clear hBX
    rw [hol] at HO
    clear hol HS0 HB0
    by_cases hjb : j < b
    · have hh := ad_lens b j acc cv
      have Hlens := Lib.hid hh
      have hL : acc.length ≤ 39 := by omega
      have hL1 : (ad1 b j acc).length ≤ 60 := by omega
      have hL2 : (ad2 b j acc).length ≤ 60 := by omega
      have hL3 : (ad3 b j acc).length ≤ 60 := by omega
      have hL4 : (ad4 b j acc).length ≤ 60 := by omega
      have hL5 : (ad5 b j acc cv).length ≤ 60 := by omega
      have hL6 : (ad6 b j acc cv).length ≤ 60 := by omega
      have HB00 := Lib.hid (show Below B wr wr from Below.refl _ _)
      have HK00 := Lib.hid (show KN wr wr B from KN.of_below (Below.refl _ _))
      have q1 : IntKind.i16.wrap (j : Int) = j := IntWalk.i16_in _ (by omega)
      have q2 : IntKind.i16.wrap ((b : Int) + (j : Int)) = (b : Int) + j := IntWalk.i16_in _ (by omega)
      clear hh hla
      have C1 := Lib.hid (show Calls Try.prog 36 #[.pointer (some ⟨B, 0, none⟩), .int .i8 0, .int .i16 (j : Int), .int .i16 0] wr (BP B 66 (ad1 b j acc) ((acc.length : Int)) wr) from add_any B acc 0 (j : Int) 0 wr hN.out (by omega))
      go_wp2_with fail
      refine (C1.out).mono ?_
      rintro e w1 ⟨rfl, hs, hb, hk⟩
      have H1 := Lib.hid hs
      have B1 := Lib.hid (HB00.out.trans hb)
      have K1 := Lib.hid (HK00.out.trans hk)
      clear hs hb hk C1
      have C2 := Lib.hid (show Calls Try.prog 36 #[.pointer (some ⟨B, 0, none⟩), .int .i8 0, .int .i16 ((b : Int) + (j : Int)), .int .i16 0] w1 (BP B 66 (ad2 b j acc) (((ad1 b j acc).length : Int)) w1) from add_any B (ad1 b j acc) 0 ((b + j : Nat) : Int) 0 w1 H1.out (by omega))
      go_wp2_with fail
      refine (C2.out).mono ?_
      rintro e w2 ⟨rfl, hs, hb, hk⟩
      have H2 := Lib.hid hs
      have B2 := Lib.hid (B1.out.trans hb)
      have K2 := Lib.hid (K1.out.trans hk)
      clear hs hb hk C2
      have C3 := Lib.hid (show Calls Try.prog 37 #[.pointer (some ⟨B, 0, none⟩), .int .i16 (acc.length : Int), .int .i16 ((ad1 b j acc).length : Int)] w2 (BP B 66 (ad3 b j acc) (adX b j acc) w2) from mxor_any B (ad2 b j acc) (acc.length : Int) ((ad1 b j acc).length : Int) w2 H2.out (by omega))
      go_wp2_with fail
      refine (C3.out).mono ?_
      rintro e w3 ⟨rfl, hs, hb, hk⟩
      have H3 := Lib.hid hs
      have B3 := Lib.hid (B2.out.trans hb)
      have K3 := Lib.hid (K2.out.trans hk)
      clear hs hb hk C3
      have C4 := Lib.hid (show Calls Try.prog 38 #[.pointer (some ⟨B, 0, none⟩), .int .i16 (acc.length : Int), .int .i16 ((ad1 b j acc).length : Int)] w3 (BP B 66 (ad4 b j acc) (adA b j acc) w3) from mand_any B (ad3 b j acc) (acc.length : Int) ((ad1 b j acc).length : Int) w3 H3.out (by omega))
      go_wp2_with fail
      refine (C4.out).mono ?_
      rintro e w4 ⟨rfl, hs, hb, hk⟩
      have H4 := Lib.hid hs
      have B4 := Lib.hid (B3.out.trans hb)
      have K4 := Lib.hid (K3.out.trans hk)
      clear hs hb hk C4
      by_cases h0 : j = 0
      · skip
        have e0 : ((j : Int) == 0) = true := by simp; omega
        have H0h := Lib.hid h0
        clear h0
        have HO0 := Lib.hid (own_KN HO.out K4.out (by decide) HBX.out (by decide))
        have hB0 := H4.out.lt
        have Hsz0 := Lib.hid (show B + 1 ≤ (w4.alloc (.cells #[.int .i16 (adX b j acc)] 46)).heap.size by simp; omega)
        have hka0 := Lib.hid (show Below w4.heap.size w4 (w4.alloc (.cells #[.int .i16 (adX b j acc)] 46)) from kAlloc (Below.refl _ _) _)
        go_wp2_with (at_builtin; refine wpList_append_own _ rfl _ _ 24 rfl (B + 1) 46 j0_ _ 1 2 Try.underlying24 Hj.out Hj1.out Hj2.out Hj3.out rfl (by decide) (.slice va j vc) j (flatSh outs) rfl (owns_below HO0.out hka0.out) ⟨w4.heap.size, 0, none⟩ 1 1 [.int .i16 (adX b j acc)] rfl rfl (World.news_of_block (cs := #[.int .i16 (adX b j acc)]) (heap_alloc_new _ _)) (by simp [Value.oneCell']) ?c1 ?c2 ?c3 ?_)
        case c1 => unfold maxLen; omega
        case c2 => omega
        case c3 => first | exact Hsz0.out | (have h_ := Hsz0.out; rw [World.size_alloc] at h_; exact h_)
        intro v8 w8 hown8 hgr hnil
        obtain ⟨va8, vc8, rfl⟩ := owns_slice hown8
        have Hq8 := Lib.hid (show w8.ownsRow (B + 1) 46 1 (.slice va8 (j + 1) vc8) (outs ++ [adX b j acc]).length (flatSh (outs ++ [adX b j acc])) by rw [flatSh_end, List.length_append, Hol.out]; exact hown8)
        have H8 := Lib.hid ((H4.out.below hka0.out).grown (owns_below HO0.out hka0.out) (by decide) hgr)
        have B8 := Lib.hid (show Below B wr w8 from B4.out.trans ((hka0.out.mono (Nat.le_of_lt hB0)).grown hgr (Nat.le_trans (Nat.le_of_lt hB0) hka0.out.size) (fun q hq => by have := ((owns_below HO0.out hka0.out).lt q hq).1; omega)))
        clear hown8 hgr hnil
        have HE := Lib.hid (show adS b (j + 1) = (ad4 b j acc, outs ++ [adX b j acc], adA b j acc) by rw [adS, if_pos H0h.out, hS.out])
        have HB8 := Lib.hid (HB.out.trans (B8.out.mono hWB))
        go_wp2
        exact ⟨⟨j + 1, _, _, _, _, _, by omega, by go_num, rfl, rfl, HE, H8, Hq8, HB8, by rw [List.length_append, Hol.out]; rfl⟩, by simp [intOf]; omega⟩
      · skip
        have e0 : ((j : Int) == 0) = false := by simp; omega
        have e0' : ¬ (j : Int) = 0 := by omega
        have H0h := Lib.hid h0
        clear h0
        have C5 := Lib.hid (show Calls Try.prog 37 #[.pointer (some ⟨B, 0, none⟩), .int .i16 (adX b j acc), .int .i16 cv] w4 (BP B 66 (ad5 b j acc cv) (((ad4 b j acc).length : Int) + 2) w4) from mxor_any B (ad4 b j acc) (adX b j acc) cv w4 H4.out (by omega))
        go_wp2_with fail
        refine (C5.out).mono ?_
        rintro e w5 ⟨rfl, hs, hb, hk⟩
        have H5 := Lib.hid hs
        have B5 := Lib.hid (B4.out.trans hb)
        have K5 := Lib.hid (K4.out.trans hk)
        clear hs hb hk C5
        have C6 := Lib.hid (show Calls Try.prog 38 #[.pointer (some ⟨B, 0, none⟩), .int .i16 cv, .int .i16 (adX b j acc)] w5 (BP B 66 (ad6 b j acc cv) (((ad5 b j acc cv).length : Int) + 1) w5) from mand_any B (ad5 b j acc cv) cv (adX b j acc) w5 H5.out (by omega))
        go_wp2_with fail
        refine (C6.out).mono ?_
        rintro e w6 ⟨rfl, hs, hb, hk⟩
        have H6 := Lib.hid hs
        have B6 := Lib.hid (B5.out.trans hb)
        have K6 := Lib.hid (K5.out.trans hk)
        clear hs hb hk C6
        have HO1 := Lib.hid (own_KN HO.out K6.out (by decide) HBX.out (by decide))
        have hB1 := H6.out.lt
        have Hsz1 := Lib.hid (show B + 1 ≤ (w6.alloc (.cells #[.int .i16 (((ad4 b j acc).length : Int) + 2)] 46)).heap.size by simp; omega)
        have hka1 := Lib.hid (show Below w6.heap.size w6 (w6.alloc (.cells #[.int .i16 (((ad4 b j acc).length : Int) + 2)] 46)) from kAlloc (Below.refl _ _) _)
        go_wp2_with (at_builtin; refine wpList_append_own _ rfl _ _ 24 rfl (B + 1) 46 j0_ _ 1 2 Try.underlying24 Hj.out Hj1.out Hj2.out Hj3.out rfl (by decide) (.slice va j vc) j (flatSh outs) rfl (owns_below HO1.out hka1.out) ⟨w6.heap.size, 0, none⟩ 1 1 [.int .i16 (((ad4 b j acc).length : Int) + 2)] rfl rfl (World.news_of_block (cs := #[.int .i16 (((ad4 b j acc).length : Int) + 2)]) (heap_alloc_new _ _)) (by simp [Value.oneCell']) ?c1 ?c2 ?c3 ?_)
        case c1 => unfold maxLen; omega
        case c2 => omega
        case c3 => first | exact Hsz1.out | (have h_ := Hsz1.out; rw [World.size_alloc] at h_; exact h_)
        intro v8 w8 hown8 hgr hnil
        obtain ⟨va8, vc8, rfl⟩ := owns_slice hown8
        have Hq8 := Lib.hid (show w8.ownsRow (B + 1) 46 1 (.slice va8 (j + 1) vc8) (outs ++ [((ad4 b j acc).length : Int) + 2]).length (flatSh (outs ++ [((ad4 b j acc).length : Int) + 2])) by rw [flatSh_end, List.length_append, Hol.out]; exact hown8)
        have H8 := Lib.hid ((H6.out.below hka1.out).grown (owns_below HO1.out hka1.out) (by decide) hgr)
        have B8 := Lib.hid (show Below B wr w8 from B6.out.trans ((hka1.out.mono (Nat.le_of_lt hB1)).grown hgr (Nat.le_trans (Nat.le_of_lt hB1) hka1.out.size) (fun q hq => by have := ((owns_below HO1.out hka1.out).lt q hq).1; omega)))
        clear hown8 hgr hnil
        -- the last node
        have C7 := Lib.hid (show Calls Try.prog 36 #[.pointer (some ⟨B, 0, none⟩), .int .i8 2, .int .i16 (adA b j acc), .int .i16 (((ad5 b j acc cv).length : Int) + 1)] w8 (BP B 66 (ad7 b j acc cv) (((ad6 b j acc cv).length : Int)) w8) from add_any B (ad6 b j acc cv) 2 (adA b j acc) (((ad5 b j acc cv).length : Int) + 1) w8 H8.out (by omega))
        go_wp2_with fail
        refine (C7.out).mono ?_
        rintro e w9 ⟨rfl, hs, hb, hk⟩
        obtain ⟨vx8, hx8, -⟩ := H8.out.ex
        have Hq9 := Lib.hid (own_KN Hq8.out hk (by decide) hx8 (by decide))
        clear hx8
        have H9 := Lib.hid hs
        have B9 := Lib.hid (B8.out.trans hb)
        clear hs hb hk C7
        have HE := Lib.hid (show adS b (j + 1) = (ad7 b j acc cv, outs ++ [((ad4 b j acc).length : Int) + 2], ((ad6 b j acc cv).length : Int)) by rw [adS, if_neg H0h.out, hS.out])
        have HB8 := Lib.hid (HB.out.trans (B9.out.mono hWB))
        go_wp2
        exact ⟨⟨j + 1, _, _, _, _, _, by omega, by go_num, rfl, rfl, HE, H9, Hq9, HB8, by rw [List.length_append, Hol.out]; rfl⟩, by simp [intOf]; omega⟩
    · obtain rfl : j = b := by omega
      have hj1 : 1 ≤ j ∧ j ≤ 3 := hb
      have hok := adNet_ok hj1
      have hnet : adNet j = (acc, outs ++ [cv]) := by unfold adNet; rw [hS.out]
      rw [hnet] at hok
      have hnp := netOk_parts hok
      obtain ⟨P, K, hPK⟩ : ∃ P K, simT (2 * j) acc (outs ++ [cv]) = (P, K) := ⟨_, _, rfl⟩
      obtain ⟨hNr, rfl, rfl, rfl⟩ := quad_N (show ((((2 * j : Nat) : Int), P, K, 0) : Int × List Nd × List Int × Int) = (Nr, lr, pr, C) by have h := HQ.out; unfold adQ at h; rw [if_pos rfl, hnet] at h; simp only [hPK] at h; exact h)
      have hP0 : (P, K).1 = P := rfl
      obtain ⟨D, hD⟩ : ∃ D, 2 * j = D := ⟨_, rfl⟩
      rw [hD] at hok hPK hNr
      have HNr := Lib.hid hNr
      clear hNr
      have hD6 : D ≤ 6 := by omega
      have hol2 : (outs ++ [cv]).length = j + 1 := by rw [List.length_append, Hol.out]; rfl
      have Hol2 := Lib.hid hol2
      have hacc := hnp.2.1
      have q64 : IntKind.i64.wrap (2 * (j : Int)) = (D : Int) := by rw [show (2 * (j : Int)) = (D : Int) by omega]; exact IntWalk.i64_in _ (by omega)
      have HSIM := Lib.hid (fun bb g1 g2 c1 c2 W (h0 : NwAt W bb D (.slice (some ⟨g1, 0, none⟩) acc.length c1) (.slice (some ⟨g2, 0, none⟩) (outs ++ [cv]).length c2)) (hn : NK W g1 g2 acc (outs ++ [cv])) => l04Simplify_anyC D bb g1 g2 c1 c2 acc (outs ++ [cv]) W h0 hn hok (P, K) hPK)
      have HBu := hN.out.lt
      clear hol2 hnet hok hnp hPK hP0 hD HQ
      have Hsz0 := Lib.hid (show B + 1 ≤ (wr.alloc (.cells #[.int .i16 cv] 46)).heap.size by simp; omega)
      have hka0 := Lib.hid (show Below wr.heap.size wr (wr.alloc (.cells #[.int .i16 cv] 46)) from kAlloc (Below.refl _ _) _)
      go_wp2_with (at_builtin; refine wpList_append_own _ rfl _ _ 24 rfl (B + 1) 46 j0_ _ 1 2 Try.underlying24 Hj.out Hj1.out Hj2.out Hj3.out rfl (by decide) (.slice va j vc) j (flatSh outs) rfl (owns_below HO.out hka0.out) ⟨wr.heap.size, 0, none⟩ 1 1 [.int .i16 cv] rfl rfl (World.news_of_block (cs := #[.int .i16 cv]) (heap_alloc_new _ _)) (by simp [Value.oneCell']) ?e1 ?e2 ?e3 ?_)
      case e1 => unfold maxLen; omega
      case e2 => omega
      case e3 => first | exact Hsz0.out | (have h_ := Hsz0.out; rw [World.size_alloc] at h_; first | exact h_ | omega)
      intro v8 w8 hown8 hgr hnil
      obtain ⟨ua8, uc8, rfl⟩ := owns_slice hown8
      have hN8 := (hN.out.below hka0.out).grown (owns_below HO.out hka0.out) (by decide) hgr
      have hB8 : Below B wr w8 := (hka0.out.mono (Nat.le_of_lt HBu)).grown hgr (Nat.le_trans (Nat.le_of_lt HBu) hka0.out.size) (fun q hq => by have := ((owns_below HO.out hka0.out).lt q hq).1; omega)
      obtain ⟨vv, hx1, hx2⟩ := hN8.ex
      obtain ⟨g1, c1, rfl, hNd, hz8⟩ := nd_row hx2 hacc.1
      obtain ⟨g2, c2, hu9, hS9, hz9⟩ := own_sh (L := outs ++ [cv]) (by rw [flatSh_end]; exact hown8) (by simp)
      obtain ⟨M, hM⟩ : ∃ M, acc.length = M := ⟨_, rfl⟩
      rw [hM] at hx1
      have HM := Lib.hid hM
      have HMD := Lib.hid (made_ok B D M (j + 1) c1 uc8 (some ⟨g1, 0, none⟩) ua8 w8 hx1 (by omega) (by omega))
      have HNK8 := Lib.hid (show NK w8 g1 g2 acc (outs ++ [cv]) from ⟨hNd, hS9, hz8, hz9⟩)
      have HB8 := Lib.hid hB8
      injection hu9 with e1_ e2_ e3_
      subst e1_ e3_
      clear hown8 hgr hnil hN8 hx1 hx2 hNd hS9 hM hB8 HO hN HBX e2_
      go_wp2_with fail
      refine (HMD.out).mono ?_
      rintro e w9 ⟨rfl, hb9⟩
      have HT0 := Lib.hid (HB.out.trans ((HB8.out.trans (hb9.mono (by have h1 := HB8.out.size; omega))).mono hWB))
      obtain ⟨wX, hwX⟩ : ∃ z, w9.alloc (.cells #[.int .i8 (D : Int), .slice (some ⟨g1, 0, none⟩) M c1, .slice (some ⟨g2, 0, none⟩) (j + 1) uc8] 30) = z := ⟨_, rfl⟩
      have kX : Below w9.heap.size w9 wX := by rw [← hwX]; exact kAlloc (Below.refl _ _) _
      have bM : wX.heap[w9.heap.size]? = some (.cells #[.int .i8 (D : Int), .slice (some ⟨g1, 0, none⟩) M c1, .slice (some ⟨g2, 0, none⟩) (j + 1) uc8] 30 (0, 0)) := by rw [← hwX]; exact nNew _ _
      have HNKX := Lib.hid ((HNK8.out.below hb9).below kX)
      have hnx := NwAt.of bM
      have HTC := Lib.hid (HSIM.out w9.heap.size g1 g2 c1 uc8 wX (by rw [HM.out, Hol2.out]; exact hnx) HNKX.out)
      have HTX := Lib.hid (HT0.out.trans (kX.mono (by have h1 := HT0.out.size; have h2 := HB8.out.size; omega)))
      have rs0 := (HTX.out.block w.heap.size (Nat.lt_succ_self _)).trans HBR.out
      have HRS := Lib.hid rs0
      have lR := blk_lt rs0
      have HwX := Lib.hid hwX
      have HBM := Lib.hid bM
      clear hwX kX bM hnx rs0 HB HB8 hb9 HMD HNK8 HSIM
      go_upto_region 21 with fail
      try rw [HwX.out]
      obtain ⟨z0, z1, z2⟩ := NwAt.of HBM.out
      have lz := blk_lt HBM.out
      clear HwX
      go_wp2_with fail
      refine (HTC.out).mono ?_
      rintro e w3 ⟨v, u, rfl, hn, hb3⟩
      obtain ⟨va3, vc3, ua3, uc3, rfl, rfl⟩ := hn.form
      have rs_ := blk_below HRS.out hb3
      have HTT := Lib.hid (HTX.out.trans (hb3.mono (Nat.succ_le_of_lt lR)))
      have HNW := Lib.hid ((hn.out (keptRowN (g := w.heap.size) (cs := #[.int .i8 (D : Int), .slice va3 P.length vc3, .slice ua3 K.length uc3])) (.inr (by omega))).mono (show w.heap.size ≤ wX.heap.size by omega) (show w3.heap.size ≤ (w3.setRow w.heap.size #[.int .i8 (D : Int), .slice va3 P.length vc3, .slice ua3 K.length uc3]).heap.size by simp))
      clear z0 z1 z2 lz hn hb3 HTC
      go_wp2_with (refine wpList_store_row rfl 30 _ _ rfl w.heap.size #[.int .i8 (D : Int), .slice va3 P.length vc3, .slice ua3 K.length uc3] rfl rfl 30 _ rs_ (by kernel_rfl) (by kernel_rfl) (by kernel_rfl) ?_)
      refine bodyPost_ret (v := .tuple #[.agg #[.int .i8 (D : Int), .slice va3 P.length vc3, .slice ua3 K.length uc3], .int .i64 0]) (results_cell_tmp rfl _ _ w.heap.size 30 #[.int .i8 (D : Int), .slice va3 P.length vc3, .slice ua3 K.length uc3] (0, 0) _ _ rfl rfl (setRow_heap _ _ _ _ _ _ rs_) Try.underlying30 rfl (by kernel_rfl)) rfl ?_
      exact ⟨_, _, by rw [← HNr.out], HNW.out, kRowW (HK0.out.trans (HTT.out.mono (Nat.le_succ _))) (Nat.le_refl _) _⟩
set_option maxRecDepth 100000 in
set_option maxHeartbeats 4000000 in
theorem implAdder_bad (n : Int) (w : World) (hb : n < 1 ∨ 3 < n) (Nr : Int) (lr : List Nd) (pr : List Int) (C : Int) (hQ : adQ false n.toNat = (Nr, lr, pr, C)) :
    Calls Try.prog 14 #[.int .i64 n] w fun e w' => ∃ v u, e = .returned (.tuple #[.agg #[.int .i8 Nr, v, u], .int .i64 C]) ∧ NwR w.heap.size w'.heap.size w' lr pr v u ∧ Below w.heap.size w w' := by
  obtain ⟨rfl, rfl, rfl, rfl⟩ := quad_N (show ((0, [], [], 2) : Int × List Nd × List Int × Int) = (Nr, lr, pr, C) from hQ)
  have rs_ : (w.alloc (.cells #[.int .i8 0, .slice none 0 0, .slice none 0 0] 30)).heap[w.heap.size]? = some (.cells #[.int .i8 0, .slice none 0 0, .slice none 0 0] 30 (0, 0)) := heap_alloc_new _ _
  have hz : w.heap.size ≤ ((w.alloc (.cells #[.int .i8 0, .slice none 0 0, .slice none 0 0] 30)).setRow w.heap.size #[.int .i8 0, .slice none 0 0, .slice none 0 0]).heap.size := by simp
  rcases hb with hb | hb
  · skip
    have e1 : decide (n < (1 : Int)) = true := by simp; omega
    clear hQ
    go_enter Try.func14, Try.ntmps14
    go_wp2_with (refine wpList_store_row rfl 30 _ _ rfl w.heap.size #[.int .i8 0, .slice none 0 0, .slice none 0 0] rfl rfl 30 _ rs_ (by kernel_rfl) (by kernel_rfl) (by kernel_rfl) ?_)
    refine bodyPost_ret (v := .tuple #[.agg #[.int .i8 0, .slice none 0 0, .slice none 0 0], .int .i64 2]) (results_cell_tmp rfl _ _ w.heap.size 30 #[.int .i8 0, .slice none 0 0, .slice none 0 0] (0, 0) _ _ rfl rfl (setRow_heap _ _ _ _ _ _ rs_) Try.underlying30 rfl (by kernel_rfl)) rfl ?_
    exact ⟨_, _, rfl, nwr_nil hz, kRowW (kAlloc (Below.refl _ _) _) (Nat.le_refl _) _⟩
  · skip
    have e0 : ¬ n < (1 : Int) := by omega
    have e1 : decide (n < (1 : Int)) = false := by simp; omega
    have e2 : decide ((3 : Int) < n) = true := by simp; omega
    clear hQ
    go_enter Try.func14, Try.ntmps14
    go_wp2_with (refine wpList_store_row rfl 30 _ _ rfl w.heap.size #[.int .i8 0, .slice none 0 0, .slice none 0 0] rfl rfl 30 _ rs_ (by kernel_rfl) (by kernel_rfl) (by kernel_rfl) ?_)
    refine bodyPost_ret (v := .tuple #[.agg #[.int .i8 0, .slice none 0 0, .slice none 0 0], .int .i64 2]) (results_cell_tmp rfl _ _ w.heap.size 30 #[.int .i8 0, .slice none 0 0, .slice none 0 0] (0, 0) _ _ rfl rfl (setRow_heap _ _ _ _ _ _ rs_) Try.underlying30 rfl (by kernel_rfl)) rfl ?_
    exact ⟨_, _, rfl, nwr_nil hz, kRowW (kAlloc (Below.refl _ _) _) (Nat.le_refl _) _⟩
set_option maxRecDepth 100000 in
set_option maxHeartbeats 4000000 in
theorem specAdder_bad (n : Int) (w : World) (hb : n < 1 ∨ 3 < n) (Nr : Int) (lr : List Nd) (pr : List Int) (C : Int) (hQ : adQ false n.toNat = (Nr, lr, pr, C)) :
    Calls Try.prog 13 #[.int .i64 n] w fun e w' => ∃ v u, e = .returned (.tuple #[.agg #[.int .i8 Nr, v, u], .int .i64 C]) ∧ NwR w.heap.size w'.heap.size w' lr pr v u ∧ Below w.heap.size w w' := by
  obtain ⟨rfl, rfl, rfl, rfl⟩ := quad_N (show ((0, [], [], 2) : Int × List Nd × List Int × Int) = (Nr, lr, pr, C) from hQ)
  have rs_ : (w.alloc (.cells #[.int .i8 0, .slice none 0 0, .slice none 0 0] 30)).heap[w.heap.size]? = some (.cells #[.int .i8 0, .slice none 0 0, .slice none 0 0] 30 (0, 0)) := heap_alloc_new _ _
  have hz : w.heap.size ≤ ((w.alloc (.cells #[.int .i8 0, .slice none 0 0, .slice none 0 0] 30)).setRow w.heap.size #[.int .i8 0, .slice none 0 0, .slice none 0 0]).heap.size := by simp
  have HIN := Lib.hid (l00In_no n 1 3 (w.alloc (.cells #[.int .i8 0, .slice none 0 0, .slice none 0 0] 30)) hb)
  clear hb hQ
  go_enter Try.func13, Try.ntmps13
  go_wp2_with fail
  refine (HIN.out).mono ?_
  rintro e w1 ⟨rfl, rfl⟩
  clear HIN
  go_wp2_with (refine wpList_store_row rfl 30 _ _ rfl w.heap.size #[.int .i8 0, .slice none 0 0, .slice none 0 0] rfl rfl 30 _ rs_ (by kernel_rfl) (by kernel_rfl) (by kernel_rfl) ?_)
  refine bodyPost_ret (v := .tuple #[.agg #[.int .i8 0, .slice none 0 0, .slice none 0 0], .int .i64 2]) (results_cell_tmp rfl _ _ w.heap.size 30 #[.int .i8 0, .slice none 0 0, .slice none 0 0] (0, 0) _ _ rfl rfl (setRow_heap _ _ _ _ _ _ rs_) Try.underlying30 rfl (by kernel_rfl)) rfl ?_
  exact ⟨_, _, rfl, nwr_nil hz, kRowW (kAlloc (Below.refl _ _) _) (Nat.le_refl _) _⟩
theorem implAdderOf_any (n : Int) (w : World) (R : Bool) (hR : R = decide (1 ≤ n ∧ n ≤ 3)) (Nr : Int) (lr : List Nd) (pr : List Int) (C : Int) (hQ : adQ R n.toNat = (Nr, lr, pr, C)) :
    Calls Try.prog 14 #[.int .i64 n] w fun e w' => ∃ v u, e = .returned (.tuple #[.agg #[.int .i8 Nr, v, u], .int .i64 C]) ∧ NwR w.heap.size w'.heap.size w' lr pr v u ∧ Below w.heap.size w w' := by
  cases R with
  | false => exact implAdder_bad n w (by have := of_decide_eq_false hR.symm; omega) Nr lr pr C hQ
  | true =>
    have hn := of_decide_eq_true hR.symm
    obtain ⟨b, rfl⟩ : ∃ b : Nat, n = b := ⟨n.toNat, by omega⟩
    rw [Int.toNat_natCast] at hQ
    exact implAdder_ok b w (by omega) Nr lr pr C hQ
theorem specAdderOf_any (n : Int) (w : World) (R : Bool) (hR : R = decide (1 ≤ n ∧ n ≤ 3)) (Nr : Int) (lr : List Nd) (pr : List Int) (C : Int) (hQ : adQ R n.toNat = (Nr, lr, pr, C)) :
    Calls Try.prog 13 #[.int .i64 n] w fun e w' => ∃ v u, e = .returned (.tuple #[.agg #[.int .i8 Nr, v, u], .int .i64 C]) ∧ NwR w.heap.size w'.heap.size w' lr pr v u ∧ Below w.heap.size w w' := by
  cases R with
  | false => exact specAdder_bad n w (by have := of_decide_eq_false hR.symm; omega) Nr lr pr C hQ
  | true =>
    have hn := of_decide_eq_true hR.symm
    obtain ⟨b, rfl⟩ : ∃ b : Nat, n = b := ⟨n.toNat, by omega⟩
    rw [Int.toNat_natCast] at hQ
    exact specAdder_ok b w (by omega) Nr lr pr C hQ
end Go.Proofs.Ytdnjamlibnmpfaa
