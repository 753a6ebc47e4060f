/- AdderOf, the program. -/
import Derived.Test.YtdnjamlibnmpfaaAdm
import Derived.Deep.DeepCutAuto
namespace Go.Proofs.Ytdnjamlibnmpfaa
open Go.ChangeShapes Go.WideShapes Go.ChangeAt Go.RowKit Go.Joins Go.Deep
set_option linter.unusedVariables false
set_option linter.unusedSimpArgs false
theorem own_grown2 {w w' : World} {b s n : Nat} {e : TypeId} {v u : Value} {xs : List Value} (h : w.ownsRow b e s v n xs) (g : w.grownBy w' u.ownBlock) (hu : v.ownBlock = none ∨ v.ownBlock ≠ u.ownBlock) : w'.ownsRow b e s v n xs := by
  refine ⟨h.1, ?_⟩
  rcases h.2 with h5 | ⟨q, cap, cur, rfl, h6, h7, r⟩
  · exact .inl h5
  · exact .inr ⟨q, cap, cur, rfl, h6, (g.block q (blk_lt h7) (fun e => hu.elim (fun h => by cases h) (fun h => h e))).trans h7, r⟩
theorem own_set3b {w : World} {base n size : Nat} {e t : TypeId} {v : Value} {xs : List Value} {B : Nat} {cs : Array Value} (h : w.ownsRow base e size v n xs) (hB : w.heap[B]? = some (.cells cs t (0, 0))) (ht : t ≠ e) (a b c : Value) :
    (((w.setCell ⟨B, 0, none⟩ a).setCell ⟨B, 1, none⟩ b).setCell ⟨B, 2, none⟩ c).ownsRow base e size v n xs :=
  owns_set_far (owns_set_far (owns_set_far h hB ht 0 a) (blk_set_same' hB) ht 1 b) (blk_set_same' (blk_set_same' hB)) ht 2 c
theorem kLow {a b c : World} {k : Nat} (h : Below k a b) (g : Below b.heap.size b c) (hk : k ≤ b.heap.size) : Below k a c := h.trans (g.mono hk)
theorem own_sh {w : World} {base n : Nat} {e : TypeId} {v : Value} {L : List Int} (h : w.ownsRow base e 1 v n (flatSh L)) (h0 : 0 < L.length) : ∃ g cap, v = .slice (some ⟨g, 0, none⟩) n cap ∧ ShsAt w g 0 L ∧ g < w.heap.size := by
  obtain ⟨g, cap, hv, hn, hS, -⟩ := row_sh h h0
  refine ⟨g, cap, hv, fun i hi => ?_, hS.lt⟩
  rw [Nat.zero_add, hS.at_ i hi]
  unfold atP
  rw [List.getD_eq_getElem?_getD, List.getElem?_eq_getElem hi]
  rfl
set_option maxRecDepth 100000 in
set_option maxHeartbeats 8000000 in
theorem implAdder_ok (b : Nat) (w : World) (hb : 1 ≤ b ∧ b ≤ 3) (Nr : Int) (lr : List Nd) (pr : List Int) (C : Int) (hQ : adQ true b = (Nr, lr, pr, C)) :
    Calls Try.prog 14 #[.int .i64 b] w fun e w' => ∃ v u, e = .returned (.tuple #[.agg #[.int .i8 Nr, v, u], .int .i64 C]) ∧ NwR w.heap.size w'.heap.size w' lr pr v u ∧ Below w.heap.size w w' := by
  obtain ⟨j0_, hj0, hj1, hj2, hj3⟩ := info_parts info_i16n
  have Hj := Lib.hid hj0
  have Hj1 := Lib.hid hj1
  have Hj2 := Lib.hid hj2
  have Hj3 := Lib.hid hj3
  obtain ⟨W0, hW⟩ : ∃ W0, (w.alloc (.cells #[.int .i8 0, .slice none 0 0, .slice none 0 0] 30)).alloc (.cells #[.slice none 0 0] 72) = W0 := ⟨_, rfl⟩
  have k0 : Below w.heap.size w W0 := by rw [← hW]; exact kAlloc (kAlloc (Below.refl _ _) _) _
  have bR : W0.heap[w.heap.size]? = some (.cells #[.int .i8 0, .slice none 0 0, .slice none 0 0] 30 (0, 0)) := by rw [← hW]; exact (Below.heap_alloc _ _ _ (by simp)).trans (heap_alloc_new _ _)
  have bB : W0.heap[w.heap.size + 1]? = some (.cells #[.slice none 0 0] 72 (0, 0)) := by rw [← hW]; exact heap_two _ _ _
  have HBR := Lib.hid bR
  have HS0 : Hid (BS W0 (w.heap.size + 1) 72 []) := Lib.hid ⟨_, bB, nilT_owns⟩
  have HK0 := Lib.hid k0
  have HW := Lib.hid hW
  have hsz0 := blk_lt bB
  have HB0 := Lib.hid (show Below (w.heap.size + 1) W0 W0 from Below.refl _ _)
  have HQ := Lib.hid hQ
  have b1 : (1 : Int) ≤ b := by omega
  have b3 : (b : Int) ≤ 3 := by omega
  clear hj0 hj1 hj2 hj3 hW bR bB k0 hQ
  go_enter Try.func14, Try.ntmps14
  go_upto_region 6 with fail
  try rw [HW.out]
  clear HW
  obtain ⟨B, hB⟩ : ∃ B, w.heap.size + 1 = B := ⟨_, rfl⟩
  have HBe := Lib.hid hB
  have hWB : w.heap.size + 1 ≤ B := Nat.le_of_eq hB
  rw [hB] at HS0 HB0 hsz0 ⊢
  clear hB
  go_wp2
  go_loopw [5, 6, 22] (fun o c z wr => ∃ (j : Nat) (acc : List Nd) (outs : List Int) (cv : Int) (va : Option Addr) (vc : Nat), j ≤ b ∧ z = .int .i64 j ∧ o = .slice va j vc ∧ c = .int .i16 cv ∧ Hid (adS b j = (acc, outs, cv)) ∧ Hid (BS wr B 72 acc) ∧ Hid (wr.ownsRow (B + 1) 46 1 (.slice va j vc) outs.length (flatSh outs)) ∧ Hid (Below (w.heap.size + 1) W0 wr) ∧ outs.length = j) (fun _ _ z _ => b - (intOf z).toNat)
  case atStart => exact ⟨0, [], [], 0, _, _, by omega, rfl, rfl, rfl, Lib.hid rfl, HS0, Lib.hid nilT_owns, by first | exact HB0 | exact Lib.hid (Below.refl _ _), rfl⟩
  case round =>
    obtain ⟨j, acc, outs, cv, va, vc, hj, rfl, rfl, rfl, hS, hN, HO, HB, hol⟩ := hrel
    have Hol := Lib.hid hol
    have hla : acc.length ≤ 13 * j := by have h := (adS_len b j).1; rw [hS.out] at h; exact h
    obtain ⟨HBX, hBX⟩ : ∃ cs, wr.heap[B]? = some (.cells cs 72 (0, 0)) := by obtain ⟨v, h1, -⟩ := hN.out.ex; exact ⟨_, h1⟩
    have HBX := Lib.hid hBX
    clear hBX
    rw [hol] at HO
    clear hol HS0 HB0
    by_cases hjb : j < b
    · have hh := ad_lens b j acc cv
      have Hlens := Lib.hid hh
      have hL : acc.length ≤ 39 := by omega
      have hL1 : (ad1 b j acc).length ≤ 60 := by omega
      have hL2 : (ad2 b j acc).length ≤ 60 := by omega
      have hL3 : (ad3 b j acc).length ≤ 60 := by omega
      have hL4 : (ad4 b j acc).length ≤ 60 := by omega
      have hL5 : (ad5 b j acc cv).length ≤ 60 := by omega
      have hL6 : (ad6 b j acc cv).length ≤ 60 := by omega
      have HB00 := Lib.hid (show Below B wr wr from Below.refl _ _)
      have HK00 := Lib.hid (show KN wr wr B from KN.of_below (Below.refl _ _))
      clear hh hla
      have C1 := Lib.hid (show Calls Try.prog 41 #[.pointer (some ⟨B, 0, none⟩), .int .i64 (j : Int)] wr (BP B 72 (ad1 b j acc) ((acc.length : Int)) wr) from bin_any B acc j wr hN.out (by omega) (by omega))
      go_wp2_with fail
      refine (C1.out).mono ?_
      rintro e w1 ⟨rfl, hs, hb, hk⟩
      have H1 := Lib.hid hs
      have B1 := Lib.hid (HB00.out.trans hb)
      have K1 := Lib.hid (HK00.out.trans hk)
      clear hs hb hk C1
      have C2 := Lib.hid (show Calls Try.prog 41 #[.pointer (some ⟨B, 0, none⟩), .int .i64 ((b : Int) + (j : Int))] w1 (BP B 72 (ad2 b j acc) (((ad1 b j acc).length : Int)) w1) from bin_any B (ad1 b j acc) (b + j) w1 H1.out (by omega) (by omega))
      go_wp2_with fail
      refine (C2.out).mono ?_
      rintro e w2 ⟨rfl, hs, hb, hk⟩
      have H2 := Lib.hid hs
      have B2 := Lib.hid (B1.out.trans hb)
      have K2 := Lib.hid (K1.out.trans hk)
      clear hs hb hk C2
      have C3 := Lib.hid (show Calls Try.prog 42 #[.pointer (some ⟨B, 0, none⟩), .int .i16 (acc.length : Int), .int .i16 ((ad1 b j acc).length : Int)] w2 (BP B 72 (ad3 b j acc) (adX b j acc) w2) from bxor_any B (ad2 b j acc) (acc.length : Int) ((ad1 b j acc).length : Int) w2 H2.out (by omega))
      go_wp2_with fail
      refine (C3.out).mono ?_
      rintro e w3 ⟨rfl, hs, hb, hk⟩
      have H3 := Lib.hid hs
      have B3 := Lib.hid (B2.out.trans hb)
      have K3 := Lib.hid (K2.out.trans hk)
      clear hs hb hk C3
      have C4 := Lib.hid (show Calls Try.prog 43 #[.pointer (some ⟨B, 0, none⟩), .int .i16 (acc.length : Int), .int .i16 ((ad1 b j acc).length : Int)] w3 (BP B 72 (ad4 b j acc) (adA b j acc) w3) from band_any B (ad3 b j acc) (acc.length : Int) ((ad1 b j acc).length : Int) w3 H3.out (by omega))
      go_wp2_with fail
      refine (C4.out).mono ?_
      rintro e w4 ⟨rfl, hs, hb, hk⟩
      have H4 := Lib.hid hs
      have B4 := Lib.hid (B3.out.trans hb)
      have K4 := Lib.hid (K3.out.trans hk)
      clear hs hb hk C4
      by_cases h0 : j = 0
      · skip
        have e0 : decide ((0 : Int) < (j : Int)) = false := by simp; omega
        have e0' : ¬ (0 : Int) < (j : Int) := by omega
        have H0h := Lib.hid h0
        clear h0
        have HO0 := Lib.hid (own_KN HO.out K4.out (by decide) HBX.out (by decide))
        have hB0 := H4.out.lt
        have Hsz0 := Lib.hid (show B + 1 ≤ (w4.alloc (.cells #[.int .i16 (adX b j acc)] 46)).heap.size by simp; omega)
        have hka0 := Lib.hid (show Below w4.heap.size w4 (w4.alloc (.cells #[.int .i16 (adX b j acc)] 46)) from kAlloc (Below.refl _ _) _)
        go_wp2_with (at_builtin; refine wpList_append_own _ rfl _ _ 24 rfl (B + 1) 46 j0_ _ 1 2 Try.underlying24 Hj.out Hj1.out Hj2.out Hj3.out rfl (by decide) (.slice va j vc) j (flatSh outs) rfl (owns_below HO0.out hka0.out) ⟨w4.heap.size, 0, none⟩ 1 1 [.int .i16 (adX b j acc)] rfl rfl (World.news_of_block (cs := #[.int .i16 (adX b j acc)]) (heap_alloc_new _ _)) (by simp [Value.oneCell']) ?c1 ?c2 ?c3 ?_)
        case c1 => unfold maxLen; omega
        case c2 => omega
        case c3 => first | exact Hsz0.out | (have h_ := Hsz0.out; rw [World.size_alloc] at h_; exact h_)
        intro v8 w8 hown8 hgr hnil
        obtain ⟨va8, vc8, rfl⟩ := owns_slice hown8
        have Hq8 := Lib.hid (show w8.ownsRow (B + 1) 46 1 (.slice va8 (j + 1) vc8) (outs ++ [adX b j acc]).length (flatSh (outs ++ [adX b j acc])) by rw [flatSh_end, List.length_append, Hol.out]; exact hown8)
        have H8 := Lib.hid ((H4.out.below hka0.out).grown (owns_below HO0.out hka0.out) (by decide) hgr)
        have B8 := Lib.hid (show Below B wr w8 from B4.out.trans ((hka0.out.mono (Nat.le_of_lt hB0)).grown hgr (Nat.le_trans (Nat.le_of_lt hB0) hka0.out.size) (fun q hq => by have := ((owns_below HO0.out hka0.out).lt q hq).1; omega)))
        clear hown8 hgr hnil
        have HE := Lib.hid (show adS b (j + 1) = (ad4 b j acc, outs ++ [adX b j acc], adA b j acc) by rw [adS, if_pos H0h.out, hS.out])
        have HB8 := Lib.hid (HB.out.trans (B8.out.mono hWB))
        go_wp2
        exact ⟨⟨j + 1, _, _, _, _, _, by omega, by go_num, rfl, rfl, HE, H8, Hq8, HB8, by rw [List.length_append, Hol.out]; rfl⟩, by simp [intOf]; omega⟩
      · skip
        have e0 : decide ((0 : Int) < (j : Int)) = true := by simp; omega
        have e0' : (0 : Int) < (j : Int) := by omega
        have H0h := Lib.hid h0
        clear h0
        have C5 := Lib.hid (show Calls Try.prog 42 #[.pointer (some ⟨B, 0, none⟩), .int .i16 (adX b j acc), .int .i16 cv] w4 (BP B 72 (ad5 b j acc cv) (((ad4 b j acc).length : Int) + 2) w4) from bxor_any B (ad4 b j acc) (adX b j acc) cv w4 H4.out (by omega))
        go_wp2_with fail
        refine (C5.out).mono ?_
        rintro e w5 ⟨rfl, hs, hb, hk⟩
        have H5 := Lib.hid hs
        have B5 := Lib.hid (B4.out.trans hb)
        have K5 := Lib.hid (K4.out.trans hk)
        clear hs hb hk C5
        have C6 := Lib.hid (show Calls Try.prog 43 #[.pointer (some ⟨B, 0, none⟩), .int .i16 cv, .int .i16 (adX b j acc)] w5 (BP B 72 (ad6 b j acc cv) (((ad5 b j acc cv).length : Int) + 1) w5) from band_any B (ad5 b j acc cv) cv (adX b j acc) w5 H5.out (by omega))
        go_wp2_with fail
        refine (C6.out).mono ?_
        rintro e w6 ⟨rfl, hs, hb, hk⟩
        have H6 := Lib.hid hs
        have B6 := Lib.hid (B5.out.trans hb)
        have K6 := Lib.hid (K5.out.trans hk)
        clear hs hb hk C6
        have C7 := Lib.hid (show Calls Try.prog 44 #[.pointer (some ⟨B, 0, none⟩), .int .i16 (adA b j acc), .int .i16 (((ad5 b j acc cv).length : Int) + 1)] w6 (BP B 72 (ad7 b j acc cv) (((ad6 b j acc cv).length : Int)) w6) from bor_any B (ad6 b j acc cv) (adA b j acc) (((ad5 b j acc cv).length : Int) + 1) w6 H6.out (by omega))
        go_wp2_with fail
        refine (C7.out).mono ?_
        rintro e w7 ⟨rfl, hs, hb, hk⟩
        have H7 := Lib.hid hs
        have B7 := Lib.hid (B6.out.trans hb)
        have K7 := Lib.hid (K6.out.trans hk)
        clear hs hb hk C7
        have HO1 := Lib.hid (own_KN HO.out K7.out (by decide) HBX.out (by decide))
        have hB1 := H7.out.lt
        have Hsz1 := Lib.hid (show B + 1 ≤ (w7.alloc (.cells #[.int .i16 (((ad4 b j acc).length : Int) + 2)] 46)).heap.size by simp; omega)
        have hka1 := Lib.hid (show Below w7.heap.size w7 (w7.alloc (.cells #[.int .i16 (((ad4 b j acc).length : Int) + 2)] 46)) from kAlloc (Below.refl _ _) _)
        go_wp2_with (at_builtin; refine wpList_append_own _ rfl _ _ 24 rfl (B + 1) 46 j0_ _ 1 2 Try.underlying24 Hj.out Hj1.out Hj2.out Hj3.out rfl (by decide) (.slice va j vc) j (flatSh outs) rfl (owns_below HO1.out hka1.out) ⟨w7.heap.size, 0, none⟩ 1 1 [.int .i16 (((ad4 b j acc).length : Int) + 2)] rfl rfl (World.news_of_block (cs := #[.int .i16 (((ad4 b j acc).length : Int) + 2)]) (heap_alloc_new _ _)) (by simp [Value.oneCell']) ?c1 ?c2 ?c3 ?_)
        case c1 => unfold maxLen; omega
        case c2 => omega
        case c3 => first | exact Hsz1.out | (have h_ := Hsz1.out; rw [World.size_alloc] at h_; exact h_)
        intro v8 w8 hown8 hgr hnil
        obtain ⟨va8, vc8, rfl⟩ := owns_slice hown8
        have Hq8 := Lib.hid (show w8.ownsRow (B + 1) 46 1 (.slice va8 (j + 1) vc8) (outs ++ [((ad4 b j acc).length : Int) + 2]).length (flatSh (outs ++ [((ad4 b j acc).length : Int) + 2])) by rw [flatSh_end, List.length_append, Hol.out]; exact hown8)
        have H8 := Lib.hid ((H7.out.below hka1.out).grown (owns_below HO1.out hka1.out) (by decide) hgr)
        have B8 := Lib.hid (show Below B wr w8 from B7.out.trans ((hka1.out.mono (Nat.le_of_lt hB1)).grown hgr (Nat.le_trans (Nat.le_of_lt hB1) hka1.out.size) (fun q hq => by have := ((owns_below HO1.out hka1.out).lt q hq).1; omega)))
        clear hown8 hgr hnil
        have HE := Lib.hid (show adS b (j + 1) = (ad7 b j acc cv, outs ++ [((ad4 b j acc).length : Int) + 2], ((ad6 b j acc cv).length : Int)) by rw [adS, if_neg H0h.out, hS.out])
        have HB8 := Lib.hid (HB.out.trans (B8.out.mono hWB))
        go_wp2
        exact ⟨⟨j + 1, _, _, _, _, _, by omega, by go_num, rfl, rfl, HE, H8, Hq8, HB8, by rw [List.length_append, Hol.out]; rfl⟩, by simp [intOf]; omega⟩
    · obtain rfl : j = b := by omega
      have hj1 : 1 ≤ j ∧ j ≤ 3 := hb
      have hok := adNet_ok hj1
      have hnet : adNet j = (acc, outs ++ [cv]) := by unfold adNet; rw [hS.out]
      rw [hnet] at hok
      have hnp := netOk_parts hok
      obtain ⟨P, K, hPK⟩ : ∃ P K, simT (2 * j) acc (outs ++ [cv]) = (P, K) := ⟨_, _, rfl⟩
      obtain ⟨rfl, rfl, rfl, rfl⟩ := quad_N (show ((((2 * j : Nat) : Int), P, K, 0) : Int × List Nd × List Int × Int) = (Nr, lr, pr, C) by have h := HQ.out; unfold adQ at h; rw [if_pos rfl, hnet] at h; simp only [hPK] at h; exact h)
      have hP0 : (P, K).1 = P := rfl
      have hol2 : (outs ++ [cv]).length = j + 1 := by rw [List.length_append, Hol.out]; rfl
      obtain ⟨v, hx1, hx2⟩ := hN.out.ex
      have hacc := hnp.2.1
      obtain ⟨g1, c1, rfl, -, -⟩ := nd_row hx2 hacc.1
      obtain ⟨M, hM⟩ : ∃ M, acc.length = M := ⟨_, rfl⟩
      rw [hM] at hx1 hx2
      have HM := Lib.hid hM
      have bx0 := Lib.hid (show wr.drew.heap[B]? = some (.cells #[.slice (some ⟨g1, 0, none⟩) M c1] 72 (0, 0)) from hx1)
      have n0 := Lib.hid (show wr.drew.ownsRow (B + 1) 48 3 (.slice (some ⟨g1, 0, none⟩) M c1) M (flatNd acc) from owns_below hx2 (Below.drew (Below.refl _ _)))
      have o0 := Lib.hid (show wr.drew.ownsRow (B + 1) 46 1 (.slice va j vc) j (flatSh outs) from owns_below HO.out (Below.drew (Below.refl _ _)))
      have K0 := Lib.hid (show Below B wr wr.drew from Below.drew (Below.refl _ _))
      have hB0 : wr.heap[B]? = some (.cells #[.slice (some ⟨g1, 0, none⟩) M c1] 72 (0, 0)) := hx1
      have b0c : wr.cell? ⟨B, 0, none⟩ = some (.slice (some ⟨g1, 0, none⟩) M c1) := cell_of_row _ _ 0 _ _ _ hx1
      have lBw := blk_lt hx1
      have q64 : IntKind.i64.wrap (2 * (j : Int)) = 2 * (j : Int) := IntWalk.i64_in _ (by omega)
      have q8 : IntKind.i8.wrap (2 * (j : Int)) = ((2 * j : Nat) : Int) := by rw [show (2 * (j : Int)) = ((2 * j : Nat) : Int) by omega]; exact IntWalk.i8_in _ (by omega)
      have HSIM := Lib.hid (fun g2 c2 W (hn : NK W g1 g2 acc (outs ++ [cv])) => simplified_any g1 g2 (2 * j) c1 c2 acc (outs ++ [cv]) W hn hok (P, K) hPK)
      have Hol2 := Lib.hid hol2
      clear hx1 hx2 hM hN HO hol2 hnet hok hnp hPK hP0 HBX
      go_upto_region 18 with fail
      go_cut [13] from 54 to 63 (fun s13 wx => ∃ (O : Nat) (ua : Option Addr) (uc : Nat), s13 = .pointer (some ⟨O, 0, none⟩) ∧ wx.heap[O]? = some (.cells #[.int .i8 ((2 * j : Nat) : Int), .slice (some ⟨g1, 0, none⟩) M c1, .slice ua (j + 1) uc] 30 (0, 0)) ∧ wx.ownsRow (B + 1) 48 3 (.slice (some ⟨g1, 0, none⟩) M c1) M (flatNd acc) ∧ wx.ownsRow (B + 1) 46 1 (.slice ua (j + 1) uc) (j + 1) (flatSh outs ++ [.int .i16 cv]) ∧ B + 1 ≤ O ∧ Below B wr wx)
      case first =>
        refine regionW_of_HM (fun W' => W'.heap[B]? = some (.cells #[.slice (some ⟨g1, 0, none⟩) M c1] 72 (0, 0))) (by kernel_rfl) bx0.out (fun hHeld => ?_)
        refine wpAnyH_take (i := 0) (v := .int .i64 (j : Int)) rfl (by kernel_rfl) (by kernel_rfl) (by kernel_rfl) (fun _ _ _ h => absurd h.1 (by simp)) (Or.inl ⟨by rfl, fun w7 hSw => ?_⟩) (by assumption) ?_
        · clear hSw
          go_simp
        try simp only [Act.put, List.setIfInBounds_toArray, List.set_cons_zero, List.set_cons_succ]
        refine wpAnyH_take (i := 1) (v := .int .i64 (2 * (j : Int))) rfl (by kernel_rfl) (by kernel_rfl) (by kernel_rfl) (fun _ _ _ h => absurd h.1 (by simp)) (Or.inl ⟨by rfl, fun w7 hSw => ?_⟩) (by assumption) ?_
        · clear hSw
          go_simp
        try simp only [Act.put, List.setIfInBounds_toArray, List.set_cons_zero, List.set_cons_succ]
        refine wpAnyH_take (i := 2) (v := .int .i8 ((2 * j : Nat) : Int)) rfl (by kernel_rfl) (by kernel_rfl) (by kernel_rfl) (fun _ _ _ h => absurd h.1 (by simp)) (Or.inl ⟨by rfl, fun w7 hSw => ?_⟩) (by assumption) ?_
        · clear hSw
          go_simp
        try simp only [Act.put, List.setIfInBounds_toArray, List.set_cons_zero, List.set_cons_succ]
        refine wpAnyH_take (i := 3) (v := .pointer (some ⟨B, 0, none⟩)) rfl (by kernel_rfl) (by kernel_rfl) (by kernel_rfl) (fun _ _ _ h => absurd h.1 (by simp)) (Or.inl ⟨by rfl, fun w7 hSw => ?_⟩) (by assumption) ?_
        · clear hSw
          go_simp
        try simp only [Act.put, List.setIfInBounds_toArray, List.set_cons_zero, List.set_cons_succ]
        refine wpAnyH_take (i := 4) (v := .slice (some ⟨g1, 0, none⟩) M c1) rfl (by kernel_rfl) (by kernel_rfl) (by kernel_rfl) (fun _ _ _ h => absurd h.1 (by simp)) (Or.inl ⟨by rfl, fun w7 hSw => ?_⟩) (by assumption) ?_
        · have b0c : w7.cell? ⟨B, 0, none⟩ = some (.slice (some ⟨g1, 0, none⟩) M c1) := cell_of_row _ _ 0 _ _ _ hSw
          have lB7 := blk_lt hSw
          clear hSw
          go_simp
        try simp only [Act.put, List.setIfInBounds_toArray, List.set_cons_zero, List.set_cons_succ]
        refine wpAnyH_take (i := 5) (v := .slice va j vc) rfl (by kernel_rfl) (by kernel_rfl) (by kernel_rfl) (fun _ _ _ h => absurd h.1 (by simp)) (Or.inl ⟨by rfl, fun w7 hSw => ?_⟩) (by assumption) ?_
        · clear hSw
          go_simp
        try simp only [Act.put, List.setIfInBounds_toArray, List.set_cons_zero, List.set_cons_succ]
        refine wpAnyH_take (i := 6) (v := .int .i16 cv) rfl (by kernel_rfl) (by kernel_rfl) (by kernel_rfl) (fun _ _ _ h => absurd h.1 (by simp)) (Or.inl ⟨by rfl, fun w7 hSw => ?_⟩) (by assumption) ?_
        · clear hSw
          go_simp
        try simp only [Act.put, List.setIfInBounds_toArray, List.set_cons_zero, List.set_cons_succ]
        clear hHeld b0c hB0
        generalize wr.drew = wd at bx0 n0 o0 K0 ⊢
        refine wpAnyH_ready (rs := [7, 10]) (by kernel_rfl) (by simp) ?_
        refine AllReadyH.cons rfl (fun K hK => ?_) (AllReadyH.cons rfl (fun K hK => ?_) AllReadyH.nil)
        · skip
          go_simp
          obtain ⟨xt1, et1⟩ : ∃ z, wd.alloc (.cells #[.int .i16 cv] 46) = z := ⟨_, rfl⟩
          have kt1 : Below wd.heap.size wd xt1 := by rw [← et1]; exact kAlloc (Below.refl _ _) _
          have bt1 : xt1.heap[wd.heap.size]? = some (.cells #[.int .i16 cv] 46) := by rw [← et1]; exact nNew _ _
          try rw [et1]
          obtain ⟨gt1, ft1⟩ : ∃ z, wd.heap.size = z := ⟨_, rfl⟩
          have Kt1 := Lib.hid (K0.out.trans (kt1.mono (Nat.le_of_lt (blk_lt bx0.out))))
          have lt1 := Lib.hid (show B + 1 ≤ gt1 by rw [← ft1]; exact blk_lt bx0.out)
          rw [ft1] at bt1 ⊢
          have bx_1 := Lib.hid (blk_below bx0.out kt1)
          have n_1 := Lib.hid (owns_below n0.out kt1)
          have o_1 := Lib.hid (owns_below o0.out kt1)
          have e7_1 := Lib.hid bt1
          refine hK.out _ _ bx_1.out (fun _ => ?_)
          clear hK K kt1 bt1 et1 ft1
          refine wpAnyH_ready (rs := [8, 10]) (by kernel_rfl) (by simp) ?_
          refine AllReadyH.cons rfl (fun K hK => ?_) (AllReadyH.cons rfl (fun K hK => ?_) AllReadyH.nil)
          · skip
            refine step_append_own rfl _ _ 24 rfl (B + 1) 46 j0_ _ 1 2 Try.underlying24 Hj.out Hj1.out Hj2.out Hj3.out rfl (by decide) (.slice va j vc) j (flatSh outs) rfl o_1.out ⟨gt1, 0, none⟩ 1 1 [.int .i16 cv] rfl rfl (World.news_of_block (cs := #[.int .i16 cv]) e7_1.out) (by simp [Value.oneCell']) (by unfold maxLen; omega) (by omega) (blk_lt bx_1.out) ?_
            intro vt2 xt2 ot2 rt2 _
            obtain ⟨vat2, vct2, rfl⟩ := owns_slice ot2
            have bx_2 := Lib.hid ((rt2.block _ (blk_lt bx_1.out) (fun e => row_block o_1.out bx_1.out (by decide) e.symm)).trans bx_1.out)
            have n_2 := Lib.hid (own_grown2 n_1.out rt2 (rows_apart n_1.out o_1.out (by decide)))
            have Kt2 := Lib.hid (Kt1.out.trans ⟨rt2.os, rt2.tape, rt2.output, rt2.size, fun k hk => rt2.block k (Nat.lt_trans hk (blk_lt bx_1.out)) (fun e => by have := (o_1.out.lt k e.symm).1; omega)⟩)
            have o_2 := Lib.hid ot2
            refine hK.out _ _ bx_2.out (fun _ => ?_)
            clear hK K ot2 rt2
            refine wpAnyH_take (i := 9) (v := .agg #[.int .i8 ((2 * j : Nat) : Int), .slice (some ⟨g1, 0, none⟩) M c1, .slice vat2 (j + 1) vct2]) rfl (by kernel_rfl) (by kernel_rfl) (by kernel_rfl) (fun _ _ _ h => absurd h.1 (by simp)) (Or.inl ⟨by rfl, fun w7 hSw => ?_⟩) (by assumption) ?_
            · clear hSw
              go_simp
            try simp only [Act.put, List.setIfInBounds_toArray, List.set_cons_zero, List.set_cons_succ]
            refine wpAnyH_ready (rs := [10]) (by kernel_rfl) (by simp) ?_
            refine AllReadyH.cons rfl (fun K hK => ?_) AllReadyH.nil
            · skip
              go_simp
              obtain ⟨xt3, et3⟩ : ∃ z, xt2.alloc (.cells #[.int .i8 0, .slice none 0 0, .slice none 0 0] 30) = z := ⟨_, rfl⟩
              have kt3 : Below xt2.heap.size xt2 xt3 := by rw [← et3]; exact kAlloc (Below.refl _ _) _
              have bt3 : xt3.heap[xt2.heap.size]? = some (.cells #[.int .i8 0, .slice none 0 0, .slice none 0 0] 30) := by rw [← et3]; exact nNew _ _
              try rw [et3]
              obtain ⟨gt3, ft3⟩ : ∃ z, xt2.heap.size = z := ⟨_, rfl⟩
              have Kt3 := Lib.hid (Kt2.out.trans (kt3.mono (Nat.le_of_lt (blk_lt bx_2.out))))
              have lt3 := Lib.hid (show B + 1 ≤ gt3 by rw [← ft3]; exact blk_lt bx_2.out)
              rw [ft3] at bt3 ⊢
              have bx_3 := Lib.hid (blk_below bx_2.out kt3)
              have n_3 := Lib.hid (owns_below n_2.out kt3)
              have o_3 := Lib.hid (owns_below o_2.out kt3)
              have O_3 := Lib.hid bt3
              refine hK.out _ _ bx_3.out (fun _ => ?_)
              clear hK K kt3 bt3 et3 ft3
              refine wpAnyH_ready (rs := [11]) (by kernel_rfl) (by simp) ?_
              refine AllReadyH.cons rfl (fun K hK => ?_) AllReadyH.nil
              · skip
                have q0 : xt3.cell? ⟨gt3, 0, none⟩ = some (.int .i8 0) := cell_of_row _ _ 0 _ _ _ O_3.out
                have q1 : xt3.cell? ⟨gt3, 1, none⟩ = some (.slice none 0 0) := cell_of_row _ _ 1 _ _ _ O_3.out
                have q2 : xt3.cell? ⟨gt3, 2, none⟩ = some (.slice none 0 0) := cell_of_row _ _ 2 _ _ _ O_3.out
                have z0 : xt3.frozen? ⟨gt3, 0, none⟩ = false := frozen_of_row _ _ 0 _ _ O_3.out
                have z1 : xt3.frozen? ⟨gt3, 1, none⟩ = false := frozen_of_row _ _ 1 _ _ O_3.out
                have z2 : xt3.frozen? ⟨gt3, 2, none⟩ = false := frozen_of_row _ _ 2 _ _ O_3.out
                have lz := blk_lt O_3.out
                have hBO : B ≠ gt3 := by have := lt3.out; omega
                go_simp
                refine hK.out _ _ (blk_set (blk_set (blk_set bx_3.out hBO) hBO) hBO) (fun _ => ?_)
                clear hK K q0 q1 q2 z0 z1 z2 lz
                refine wpAnyH_done (by kernel_rfl) ?_ _
                refine ⟨rfl, ?_⟩
                go_wp2_with fail
                go_meet
                exact ⟨gt3, vat2, vct2, rfl, box3_set O_3.out, own_set3b n_3.out O_3.out (by decide) _ _ _, own_set3b o_3.out O_3.out (by decide) _ _ _, lt3.out, ((Kt3.out.setCell (p := ⟨gt3, 0, none⟩) (Nat.le_of_succ_le lt3.out) _).setCell (p := ⟨gt3, 1, none⟩) (Nat.le_of_succ_le lt3.out) _).setCell (p := ⟨gt3, 2, none⟩) (Nat.le_of_succ_le lt3.out) _⟩
          · skip
            go_simp
            obtain ⟨xt2, et2⟩ : ∃ z, xt1.alloc (.cells #[.int .i8 0, .slice none 0 0, .slice none 0 0] 30) = z := ⟨_, rfl⟩
            have kt2 : Below xt1.heap.size xt1 xt2 := by rw [← et2]; exact kAlloc (Below.refl _ _) _
            have bt2 : xt2.heap[xt1.heap.size]? = some (.cells #[.int .i8 0, .slice none 0 0, .slice none 0 0] 30) := by rw [← et2]; exact nNew _ _
            try rw [et2]
            obtain ⟨gt2, ft2⟩ : ∃ z, xt1.heap.size = z := ⟨_, rfl⟩
            have Kt2 := Lib.hid (Kt1.out.trans (kt2.mono (Nat.le_of_lt (blk_lt bx_1.out))))
            have lt2 := Lib.hid (show B + 1 ≤ gt2 by rw [← ft2]; exact blk_lt bx_1.out)
            rw [ft2] at bt2 ⊢
            have bx_2 := Lib.hid (blk_below bx_1.out kt2)
            have n_2 := Lib.hid (owns_below n_1.out kt2)
            have o_2 := Lib.hid (owns_below o_1.out kt2)
            have e7_2 := Lib.hid (blk_below e7_1.out kt2)
            have O_2 := Lib.hid bt2
            refine hK.out _ _ bx_2.out (fun _ => ?_)
            clear hK K kt2 bt2 et2 ft2
            refine wpAnyH_ready (rs := [8]) (by kernel_rfl) (by simp) ?_
            refine AllReadyH.cons rfl (fun K hK => ?_) AllReadyH.nil
            · skip
              refine step_append_own rfl _ _ 24 rfl (B + 1) 46 j0_ _ 1 2 Try.underlying24 Hj.out Hj1.out Hj2.out Hj3.out rfl (by decide) (.slice va j vc) j (flatSh outs) rfl o_2.out ⟨gt1, 0, none⟩ 1 1 [.int .i16 cv] rfl rfl (World.news_of_block (cs := #[.int .i16 cv]) e7_2.out) (by simp [Value.oneCell']) (by unfold maxLen; omega) (by omega) (blk_lt bx_2.out) ?_
              intro vt3 xt3 ot3 rt3 _
              obtain ⟨vat3, vct3, rfl⟩ := owns_slice ot3
              have bx_3 := Lib.hid ((rt3.block _ (blk_lt bx_2.out) (fun e => row_block o_2.out bx_2.out (by decide) e.symm)).trans bx_2.out)
              have n_3 := Lib.hid (own_grown2 n_2.out rt3 (rows_apart n_2.out o_2.out (by decide)))
              have Kt3 := Lib.hid (Kt2.out.trans ⟨rt3.os, rt3.tape, rt3.output, rt3.size, fun k hk => rt3.block k (Nat.lt_trans hk (blk_lt bx_2.out)) (fun e => by have := (o_2.out.lt k e.symm).1; omega)⟩)
              have O_3 := Lib.hid ((rt3.block _ (blk_lt O_2.out) (fun e => row_block o_2.out O_2.out (by decide) e.symm)).trans O_2.out)
              have o_3 := Lib.hid ot3
              refine hK.out _ _ bx_3.out (fun _ => ?_)
              clear hK K ot3 rt3
              refine wpAnyH_take (i := 9) (v := .agg #[.int .i8 ((2 * j : Nat) : Int), .slice (some ⟨g1, 0, none⟩) M c1, .slice vat3 (j + 1) vct3]) rfl (by kernel_rfl) (by kernel_rfl) (by kernel_rfl) (fun _ _ _ h => absurd h.1 (by simp)) (Or.inl ⟨by rfl, fun w7 hSw => ?_⟩) (by assumption) ?_
              · clear hSw
                go_simp
              try simp only [Act.put, List.setIfInBounds_toArray, List.set_cons_zero, List.set_cons_succ]
              refine wpAnyH_ready (rs := [11]) (by kernel_rfl) (by simp) ?_
              refine AllReadyH.cons rfl (fun K hK => ?_) AllReadyH.nil
              · skip
                have q0 : xt3.cell? ⟨gt2, 0, none⟩ = some (.int .i8 0) := cell_of_row _ _ 0 _ _ _ O_3.out
                have q1 : xt3.cell? ⟨gt2, 1, none⟩ = some (.slice none 0 0) := cell_of_row _ _ 1 _ _ _ O_3.out
                have q2 : xt3.cell? ⟨gt2, 2, none⟩ = some (.slice none 0 0) := cell_of_row _ _ 2 _ _ _ O_3.out
                have z0 : xt3.frozen? ⟨gt2, 0, none⟩ = false := frozen_of_row _ _ 0 _ _ O_3.out
                have z1 : xt3.frozen? ⟨gt2, 1, none⟩ = false := frozen_of_row _ _ 1 _ _ O_3.out
                have z2 : xt3.frozen? ⟨gt2, 2, none⟩ = false := frozen_of_row _ _ 2 _ _ O_3.out
                have lz := blk_lt O_3.out
                have hBO : B ≠ gt2 := by have := lt2.out; omega
                go_simp
                refine hK.out _ _ (blk_set (blk_set (blk_set bx_3.out hBO) hBO) hBO) (fun _ => ?_)
                clear hK K q0 q1 q2 z0 z1 z2 lz
                refine wpAnyH_done (by kernel_rfl) ?_ _
                refine ⟨rfl, ?_⟩
                go_wp2_with fail
                go_meet
                exact ⟨gt2, vat3, vct3, rfl, box3_set O_3.out, own_set3b n_3.out O_3.out (by decide) _ _ _, own_set3b o_3.out O_3.out (by decide) _ _ _, lt2.out, ((Kt3.out.setCell (p := ⟨gt2, 0, none⟩) (Nat.le_of_succ_le lt2.out) _).setCell (p := ⟨gt2, 1, none⟩) (Nat.le_of_succ_le lt2.out) _).setCell (p := ⟨gt2, 2, none⟩) (Nat.le_of_succ_le lt2.out) _⟩
        · skip
          go_simp
          obtain ⟨xt1, et1⟩ : ∃ z, wd.alloc (.cells #[.int .i8 0, .slice none 0 0, .slice none 0 0] 30) = z := ⟨_, rfl⟩
          have kt1 : Below wd.heap.size wd xt1 := by rw [← et1]; exact kAlloc (Below.refl _ _) _
          have bt1 : xt1.heap[wd.heap.size]? = some (.cells #[.int .i8 0, .slice none 0 0, .slice none 0 0] 30) := by rw [← et1]; exact nNew _ _
          try rw [et1]
          obtain ⟨gt1, ft1⟩ : ∃ z, wd.heap.size = z := ⟨_, rfl⟩
          have Kt1 := Lib.hid (K0.out.trans (kt1.mono (Nat.le_of_lt (blk_lt bx0.out))))
          have lt1 := Lib.hid (show B + 1 ≤ gt1 by rw [← ft1]; exact blk_lt bx0.out)
          rw [ft1] at bt1 ⊢
          have bx_1 := Lib.hid (blk_below bx0.out kt1)
          have n_1 := Lib.hid (owns_below n0.out kt1)
          have o_1 := Lib.hid (owns_below o0.out kt1)
          have O_1 := Lib.hid bt1
          refine hK.out _ _ bx_1.out (fun _ => ?_)
          clear hK K kt1 bt1 et1 ft1
          refine wpAnyH_ready (rs := [7]) (by kernel_rfl) (by simp) ?_
          refine AllReadyH.cons rfl (fun K hK => ?_) AllReadyH.nil
          · skip
            go_simp
            obtain ⟨xt2, et2⟩ : ∃ z, xt1.alloc (.cells #[.int .i16 cv] 46) = z := ⟨_, rfl⟩
            have kt2 : Below xt1.heap.size xt1 xt2 := by rw [← et2]; exact kAlloc (Below.refl _ _) _
            have bt2 : xt2.heap[xt1.heap.size]? = some (.cells #[.int .i16 cv] 46) := by rw [← et2]; exact nNew _ _
            try rw [et2]
            obtain ⟨gt2, ft2⟩ : ∃ z, xt1.heap.size = z := ⟨_, rfl⟩
            have Kt2 := Lib.hid (Kt1.out.trans (kt2.mono (Nat.le_of_lt (blk_lt bx_1.out))))
            have lt2 := Lib.hid (show B + 1 ≤ gt2 by rw [← ft2]; exact blk_lt bx_1.out)
            rw [ft2] at bt2 ⊢
            have bx_2 := Lib.hid (blk_below bx_1.out kt2)
            have n_2 := Lib.hid (owns_below n_1.out kt2)
            have o_2 := Lib.hid (owns_below o_1.out kt2)
            have O_2 := Lib.hid (blk_below O_1.out kt2)
            have e7_2 := Lib.hid bt2
            refine hK.out _ _ bx_2.out (fun _ => ?_)
            clear hK K kt2 bt2 et2 ft2
            refine wpAnyH_ready (rs := [8]) (by kernel_rfl) (by simp) ?_
            refine AllReadyH.cons rfl (fun K hK => ?_) AllReadyH.nil
            · skip
              refine step_append_own rfl _ _ 24 rfl (B + 1) 46 j0_ _ 1 2 Try.underlying24 Hj.out Hj1.out Hj2.out Hj3.out rfl (by decide) (.slice va j vc) j (flatSh outs) rfl o_2.out ⟨gt2, 0, none⟩ 1 1 [.int .i16 cv] rfl rfl (World.news_of_block (cs := #[.int .i16 cv]) e7_2.out) (by simp [Value.oneCell']) (by unfold maxLen; omega) (by omega) (blk_lt bx_2.out) ?_
              intro vt3 xt3 ot3 rt3 _
              obtain ⟨vat3, vct3, rfl⟩ := owns_slice ot3
              have bx_3 := Lib.hid ((rt3.block _ (blk_lt bx_2.out) (fun e => row_block o_2.out bx_2.out (by decide) e.symm)).trans bx_2.out)
              have n_3 := Lib.hid (own_grown2 n_2.out rt3 (rows_apart n_2.out o_2.out (by decide)))
              have Kt3 := Lib.hid (Kt2.out.trans ⟨rt3.os, rt3.tape, rt3.output, rt3.size, fun k hk => rt3.block k (Nat.lt_trans hk (blk_lt bx_2.out)) (fun e => by have := (o_2.out.lt k e.symm).1; omega)⟩)
              have O_3 := Lib.hid ((rt3.block _ (blk_lt O_2.out) (fun e => row_block o_2.out O_2.out (by decide) e.symm)).trans O_2.out)
              have o_3 := Lib.hid ot3
              refine hK.out _ _ bx_3.out (fun _ => ?_)
              clear hK K ot3 rt3
              refine wpAnyH_take (i := 9) (v := .agg #[.int .i8 ((2 * j : Nat) : Int), .slice (some ⟨g1, 0, none⟩) M c1, .slice vat3 (j + 1) vct3]) rfl (by kernel_rfl) (by kernel_rfl) (by kernel_rfl) (fun _ _ _ h => absurd h.1 (by simp)) (Or.inl ⟨by rfl, fun w7 hSw => ?_⟩) (by assumption) ?_
              · clear hSw
                go_simp
              try simp only [Act.put, List.setIfInBounds_toArray, List.set_cons_zero, List.set_cons_succ]
              refine wpAnyH_ready (rs := [11]) (by kernel_rfl) (by simp) ?_
              refine AllReadyH.cons rfl (fun K hK => ?_) AllReadyH.nil
              · skip
                have q0 : xt3.cell? ⟨gt1, 0, none⟩ = some (.int .i8 0) := cell_of_row _ _ 0 _ _ _ O_3.out
                have q1 : xt3.cell? ⟨gt1, 1, none⟩ = some (.slice none 0 0) := cell_of_row _ _ 1 _ _ _ O_3.out
                have q2 : xt3.cell? ⟨gt1, 2, none⟩ = some (.slice none 0 0) := cell_of_row _ _ 2 _ _ _ O_3.out
                have z0 : xt3.frozen? ⟨gt1, 0, none⟩ = false := frozen_of_row _ _ 0 _ _ O_3.out
                have z1 : xt3.frozen? ⟨gt1, 1, none⟩ = false := frozen_of_row _ _ 1 _ _ O_3.out
                have z2 : xt3.frozen? ⟨gt1, 2, none⟩ = false := frozen_of_row _ _ 2 _ _ O_3.out
                have lz := blk_lt O_3.out
                have hBO : B ≠ gt1 := by have := lt1.out; omega
                go_simp
                refine hK.out _ _ (blk_set (blk_set (blk_set bx_3.out hBO) hBO) hBO) (fun _ => ?_)
                clear hK K q0 q1 q2 z0 z1 z2 lz
                refine wpAnyH_done (by kernel_rfl) ?_ _
                refine ⟨rfl, ?_⟩
                go_wp2_with fail
                go_meet
                exact ⟨gt1, vat3, vct3, rfl, box3_set O_3.out, own_set3b n_3.out O_3.out (by decide) _ _ _, own_set3b o_3.out O_3.out (by decide) _ _ _, lt1.out, ((Kt3.out.setCell (p := ⟨gt1, 0, none⟩) (Nat.le_of_succ_le lt1.out) _).setCell (p := ⟨gt1, 1, none⟩) (Nat.le_of_succ_le lt1.out) _).setCell (p := ⟨gt1, 2, none⟩) (Nat.le_of_succ_le lt1.out) _⟩
      case rest =>
        obtain ⟨O, ua, uc, rfl, hbO, hn9, ho9, hO9, hB9⟩ := hcut
        rename World => wc
        obtain ⟨g2, c2, hu9, hS9, hz9⟩ := own_sh (L := outs ++ [cv]) (by rw [flatSh_end]; exact ho9) (by simp)
        injection hu9 with e1_ e2_ e3_
        subst e1_ e3_
        obtain ⟨g1', c1', hv9, hN9, hz8⟩ := nd_row (l := acc) (by rw [HM.out]; exact hn9) hacc.1
        injection hv9 with e4_ e5_ e6_
        injection e4_ with e4_
        injection e4_ with e4_ e7_ e8_
        subst e4_
        have HNK := Lib.hid (show NK wc g1 g2 acc (outs ++ [cv]) from ⟨hN9, hS9, hz8, hz9⟩)
        have HTC := Lib.hid (HSIM.out g2 uc wc HNK.out)
        rw [HM.out, Hol2.out] at HTC
        have HT0 := Lib.hid (HB.out.trans (hB9.mono hWB))
        have rs0 := (HT0.out.block w.heap.size (Nat.lt_succ_self _)).trans HBR.out
        have HRS := Lib.hid rs0
        have lR := blk_lt rs0
        obtain ⟨z0, z1, z2⟩ := NwAt.of hbO
        have lz := blk_lt hbO
        clear hbO hn9 ho9 hN9 hS9 hB9 HB rs0 e5_ e6_ e7_ e8_ q8 q64 b0c hB0 HNK HSIM
        go_wp2_with fail
        refine (HTC.out).mono ?_
        rintro e w3 ⟨v, u, rfl, hn, hb3⟩
        obtain ⟨va3, vc3, ua3, uc3, rfl, rfl⟩ := hn.form
        have rs_ := blk_below HRS.out hb3
        have HTT := Lib.hid (HT0.out.trans (hb3.mono (Nat.succ_le_of_lt lR)))
        have HNW := Lib.hid ((hn.out (keptRowN (g := w.heap.size) (cs := #[.int .i8 ((2 * j : Nat) : Int), .slice va3 P.length vc3, .slice ua3 K.length uc3])) (.inr (by omega))).mono (show w.heap.size ≤ wc.heap.size by omega) (show w3.heap.size ≤ (w3.setRow w.heap.size #[.int .i8 ((2 * j : Nat) : Int), .slice va3 P.length vc3, .slice ua3 K.length uc3]).heap.size by simp))
        clear z0 z1 z2 lz hn hb3 HTC
        go_wp2_with (refine wpList_store_row rfl 30 _ _ rfl w.heap.size #[.int .i8 ((2 * j : Nat) : Int), .slice va3 P.length vc3, .slice ua3 K.length uc3] rfl rfl 30 _ rs_ (by kernel_rfl) (by kernel_rfl) (by kernel_rfl) ?_)
        refine bodyPost_ret (v := .tuple #[.agg #[.int .i8 ((2 * j : Nat) : Int), .slice va3 P.length vc3, .slice ua3 K.length uc3], .int .i64 0]) (results_cell_tmp rfl _ _ w.heap.size 30 #[.int .i8 ((2 * j : Nat) : Int), .slice va3 P.length vc3, .slice ua3 K.length uc3] (0, 0) _ _ rfl rfl (setRow_heap _ _ _ _ _ _ rs_) Try.underlying30 rfl (by kernel_rfl)) rfl ?_
        exact ⟨_, _, rfl, HNW.out, kRowW (HK0.out.trans (HTT.out.mono (Nat.le_succ _))) (Nat.le_refl _) _⟩
end Go.Proofs.Ytdnjamlibnmpfaa
