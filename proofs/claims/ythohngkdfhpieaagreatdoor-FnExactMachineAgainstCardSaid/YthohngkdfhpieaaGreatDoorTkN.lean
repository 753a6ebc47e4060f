/- The ticks and the outputs of a row: the program. -/
import Derived.Test.YthohngkdfhpieaaGreatDoorPgN
import Derived.Test.YthohngkdfhpieaaGreatDoorIl
import Derived.Test.YthohngkdfhpieaaGreatDoorG18
namespace Go.Proofs.YthohngkdfhpieaaGreatDoor
open Go.ChangeShapes Go.WideShapes Go.ChangeAt Go.RowKit Go.Joins Go.Deep
set_option linter.unusedVariables false
set_option linter.unusedSimpArgs false

set_option maxRecDepth 100000 in
set_option maxHeartbeats 16000000 in
theorem ticksN_any  (B b k q m n r : Nat) (wd hi row : Int) (l : List Pc) (p : List Po) (c : List Cl) (t : List Int) (w : World) (hd : DvAt w B b k q l p c) (hm : l.length = m) (hn1 : p.length = n) (hr0 : c.length = r) (hr : t.length = n) (hto : ∀ W, Below w.heap.size w W → ∀ (j : Nat) (hj : j < t.length), Calls Tryz.prog 41 #[.int .i64 j] W fun e w' => e = .returned (.int .i64 t[j]) ∧ W = w')
    (h6 : n ≤ 6) (hr8 : r ≤ 8) (hrow : 0 ≤ row ∧ row ≤ 64) (hl : lateAll t = true) (lr : List Fl) (hrun : RowRun wd hi row l p c t lr) (L : List Int) (hL : ticksL l lr c = L) :
    Calls Tryz.prog 106 #[.agg #[.int .i8 wd, .int .i8 hi, .map (some B), .int .i8 wd, .int .i8 hi, .slice (some ⟨b, 0, none⟩) m m, .slice (some ⟨k, 0, none⟩) n n, .slice (some ⟨q, 0, none⟩) r r], .int .i64 row, .func (.func 41) #[] #[]] w fun e w' => ∃ v, e = .returned v ∧ SlWIn w.heap.size w'.heap.size w' L v ∧ Below w.heap.size w w' := by
  obtain ⟨i0, hi0, hz0, hzz1, hzz2⟩ := info_parts info_i64n
  obtain ⟨W, hW⟩ : ∃ W, w.alloc (.cells #[.int .i8 wd, .int .i8 hi, .map (some B), .int .i8 wd, .int .i8 hi, .slice (some ⟨b, 0, none⟩) m m, .slice (some ⟨k, 0, none⟩) n n, .slice (some ⟨q, 0, none⟩) r r] 89) = W := ⟨_, rfl⟩
  have kW : Below w.heap.size w W := by rw [← hW]; exact kAlloc (Below.refl _ _) _
  have bD : W.heap[w.heap.size]? = some (.cells #[.int .i8 wd, .int .i8 hi, .map (some B), .int .i8 wd, .int .i8 hi, .slice (some ⟨b, 0, none⟩) m m, .slice (some ⟨k, 0, none⟩) n n, .slice (some ⟨q, 0, none⟩) r r] 89 (0, 0)) := by rw [← hW]; exact heap_alloc_new _ _
  have HFa := Lib.hid (fallsN_any  B b k q m n r wd hi row l p c t W (hd.below kW) hm hn1 hr0 hr (fun W3 h3 => hto W3 (kTrans kW h3)) h6 hrow hl lr hrun)
  have HD := Lib.hid (fun W2 (h2 : Below w.heap.size w W2) => hd.below h2)
  have HRn := Lib.hid hrun
  have Hc := Lib.hid hr0
  have Hm := Lib.hid hm
  have HLt := Lib.hid (show L.length = r by rw [← hL, ticksL_length, hr0])
  have HLg : Hid (∀ (i : Nat) (h : i < L.length) (h' : i < c.length), L[i] = tickAt l lr c[i]) := Lib.hid (by subst hL; exact fun i h h' => ticksL_get l lr c i h h')
  have HW := Lib.hid hW
  have c0 : W.cell? ⟨w.heap.size, 0, none⟩ = some (.int .i8 wd) := cell_of_row _ _ 0 _ _ _ bD
  have c1 : W.cell? ⟨w.heap.size, 1, none⟩ = some (.int .i8 hi) := cell_of_row _ _ 1 _ _ _ bD
  have c2 : W.cell? ⟨w.heap.size, 2, none⟩ = some (.map (some B)) := cell_of_row _ _ 2 _ _ _ bD
  have c3 : W.cell? ⟨w.heap.size, 3, none⟩ = some (.int .i8 wd) := cell_of_row _ _ 3 _ _ _ bD
  have c4 : W.cell? ⟨w.heap.size, 4, none⟩ = some (.int .i8 hi) := cell_of_row _ _ 4 _ _ _ bD
  have c5 : W.cell? ⟨w.heap.size, 5, none⟩ = some (.slice (some ⟨b, 0, none⟩) m m) := cell_of_row _ _ 5 _ _ _ bD
  have c6 : W.cell? ⟨w.heap.size, 6, none⟩ = some (.slice (some ⟨k, 0, none⟩) n n) := cell_of_row _ _ 6 _ _ _ bD
  have c7 : W.cell? ⟨w.heap.size, 7, none⟩ = some (.slice (some ⟨q, 0, none⟩) r r) := cell_of_row _ _ 7 _ _ _ bD
  have lD := blk_lt bD
  have BD := Lib.hid bD
  have hm6 : m ≤ 200 := by have := boardOk_len (show boardOk wd hi l = true by have := hrun.ok; simp at this; exact this.1); omega
  clear hW bD hd hm hn1 hr0 hr hto hl hrun hL
  go_enter Tryz.func106, Tryz.ntmps106
  go_upto_region 1 with fail
  try rw [HW.out]
  go_wp2_with fail
  refine HFa.out.mono ?_
  rintro e w1 ⟨g, rfl, hfl, hg1, hg2, hfz, hb1⟩
  have T1 := kTrans kW hb1
  have bD1 := blk_below BD.out hb1
  have lD1 := blk_lt bD1
  have Hfl := Lib.hid hfl
  have BD1 := Lib.hid bD1
  have hs1 := hb1.size
  clear c0 c1 c2 c3 c4 c5 c6 c7 HFa HW BD hfl hfz hb1
  have c0 : w1.cell? ⟨w.heap.size, 0, none⟩ = some (.int .i8 wd) := cell_of_row _ _ 0 _ _ _ bD1
  have c1 : w1.cell? ⟨w.heap.size, 1, none⟩ = some (.int .i8 hi) := cell_of_row _ _ 1 _ _ _ bD1
  have c2 : w1.cell? ⟨w.heap.size, 2, none⟩ = some (.map (some B)) := cell_of_row _ _ 2 _ _ _ bD1
  have c3 : w1.cell? ⟨w.heap.size, 3, none⟩ = some (.int .i8 wd) := cell_of_row _ _ 3 _ _ _ bD1
  have c4 : w1.cell? ⟨w.heap.size, 4, none⟩ = some (.int .i8 hi) := cell_of_row _ _ 4 _ _ _ bD1
  have c5 : w1.cell? ⟨w.heap.size, 5, none⟩ = some (.slice (some ⟨b, 0, none⟩) m m) := cell_of_row _ _ 5 _ _ _ bD1
  have c6 : w1.cell? ⟨w.heap.size, 6, none⟩ = some (.slice (some ⟨k, 0, none⟩) n n) := cell_of_row _ _ 6 _ _ _ bD1
  have c7 : w1.cell? ⟨w.heap.size, 7, none⟩ = some (.slice (some ⟨q, 0, none⟩) r r) := cell_of_row _ _ 7 _ _ _ bD1
  clear bD1
  go_wp2_with (refine wpList_make_full _ rfl _ _ 31 rfl w1.heap.size 2 i0 _ 1 Tryz.underlying31 hi0 hz0 hzz1 _ _ _ _ r rfl rfl rfl rfl ?c1 ?c2 ?c3 ?_)
  case c1 => rw [hzz2]; omega
  case c2 => unfold maxLen; omega
  case c3 => exact Nat.le_refl _
  intro w2 hown hgr
  have hF : FilledIn w2 w1.heap.size 0 r L 0 := FilledIn.made (w' := w1) (v := .int .i64 0) hown
  have hB : Below w1.heap.size w1 w2 := (Below.refl _ _).grown hgr (Nat.le_refl _) (by intro k hk; cases hk)
  have HF := Lib.hid hF
  have lD2 := Nat.lt_of_lt_of_le lD1 hB.size
  clear hown hgr hi0 hz0 hzz1 hzz2 i0 hF c0 c1 c2 c3 c4 c5 c6 c7
  have c0 : w2.cell? ⟨w.heap.size, 0, none⟩ = some (.int .i8 wd) := cell_of_row _ _ 0 _ _ _ (blk_below BD1.out hB)
  have c1 : w2.cell? ⟨w.heap.size, 1, none⟩ = some (.int .i8 hi) := cell_of_row _ _ 1 _ _ _ (blk_below BD1.out hB)
  have c2 : w2.cell? ⟨w.heap.size, 2, none⟩ = some (.map (some B)) := cell_of_row _ _ 2 _ _ _ (blk_below BD1.out hB)
  have c3 : w2.cell? ⟨w.heap.size, 3, none⟩ = some (.int .i8 wd) := cell_of_row _ _ 3 _ _ _ (blk_below BD1.out hB)
  have c4 : w2.cell? ⟨w.heap.size, 4, none⟩ = some (.int .i8 hi) := cell_of_row _ _ 4 _ _ _ (blk_below BD1.out hB)
  have c5 : w2.cell? ⟨w.heap.size, 5, none⟩ = some (.slice (some ⟨b, 0, none⟩) m m) := cell_of_row _ _ 5 _ _ _ (blk_below BD1.out hB)
  have c6 : w2.cell? ⟨w.heap.size, 6, none⟩ = some (.slice (some ⟨k, 0, none⟩) n n) := cell_of_row _ _ 6 _ _ _ (blk_below BD1.out hB)
  have c7 : w2.cell? ⟨w.heap.size, 7, none⟩ = some (.slice (some ⟨q, 0, none⟩) r r) := cell_of_row _ _ 7 _ _ _ (blk_below BD1.out hB)
  go_wp2
  clear c0 c1 c2 c3 c4 c5 c6 c7
  go_loopw [9, 10, 24] (fun _ _ i wr => ∃ j : Nat, j ≤ r ∧ i = .int .i64 j ∧ Hid (FilledIn wr w1.heap.size 0 r L j) ∧ Below w1.heap.size w1 wr) (fun _ _ i _ => r - (intOf i).toNat)
  case atStart => exact ⟨0, by omega, rfl, HF, hB⟩
  case round =>
    clear HF hB
    obtain ⟨j, hj, rfl, hf, hbr⟩ := hrel
    have Tr := kTrans T1 hbr
    have bDr := blk_below BD1.out hbr
    have c0 : wr.cell? ⟨w.heap.size, 0, none⟩ = some (.int .i8 wd) := cell_of_row _ _ 0 _ _ _ bDr
    have c1 : wr.cell? ⟨w.heap.size, 1, none⟩ = some (.int .i8 hi) := cell_of_row _ _ 1 _ _ _ bDr
    have c2 : wr.cell? ⟨w.heap.size, 2, none⟩ = some (.map (some B)) := cell_of_row _ _ 2 _ _ _ bDr
    have c3 : wr.cell? ⟨w.heap.size, 3, none⟩ = some (.int .i8 wd) := cell_of_row _ _ 3 _ _ _ bDr
    have c4 : wr.cell? ⟨w.heap.size, 4, none⟩ = some (.int .i8 hi) := cell_of_row _ _ 4 _ _ _ bDr
    have c5 : wr.cell? ⟨w.heap.size, 5, none⟩ = some (.slice (some ⟨b, 0, none⟩) m m) := cell_of_row _ _ 5 _ _ _ bDr
    have c6 : wr.cell? ⟨w.heap.size, 6, none⟩ = some (.slice (some ⟨k, 0, none⟩) n n) := cell_of_row _ _ 6 _ _ _ bDr
    have c7 : wr.cell? ⟨w.heap.size, 7, none⟩ = some (.slice (some ⟨q, 0, none⟩) r r) := cell_of_row _ _ 7 _ _ _ bDr
    have lDr := blk_lt bDr
    clear bDr
    by_cases hlt : j < r
    · have hlk : j < c.length := by rw [Hc.out]; exact hlt
      have hlL : j < L.length := by rw [HLt.out]; exact hlt
      have hpa := (HD.out wr Tr).p2 j hlk
      have hgt := HLg.out j hlL hlk
      have hfo := HRn.out.found _ (List.getElem_mem hlk)
      generalize c[j] = x at hpa hgt hfo
      obtain ⟨a0, a1⟩ := hpa
      simp only [Nat.zero_add] at a0 a1
      obtain ⟨kf, hkf⟩ : ∃ kf : Nat, findFrom x.x x.y l 0 = kf := ⟨(findFrom x.x x.y l 0).toNat, by omega⟩
      have hkm : kf < m := by have := Hm.out; omega
      have hkl : kf < lr.length := by have := HRn.out.len; have := Hm.out; omega
      have htk : L[j] = (lr[kf]).tick := by
        rw [hgt]; unfold tickAt; rw [hkf, Int.toNat_natCast, List.getD_eq_getElem?_getD, List.getElem?_eq_getElem hkl]; rfl
      have HFl := Lib.hid (fun W2 (h2 : Below w1.heap.size w1 W2) => ((Hfl.out.below h2 hg2) kf hkl).1)
      generalize lr[kf] = fl at htk HFl
      have HIx := Lib.hid (fun W2 (h2 : Below w.heap.size w W2) => indexAt_any wd hi x.x x.y B l W2 (HD.out W2 h2).mp)
      rw [hkf] at HIx
      have hbx := hf.out.1
      obtain ⟨v0, d0⟩ := hf.out.2.2.1 j hlt
      have f0 := hf.out.2.2.2 j
      have Htk := Lib.hid htk
      have kin : Below wr.heap.size wr (wr.alloc (.cells #[.int .i8 x.x, .int .i8 x.y] 131)) := kAlloc (Below.refl _ _) _
      clear hgt hfo hkf htk d0 f0
      go_wp2_with fail
      refine (HIx.out _ (kTrans Tr kin)).mono ?_
      rintro e w3 ⟨rfl, hb3⟩
      have T3 := kTrans kin hb3
      have hf3 := hf.out.below T3
      have T31 := kTrans hbr T3
      have hfk := HFl.out w3 T31
      simp only [Nat.zero_add] at hfk
      obtain ⟨v0, d0⟩ := hf3.2.2.1 j hlt
      have f0 := hf3.2.2.2 j
      have hb3' := hf3.1
      have HF3 := Lib.hid (hf3.store hlL Htk.out hlt)
      have HB3 := Lib.hid (kSet T31 (show w1.heap.size ≤ (⟨w1.heap.size, 0 + j, none⟩ : Addr).block from Nat.le_refl _) (.int .i64 fl.tick))
      have hg3 := Nat.lt_of_lt_of_le hg2 T31.size
      simp only [Nat.zero_add] at d0 HF3 HB3
      clear c0 c1 c2 c3 c4 c5 c6 c7 a0 a1 HIx hf3 hb3 kin hf
      go_wp2
      exact ⟨⟨j + 1, by omega, by go_num, HF3, HB3.out⟩, by simp [intOf]; omega⟩
    · obtain rfl : j = r := by omega
      have H1 : Hid (SlWIn w.heap.size wr.heap.size wr L (.slice (some ⟨w1.heap.size, 0, none⟩) j j)) := Lib.hid (by
        have h := SlWIn.mk (lo := w.heap.size) (hi := wr.heap.size) (w := wr) (l := L) w1.heap.size 0 j (fun i hi => hf.out.2.1 i hi (by have := HLt.out; omega)) (by have := T1.size; omega) hf.out.1 hf.out.1 hf.out.2.2.2 (by rw [HLt.out]; exact Nat.le_refl _)
        rwa [HLt.out] at h)
      clear hf c0 c1 c2 c3 c4 c5 c6 c7
      go_wp2
      go_ret
      exact ⟨_, rfl, H1.out, Tr⟩
set_option maxRecDepth 100000 in
set_option maxHeartbeats 16000000 in
theorem outputsN_any  (B b k q m n r : Nat) (wd hi row : Int) (l : List Pc) (p : List Po) (c : List Cl) (t : List Int) (w : World) (hd : DvAt w B b k q l p c) (hm : l.length = m) (hn1 : p.length = n) (hr0 : c.length = r) (hr : t.length = n) (hto : ∀ W, Below w.heap.size w W → ∀ (j : Nat) (hj : j < t.length), Calls Tryz.prog 41 #[.int .i64 j] W fun e w' => e = .returned (.int .i64 t[j]) ∧ W = w')
    (h6 : n ≤ 6) (hr8 : r ≤ 8) (hrow : 0 ≤ row ∧ row ≤ 64) (hl : lateAll t = true) (lr : List Fl) (hrun : RowRun wd hi row l p c t lr) (L : List Int) (hL : ticksL l lr c = L) (O : Int) (hO : outsB L 0 0 = O) :
    Calls Tryz.prog 67 #[.agg #[.int .i8 wd, .int .i8 hi, .map (some B), .int .i8 wd, .int .i8 hi, .slice (some ⟨b, 0, none⟩) m m, .slice (some ⟨k, 0, none⟩) n n, .slice (some ⟨q, 0, none⟩) r r], .int .i64 row, .func (.func 41) #[] #[]] w fun e w' => e = .returned (.int .i64 O) ∧ Below w.heap.size w w' := by
  obtain ⟨W, hW⟩ : ∃ W, w.alloc (.cells #[.int .i8 wd, .int .i8 hi, .map (some B), .int .i8 wd, .int .i8 hi, .slice (some ⟨b, 0, none⟩) m m, .slice (some ⟨k, 0, none⟩) n n, .slice (some ⟨q, 0, none⟩) r r] 89) = W := ⟨_, rfl⟩
  have kW : Below w.heap.size w W := by rw [← hW]; exact kAlloc (Below.refl _ _) _
  have bD : W.heap[w.heap.size]? = some (.cells #[.int .i8 wd, .int .i8 hi, .map (some B), .int .i8 wd, .int .i8 hi, .slice (some ⟨b, 0, none⟩) m m, .slice (some ⟨k, 0, none⟩) n n, .slice (some ⟨q, 0, none⟩) r r] 89 (0, 0)) := by rw [← hW]; exact heap_alloc_new _ _
  have HT := Lib.hid (ticksN_any  B b k q m n r wd hi row l p c t W (hd.below kW) hm hn1 hr0 hr (fun W3 h3 => hto W3 (kTrans kW h3)) h6 hr8 hrow hl lr hrun L hL)
  have HSt := Lib.hid (fun W2 (h2 : Below w.heap.size w W2) => (hd.below h2).st)
  have HLt := Lib.hid (show L.length = r by rw [← hL, ticksL_length, hr0])
  have HTk := Lib.hid (show ∀ x ∈ L, x = -1 ∨ (0 ≤ x ∧ x ≤ 2800) by rw [← hL]; exact hrun.ticks_wf)
  have HO0 : Hid (outsB (L.drop 0) 0 0 = O) := Lib.hid hO
  have HW := Lib.hid hW
  have c0 : W.cell? ⟨w.heap.size, 0, none⟩ = some (.int .i8 wd) := cell_of_row _ _ 0 _ _ _ bD
  have c1 : W.cell? ⟨w.heap.size, 1, none⟩ = some (.int .i8 hi) := cell_of_row _ _ 1 _ _ _ bD
  have c2 : W.cell? ⟨w.heap.size, 2, none⟩ = some (.map (some B)) := cell_of_row _ _ 2 _ _ _ bD
  have c3 : W.cell? ⟨w.heap.size, 3, none⟩ = some (.int .i8 wd) := cell_of_row _ _ 3 _ _ _ bD
  have c4 : W.cell? ⟨w.heap.size, 4, none⟩ = some (.int .i8 hi) := cell_of_row _ _ 4 _ _ _ bD
  have c5 : W.cell? ⟨w.heap.size, 5, none⟩ = some (.slice (some ⟨b, 0, none⟩) m m) := cell_of_row _ _ 5 _ _ _ bD
  have c6 : W.cell? ⟨w.heap.size, 6, none⟩ = some (.slice (some ⟨k, 0, none⟩) n n) := cell_of_row _ _ 6 _ _ _ bD
  have c7 : W.cell? ⟨w.heap.size, 7, none⟩ = some (.slice (some ⟨q, 0, none⟩) r r) := cell_of_row _ _ 7 _ _ _ bD
  have lD := blk_lt bD
  clear hW bD hd hm hn1 hr0 hr hto hl hrun hL hO
  go_enter Tryz.func67, Tryz.ntmps67
  go_upto_region 1 with fail
  try rw [HW.out]
  go_wp2_with fail
  refine HT.out.mono ?_
  rintro e w1 ⟨v, rfl, hv, hb1⟩
  have T1 := kTrans kW hb1
  obtain ⟨va, vc, rfl⟩ := hv.form
  have HV := Lib.hid hv.sl
  rw [HLt.out] at HV ⊢
  clear c0 c1 c2 c3 c4 c5 c6 c7 HT HW hv hb1
  go_wp2
  go_loopw [7, 8, 9, 15] (fun x _ _ i wr => ∃ (j : Nat) (a : Int), j ≤ r ∧ i = .int .i64 j ∧ x = .int .i64 a ∧ Hid (outsB (L.drop j) j a = O) ∧ w1 = wr) (fun _ _ _ i _ => r - (intOf i).toNat)
  case atStart => exact ⟨0, 0, by omega, rfl, rfl, HO0, rfl⟩
  case round =>
    clear HO0
    obtain ⟨j, a, hj, rfl, rfl, hf, rfl⟩ := hrel
    obtain ⟨⟨y0, y1, y2⟩, hz⟩ := HSt.out w1 T1
    simp only [stay, Nat.zero_add] at y0 y1 y2
    by_cases hlt : j < r
    · have hlL : j < L.length := by rw [HLt.out]; exact hlt
      obtain ⟨g, o, rfl, hc, hg⟩ : ∃ g o, va = some ⟨g, o, none⟩ ∧ InsAt w1 g o L ∧ g < w1.heap.size := by
        have h := HV.out
        generalize hv : Value.slice va r vc = v at h
        cases h with
        | empty _ _ h => rw [h] at hlL; simp at hlL
        | mk g o c h1 h2 h3 => cases hv; exact ⟨_, _, rfl, h1, h2⟩
      have hle : r ≤ vc := by
        have h := HV.out
        generalize hv : Value.slice (some ⟨g, o, none⟩) r vc = v at h
        cases h with
        | empty _ _ h => rw [h] at hlL; simp at hlL
        | mk g o c h1 h2 h3 => cases hv; have := HLt.out; omega
      have hx := hc j hlL
      have hd : L.drop j = L[j] :: L.drop (j + 1) := List.drop_eq_getElem_cons hlL
      have hr := HTk.out _ (List.getElem_mem hlL)
      generalize L[j] = x at hx hd hr
      have hq := hf.out
      rw [hd] at hq
      clear hd hf hc
      by_cases hs : x = -1
      · have hO2 : Hid (outsB (L.drop (j + 1)) (j + 1) a = O) := Lib.hid (by rw [← hq, outsB_yes hs])
        have hs2 : (x == -1) = true := by simpa using hs
        clear hq
        go_wp2
        exact ⟨⟨j + 1, a, by omega, by go_num, rfl, hO2, trivial⟩, by simp [intOf]; omega⟩
      · have hO2 : Hid (outsB (L.drop (j + 1)) (j + 1) (Go.bits .or .i64 a (shl1 j)) = O) := Lib.hid (by rw [← hq, outsB_no hs])
        have hs2 : (x == -1) = false := by simpa using hs
        have hsh := shl1_lt (show j ≤ 8 by omega)
        clear hq
        go_wp2
        exact ⟨⟨j + 1, _, by omega, by go_num, rfl, hO2, trivial⟩, by simp [intOf]; omega⟩
    · have hOa : a = O := by rw [← hf.out, List.drop_of_length_le (by rw [HLt.out]; omega)]; rfl
      subst hOa
      clear hf
      go_wp2
      go_ret
      exact ⟨rfl, T1⟩
end Go.Proofs.YthohngkdfhpieaaGreatDoor
