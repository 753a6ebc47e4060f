/- BoardText: the program. -/
import Derived.Test.YtobhppkcgioheaaDoorBt0
import Derived.StillTailTactics
namespace Go.Proofs.YtobhppkcgioheaaDoor
open Go.ChangeShapes Go.WideShapes Go.ChangeAt Go.RowKit Go.Joins Go.Deep
set_option linter.unusedVariables false
set_option linter.unusedSimpArgs false

theorem kind_at {w : World} (h : KindAt w) {k : Nat} (hk : k < 6) : w.cell? ⟨3, k, none⟩ = some (.string (bsT (kindWL (k : Int)))) := h.1 k hk
set_option maxRecDepth 100000 in
set_option maxHeartbeats 8000000 in
theorem implBoardText_any (b n : Nat) (wd hi : Int) (l : List Pc) (w : World) (hn : l.length = n) (hp : PcsAt w b 0 l) (hb : b < w.heap.size) (h8 : All8 l) (hw8 : i8 wd) (hh8 : i8 hi) (hmax : n ≤ 1048576) (R : Bool) (hR : R = boardOk wd hi l) (S : ByteArray) (hS : bsT (btQ R wd hi l) = S) (hst : KindAt w) :
    Calls Tryd.prog 52 #[.agg #[.int .i8 wd, .int .i8 hi, .slice (some ⟨b, 0, none⟩) n n]] w fun e w' => e = .returned (.string S) ∧ Below w.heap.size w w' := by
  obtain ⟨W0, hW⟩ : ∃ W0, w.alloc (.cells #[.int .i8 wd, .int .i8 hi, .slice (some ⟨b, 0, none⟩) n n] 33) = W0 := ⟨_, rfl⟩
  have k0 : Below w.heap.size w W0 := by rw [← hW]; exact kAlloc (Below.refl _ _) _
  have hs0 : w.heap.size + 1 = W0.heap.size := by rw [← hW]; simp
  have bX : W0.heap[w.heap.size]? = some (.cells #[.int .i8 wd, .int .i8 hi, .slice (some ⟨b, 0, none⟩) n n] 33 (0, 0)) := by rw [← hW]; exact heap_alloc_new _ _
  have HBX := Lib.hid (fun W2 (h2 : Below W0.heap.size W0 W2) => blkX bX h2)
  have HP := Lib.hid (fun W2 (h2 : Below W0.heap.size W0 W2) => hp.below (kTrans k0 h2) hb)
  have HV := Lib.hid (fun W2 (h2 : Below W0.heap.size W0 W2) => implValidBoard_any b 0 n n wd hi l W2 hn (hp.below (kTrans k0 h2) hb) (Nat.lt_of_lt_of_le hb (kTrans k0 h2).size) (Nat.le_refl _) h8 hmax R hR)
  have HST := Lib.hid (fun W2 (h2 : Below W0.heap.size W0 W2) => hst.below (kTrans k0 h2))
  have HK0 := Lib.hid k0
  have HW := Lib.hid hW
  have Hn := Lib.hid hn
  have HRR := Lib.hid hR
  have HS := Lib.hid hS
  have hbW : b < W0.heap.size := Nat.lt_of_lt_of_le hb k0.size
  have hsX : w.heap.size < W0.heap.size := by omega
  have x0 : W0.cell? ⟨w.heap.size, 0, none⟩ = some (.int .i8 wd) := cell_of_row _ _ 0 _ _ _ bX
  have x1 : W0.cell? ⟨w.heap.size, 1, none⟩ = some (.int .i8 hi) := cell_of_row _ _ 1 _ _ _ bX
  have x2 : W0.cell? ⟨w.heap.size, 2, none⟩ = some (.slice (some ⟨b, 0, none⟩) n n) := cell_of_row _ _ 2 _ _ _ bX
  clear hn hp hb h8 hR hS hst hW bX k0
  go_enter Tryd.func52, Tryd.ntmps52
  go_upto_region 1 with fail
  try rw [HW.out]
  go_wp2_with fail
  refine (HV.out _ (Below.refl _ _)).mono ?_
  rintro e w1 ⟨rfl, hb1⟩
  have hz1 := hb1.size
  have HB1 := Lib.hid hb1
  clear HV HW x0 x1 x2 hb1
  cases R with
  | false =>
    obtain rfl : (⟨#[]⟩ : ByteArray) = S := by rw [← HS.out]; rfl
    clear HS HRR HP HST HBX
    go_wp2
    go_ret
    exact ⟨rfl, kTrans HK0.out HB1.out⟩
  | true =>
    have hs := bd_sides HRR.out.symm
    have HS2 := Lib.hid (show bsT (bdL wd hi l) = S from HS.out)
    have hn200 : n ≤ 200 := by rw [← Hn.out]; exact hs.2.2.2.2
    have HIN := Lib.hid (fun p (hp : p ∈ l) => pcIn_of HRR.out.symm hp)
    have H0 := Lib.hid (fun W => smallText_any wd W (by omega) (by omega))
    have H1 := Lib.hid (fun W => smallText_any hi W (by omega) (by omega))
    have HLL := Lib.hid (fun r (h : ∀ p ∈ r, pcIn p) => bdL_len (wd := wd) (hi := hi) (by omega) (by omega) r h)
    have hl0 := HLL.out [] (fun p h => absurd h (by simp))
    obtain ⟨w2, hw2⟩ : ∃ z, w1.alloc (.cells #[.pointer none, .slice none 0 0] 140) = z := ⟨_, rfl⟩
    have k2 : Below w1.heap.size w1 w2 := by rw [← hw2]; exact kAlloc (Below.refl _ _) _
    have hBA : BAt w1.heap.size w1.heap.size [] w2 := by rw [← hw2]; exact BAt.fresh w1
    obtain ⟨B, hB⟩ : ∃ B, w1.heap.size = B := ⟨_, rfl⟩
    rw [hB] at hBA
    have HBA := Lib.hid hBA
    have hBW : W0.heap.size ≤ B := by omega
    have HB2 := Lib.hid (kTrans HB1.out k2)
    have Hw2 := Lib.hid hw2
    have HBB := Lib.hid hB
    clear hs HS HRR hw2 hBA hB k2 HB1
    go_upto_region 4 with fail
    try rw [Hw2.out]
    try rw [HBB.out]
    clear Hw2 HBB
    have bX2 := HBX.out _ HB2.out
    have x0 : w2.cell? ⟨w.heap.size, 0, none⟩ = some (.int .i8 wd) := cell_of_row _ _ 0 _ _ _ bX2
    have x1 : w2.cell? ⟨w.heap.size, 1, none⟩ = some (.int .i8 hi) := cell_of_row _ _ 1 _ _ _ bX2
    have lx := blk_lt bX2
    clear bX2
    refine wp_region_still_tail 6 (by kernel_rfl) (by kernel_rfl) ?_
    simp only [List.take_succ_cons, List.take_zero, List.drop_succ_cons, List.drop_zero]
    repeat still_step
    still_call (H0.out _)
    repeat still_step
    still_call (H1.out _)
    repeat still_step
    try refine wpStill_nil ?_
    change wpList _ _ _ _ _ w2.drew
    have HB3 := Lib.hid (show Below W0.heap.size W0 w2.drew from Below.drew HB2.out)
    have HBA3 := Lib.hid (show BAt B B [] w2.drew from HBA.out.below (Below.drew (Below.refl _ _)))
    clear x0 x1 lx HBA HB2 H0 H1
    generalize w2.drew = w3 at HB3 HBA3 ⊢
    obtain ⟨w4, hw4⟩ : ∃ z, w3.alloc (.cells #[.string (bsT (decL wd)), .string (bsT (decL hi))] 9) = z := ⟨_, rfl⟩
    have k4 : Below w3.heap.size w3 w4 := by rw [← hw4]; exact kAlloc (Below.refl _ _) _
    have b4 : w4.heap[w3.heap.size]? = some (.cells #[.string (bsT (decL wd)), .string (bsT (decL hi))] 9 (0, 0)) := by rw [← hw4]; exact nNewX _ _
    have HWL := Lib.hid (wordsLine_any w3.heap.size 0 2 [decL wd, decL hi] w4 (fun j x hx => by
      rw [Nat.zero_add, cell_of_row w4 _ j _ _ _ b4]
      match j, hx with
      | 0, hx => simp at hx; subst hx; rfl
      | 1, hx => simp at hx; subst hx; rfl) (blk_lt b4) (by simp) (by unfold bdL at hl0; rw [List.length_append] at hl0; simp at hl0; omega) (by simp))
    have HB4 := Lib.hid (kTrans HB3.out k4)
    have HBA4 := Lib.hid (HBA3.out.below k4)
    have Hw4 := Lib.hid hw4
    clear hw4 b4 k4 HBA3 HB3
    obtain ⟨LW, hLW⟩ : ∃ z, lineL [decL wd, decL hi] = z := ⟨_, rfl⟩
    have HLW := Lib.hid hLW
    rw [hLW] at HWL
    have hl00 : LW.length ≤ 10 := by rw [← hLW]; unfold bdL at hl0; rw [List.length_append] at hl0; simp at hl0; omega
    clear hLW hl0
    go_wp2_with (go_at_call 90; rw [Hw4.out]; refine HWL.out.mono ?_; rintro e w5 ⟨rfl, hb5⟩; have HB5 := Lib.hid (kTrans HB4.out hb5); have HBA5 := Lib.hid (HBA4.out.below hb5); clear hb5)
    refine (writeStr_any B B [] LW _ HBA5.out (by simp; omega)).mono ?_
    rintro e w6 ⟨rfl, hBA6, hb6⟩
    have HB6 := Lib.hid (HB5.out.trans (hb6.mono hBW))
    have HBA6 := Lib.hid (show BAt B B (bdL wd hi (l.take 0)) w6 by rw [bdL_zero, HLW.out]; simpa using hBA6)
    clear hBA6 hb6 HBA4 HBA5 HB4 HB5 HWL Hw4 HLW hl00
    have bX6 := HBX.out _ HB6.out
    have x2 : w6.cell? ⟨w.heap.size, 2, none⟩ = some (.slice (some ⟨b, 0, none⟩) n n) := cell_of_row _ _ 2 _ _ _ bX6
    have lx := blk_lt bX6
    clear bX6 HBX
    go_wp2
    go_loopw [21] (fun i wr => ∃ j : Nat, j ≤ n ∧ i = .int .i64 j ∧ Hid (BAt B B (bdL wd hi (l.take j)) wr) ∧ Hid (Below W0.heap.size W0 wr)) (fun i _ => n - (intOf i).toNat)
    case atStart => exact ⟨0, by omega, rfl, HBA6, HB6⟩
    case round =>
      clear HBA6 HB6 x2 lx
      obtain ⟨j, hj, rfl, hBA, hB⟩ := hrel
      by_cases hlt : j < n
      · have hlk : j < l.length := by rw [Hn.out]; exact hlt
        obtain ⟨p, hpj⟩ : ∃ p, l[j] = p := ⟨_, rfl⟩
        have hin := HIN.out p (by rw [← hpj]; exact List.getElem_mem hlk)
        have hll := HLL.out (l.take j) (fun q hq => HIN.out q (List.mem_of_mem_take hq))
        rw [List.length_take] at hll
        have hpl := pcLine_len hin
        have HNX := Lib.hid (show bdL wd hi (l.take (j + 1)) = bdL wd hi (l.take j) ++ pcLine p by rw [bdL_succ wd hi hlk, hpj])
        obtain ⟨a0, a1, a2, a3, a4⟩ := (show PcAt wr b (0 + j * 5) p by have h := HP.out wr hB.out j hlk; rw [hpj] at h; exact h)
        simp only [Nat.zero_add] at a0 a1 a2 a3 a4
        have zb := Nat.lt_of_lt_of_le hbW hB.out.size
        unfold pcIn at hin
        have HX := Lib.hid (fun W => smallText_any p.x W (by omega) (by omega))
        have HY := Lib.hid (fun W => smallText_any p.y W (by omega) (by omega))
        have HT := Lib.hid (fun W => smallText_any p.turn W (by omega) (by omega))
        have HD := Lib.hid (fun W => smallText_any p.delay W (by omega) (by omega))
        obtain ⟨kn, hkn⟩ : ∃ kn : Nat, p.kind = kn := ⟨p.kind.toNat, by omega⟩
        have hk6 : kn < 6 := by omega
        have HPL := Lib.hid (show pcLine p = lineL [decL p.x, decL p.y, kindWL (kn : Int), decL p.turn, decL p.delay] by unfold pcLine pcWs; rw [hkn])
        obtain ⟨px, py, pk, pt, pd⟩ := p
        simp only at a0 a1 a2 a3 a4 hin hkn HX HY HT HD
        subst hkn
        obtain ⟨w7, hw7⟩ : ∃ z, wr.alloc (.cells #[.int .i8 px, .int .i8 py, .int .i8 (kn : Int), .int .i8 pt, .int .i8 pd] 80) = z := ⟨_, rfl⟩
        have k7 : Below wr.heap.size wr w7 := by rw [← hw7]; exact kAlloc (Below.refl _ _) _
        have b7 : w7.heap[wr.heap.size]? = some (.cells #[.int .i8 px, .int .i8 py, .int .i8 (kn : Int), .int .i8 pt, .int .i8 pd] 80 (0, 0)) := by rw [← hw7]; exact nNewX _ _
        have HB7 := Lib.hid (kTrans hB.out k7)
        have HBA7 := Lib.hid (hBA.out.below k7)
        have Hw7 := Lib.hid hw7
        clear hw7 hpj hin hB hBA k7
        go_upto_region 8 with fail
        try rw [Hw7.out]
        clear Hw7 a0 a1 a2 a3 a4 zb
        have q0 : w7.cell? ⟨wr.heap.size, 0, none⟩ = some (.int .i8 px) := cell_of_row _ _ 0 _ _ _ b7
        have q1 : w7.cell? ⟨wr.heap.size, 1, none⟩ = some (.int .i8 py) := cell_of_row _ _ 1 _ _ _ b7
        have q2 : w7.cell? ⟨wr.heap.size, 2, none⟩ = some (.int .i8 (kn : Int)) := cell_of_row _ _ 2 _ _ _ b7
        have q3 : w7.cell? ⟨wr.heap.size, 3, none⟩ = some (.int .i8 pt) := cell_of_row _ _ 3 _ _ _ b7
        have q4 : w7.cell? ⟨wr.heap.size, 4, none⟩ = some (.int .i8 pd) := cell_of_row _ _ 4 _ _ _ b7
        have lq := blk_lt b7
        have hst7 := HST.out _ HB7.out
        have ck := kind_at hst7 hk6
        have lg := hst7.2
        have hk60 : (kn : Int) < 6 := by omega
        clear b7 hst7
        refine wp_region_still_tail 18 (by kernel_rfl) (by kernel_rfl) ?_
        simp only [List.take_succ_cons, List.take_zero, List.drop_succ_cons, List.drop_zero]
        repeat still_step
        still_call (HX.out _)
        repeat still_step
        still_call (HY.out _)
        repeat still_step
        still_call (HT.out _)
        repeat still_step
        still_call (HD.out _)
        repeat still_step
        try refine wpStill_nil ?_
        change wpList _ _ _ _ _ w7.drew
        have HB8 := Lib.hid (show Below W0.heap.size W0 w7.drew from Below.drew HB7.out)
        have HBA8 := Lib.hid (show BAt B B (bdL wd hi (l.take j)) w7.drew from HBA7.out.below (Below.drew (Below.refl _ _)))
        clear q0 q1 q2 q3 q4 lq ck lg HBA7 HB7 HX HY HT HD
        generalize w7.drew = w8 at HB8 HBA8 ⊢
        obtain ⟨w9, hw9⟩ : ∃ z, w8.alloc (.cells #[.string (bsT (decL px)), .string (bsT (decL py)), .string (bsT (kindWL (kn : Int))), .string (bsT (decL pt)), .string (bsT (decL pd))] 9) = z := ⟨_, rfl⟩
        have k9 : Below w8.heap.size w8 w9 := by rw [← hw9]; exact kAlloc (Below.refl _ _) _
        have b9 : w9.heap[w8.heap.size]? = some (.cells #[.string (bsT (decL px)), .string (bsT (decL py)), .string (bsT (kindWL (kn : Int))), .string (bsT (decL pt)), .string (bsT (decL pd))] 9 (0, 0)) := by rw [← hw9]; exact nNewX _ _
        have HWL := Lib.hid (wordsLine_any w8.heap.size 0 5 [decL px, decL py, kindWL (kn : Int), decL pt, decL pd] w9 (fun j x hx => by
          rw [Nat.zero_add, cell_of_row w9 _ j _ _ _ b9]
          match j, hx with
          | 0, hx => simp at hx; subst hx; rfl
          | 1, hx => simp at hx; subst hx; rfl
          | 2, hx => simp at hx; subst hx; rfl
          | 3, hx => simp at hx; subst hx; rfl
          | 4, hx => simp at hx; subst hx; rfl) (blk_lt b9) (by simp) (by rw [← HPL.out]; omega) (by simp))
        rw [← HPL.out] at HWL
        have HB9 := Lib.hid (kTrans HB8.out k9)
        have HBA9 := Lib.hid (HBA8.out.below k9)
        have Hw9 := Lib.hid hw9
        obtain ⟨PL, hPL⟩ : ∃ z, pcLine ⟨px, py, (kn : Int), pt, pd⟩ = z := ⟨_, rfl⟩
        rw [hPL] at HWL HNX hpl
        obtain ⟨AL, hAL⟩ : ∃ z, bdL wd hi (l.take j) = z := ⟨_, rfl⟩
        rw [hAL] at HBA9 HNX hll
        clear hw9 b9 k9 HBA8 HB8 HPL hPL hAL
        go_wp2_with (go_at_call 90; rw [Hw9.out]; refine HWL.out.mono ?_; rintro e w5 ⟨rfl, hb5⟩; have HB5 := Lib.hid (kTrans HB9.out hb5); have HBA5 := Lib.hid (HBA9.out.below hb5); clear hb5)
        refine (writeStr_any B B AL PL _ HBA5.out (by omega)).mono ?_
        rintro e w6 ⟨rfl, hBA6, hb6⟩
        have HB6 := Lib.hid (HB5.out.trans (hb6.mono hBW))
        have HBA6 := Lib.hid (show BAt B B (bdL wd hi (l.take (j + 1))) w6 by rw [HNX.out]; exact hBA6)
        clear hBA6 hb6 HBA9 HBA5 HB9 HB5 HWL Hw9 HNX hll hpl
        go_wp2
        exact ⟨⟨j + 1, by omega, by go_num, HBA6, HB6⟩, by simp [intOf]; omega⟩
      · obtain rfl : j = n := by omega
        have HBA2 := Lib.hid (show BAt B B (bdL wd hi l) wr by have h := hBA.out; rw [List.take_of_length_le (by rw [Hn.out]; exact Nat.le_refl _)] at h; exact h)
        have HQ := Lib.hid (builtStr_any B B (bdL wd hi l) wr HBA2.out)
        rw [HS2.out] at HQ
        clear hBA HBA2 HS2
        go_wp2_with fail
        refine HQ.out.mono ?_
        rintro e w3 ⟨rfl, hb3⟩
        have T3 := Lib.hid (kTrans HK0.out (hB.out.trans (hb3.mono hBW)))
        clear hb3
        go_wp2
        go_ret
        exact ⟨rfl, T3.out⟩
end Go.Proofs.YtobhppkcgioheaaDoor
