/- MachineText: the program. -/
import Derived.Test.YtmllfacgonchnaaDoorMx0
import Derived.Test.YtmllfacgonchnaaDoorBtI
import Derived.Test.YtmllfacgonchnaaDoorDo
import Derived.StillTailTactics
namespace Go.Proofs.YtmllfacgonchnaaDoor
open Go.ChangeShapes Go.WideShapes Go.ChangeAt Go.RowKit Go.Joins Go.Deep
set_option linter.unusedVariables false
set_option linter.unusedSimpArgs false

set_option maxRecDepth 100000 in
set_option maxHeartbeats 16000000 in
theorem implMachineText_any (b k q m n r : Nat) (wd hi : Int) (l : List Pc) (p : List Po) (c : List Cl) (w : World) (hp : PcsAt w b 0 l) (hg : PosAt w k 0 p) (hj : ClsAt w q 0 c) (zb : b < w.heap.size) (zk : k < w.heap.size) (zq : q < w.heap.size) (hm : l.length = m) (hn : p.length = n) (hr : c.length = r) (h8 : All8 l) (hw : PosWf p) (bw : i8 wd) (bh : i8 hi) (m0 : m ≤ 1048576) (m1 : n ≤ 1048576) (m2 : r ≤ 1048576) (R : Bool) (hR : R = machOk wd hi l p c) (S : ByteArray) (hS : bsT (mxQ R wd hi l p c) = S) (hst : KindAt w ∧ SideAt w) :
    Calls Tryd.prog 35 #[.agg #[.int .i8 wd, .int .i8 hi, .slice (some ⟨b, 0, none⟩) m m, .slice (some ⟨k, 0, none⟩) n n, .slice (some ⟨q, 0, none⟩) r r]] w fun e w' => e = .returned (.string S) ∧ Below w.heap.size w w' := by
  obtain ⟨W0, hW⟩ : ∃ W0, w.alloc (.cells #[.int .i8 wd, .int .i8 hi, .slice (some ⟨b, 0, none⟩) m m, .slice (some ⟨k, 0, none⟩) n n, .slice (some ⟨q, 0, none⟩) r r] 73) = W0 := ⟨_, rfl⟩
  have k0 : Below w.heap.size w W0 := by rw [← hW]; exact kAlloc (Below.refl _ _) _
  have hs0 : w.heap.size + 1 = W0.heap.size := by rw [← hW]; simp
  have bX : W0.heap[w.heap.size]? = some (.cells #[.int .i8 wd, .int .i8 hi, .slice (some ⟨b, 0, none⟩) m m, .slice (some ⟨k, 0, none⟩) n n, .slice (some ⟨q, 0, none⟩) r r] 73 (0, 0)) := by rw [← hW]; exact heap_alloc_new _ _
  have HBX := Lib.hid (fun W2 (h2 : Below W0.heap.size W0 W2) => blkX bX h2)
  have HP := Lib.hid (fun W2 (h2 : Below W0.heap.size W0 W2) => hp.below (kTrans k0 h2) zb)
  have HG := Lib.hid (fun W2 (h2 : Below W0.heap.size W0 W2) => hg.below (kTrans k0 h2) zk)
  have HC := Lib.hid (fun W2 (h2 : Below W0.heap.size W0 W2) => hj.below (kTrans k0 h2) zq)
  have zbW : b < W0.heap.size := Nat.lt_of_lt_of_le zb k0.size
  have zkW : k < W0.heap.size := Nat.lt_of_lt_of_le zk k0.size
  have zqW : q < W0.heap.size := Nat.lt_of_lt_of_le zq k0.size
  have HV := Lib.hid (by have h := implValidMachine_any b k q wd hi l p c W0 (hp.below k0 zb) (hg.below k0 zk) (hj.below k0 zq) zbW zkW zqW h8 hw (by omega) (by omega) (by omega) R hR; rw [hm, hn, hr] at h; exact h)
  have HST := Lib.hid (fun W2 (h2 : Below W0.heap.size W0 W2) => (⟨hst.1.below (kTrans k0 h2), hst.2.below (kTrans k0 h2)⟩ : KindAt W2 ∧ SideAt W2))
  have HBT := Lib.hid (fun (W2 : World) (h2 : Below W0.heap.size W0 W2) (hb : boardOk wd hi l = true) => implBoardText_any b m wd hi l W2 hm (hp.below (kTrans k0 h2) zb) (Nat.lt_of_lt_of_le zbW h2.size) h8 bw bh m0 true hb.symm (bsT (bdL wd hi l)) (by unfold btQ; simp) (hst.1.below (kTrans k0 h2)))
  have HK0 := Lib.hid k0
  have HW := Lib.hid hW
  have Hm := Lib.hid hm
  have Hn := Lib.hid hn
  have Hr := Lib.hid hr
  have HRR := Lib.hid hR
  have HS := Lib.hid hS
  have hsX : w.heap.size < W0.heap.size := by omega
  have x0 : W0.cell? ⟨w.heap.size, 0, none⟩ = some (.int .i8 wd) := cell_of_row _ _ 0 _ _ _ bX
  have x1 : W0.cell? ⟨w.heap.size, 1, none⟩ = some (.int .i8 hi) := cell_of_row _ _ 1 _ _ _ bX
  have x2 : W0.cell? ⟨w.heap.size, 2, none⟩ = some (.slice (some ⟨b, 0, none⟩) m m) := cell_of_row _ _ 2 _ _ _ bX
  have x3 : W0.cell? ⟨w.heap.size, 3, none⟩ = some (.slice (some ⟨k, 0, none⟩) n n) := cell_of_row _ _ 3 _ _ _ bX
  have x4 : W0.cell? ⟨w.heap.size, 4, none⟩ = some (.slice (some ⟨q, 0, none⟩) r r) := cell_of_row _ _ 4 _ _ _ bX
  clear hm hn hr hp hg hj zb zk zq h8 hw hR hS hst hW bX k0 bw bh
  go_enter Tryd.func35, Tryd.ntmps35
  go_upto_region 1 with fail
  try rw [HW.out]
  go_wp2_with fail
  refine HV.out.mono ?_
  rintro e w1 ⟨rfl, hb1⟩
  have hz1 := hb1.size
  have HB1 := Lib.hid hb1
  clear HV HW x0 x1 x2 x3 x4 hb1
  cases R with
  | false =>
    obtain rfl : (⟨#[]⟩ : ByteArray) = S := by rw [← HS.out]; rfl
    clear HS HRR HP HG HC HST HBX HBT
    go_wp2
    go_ret
    exact ⟨rfl, kTrans HK0.out HB1.out⟩
  | true =>
    have hpt := mx_parts HRR.out.symm
    rw [Hm.out, Hn.out, Hr.out] at hpt
    have HBO := Lib.hid hpt.1
    have hm60 : l.length ≤ 60 := by rw [Hm.out]; exact hpt.2.1
    have hn6 : p.length ≤ 6 := by rw [Hn.out]; exact hpt.2.2.1
    have hr8 : c.length ≤ 8 := by rw [Hr.out]; exact hpt.2.2.2.1
    have HPI := Lib.hid hpt.2.2.2.2.1
    have HCI := Lib.hid hpt.2.2.2.2.2
    have HS2 := Lib.hid (show bsT (mtL wd hi l p c) = S from HS.out)
    have hl0 := mtL_len (p := []) (c := []) HBO.out hm60 (Nat.zero_le _) (Nat.zero_le _) (fun x h => by cases h) (fun x h => by cases h)
    rw [show mtL wd hi l [] [] = bdL wd hi l by simp [mtL]] at hl0
    clear hpt HRR HS
    obtain ⟨w2, hw2⟩ : ∃ z, w1.alloc (.cells #[.pointer none, .slice none 0 0] 86) = z := ⟨_, rfl⟩
    have k2 : Below w1.heap.size w1 w2 := by rw [← hw2]; exact kAlloc (Below.refl _ _) _
    have hBA : BAt w1.heap.size w1.heap.size [] w2 := by rw [← hw2]; exact BAt.fresh w1
    obtain ⟨B, hB⟩ : ∃ B, w1.heap.size = B := ⟨_, rfl⟩
    rw [hB] at hBA
    have HBA := Lib.hid hBA
    have hBW : W0.heap.size ≤ B := by omega
    have HB2 := Lib.hid (kTrans HB1.out k2)
    have Hw2 := Lib.hid hw2
    have HBB := Lib.hid hB
    clear hw2 hBA hB k2 HB1
    go_upto_region 4 with fail
    try rw [Hw2.out]
    try rw [HBB.out]
    clear Hw2 HBB hz1
    have bX2 := HBX.out _ HB2.out
    have x0 : w2.cell? ⟨w.heap.size, 0, none⟩ = some (.int .i8 wd) := cell_of_row _ _ 0 _ _ _ bX2
    have x1 : w2.cell? ⟨w.heap.size, 1, none⟩ = some (.int .i8 hi) := cell_of_row _ _ 1 _ _ _ bX2
    have x2 : w2.cell? ⟨w.heap.size, 2, none⟩ = some (.slice (some ⟨b, 0, none⟩) m m) := cell_of_row _ _ 2 _ _ _ bX2
    have lx := blk_lt bX2
    clear bX2
    obtain ⟨BL, hBL⟩ : ∃ z, bdL wd hi l = z := ⟨_, rfl⟩
    have HBT2 := Lib.hid (HBT.out w2 HB2.out HBO.out)
    rw [hBL] at HBT2 hl0
    have HBL := Lib.hid hBL
    clear hBL HBT
    go_wp2_with fail
    refine HBT2.out.mono ?_
    rintro e w5 ⟨rfl, hb5⟩
    have HB5 := Lib.hid (kTrans HB2.out hb5)
    have HBA5 := Lib.hid (HBA.out.below hb5)
    clear hb5 HBT2 HBA HB2 x0 x1 x2 lx
    go_wp2_with fail
    refine (writeStr_any B B [] BL _ HBA5.out (by simp; omega)).mono ?_
    rintro e w6 ⟨rfl, hBA6, hb6⟩
    have HB6 := Lib.hid (HB5.out.trans (hb6.mono hBW))
    have HBA6 := Lib.hid (show BAt B B (mtL wd hi l (p.take 0) []) w6 by rw [mtL_zero, HBL.out]; simpa using hBA6)
    clear hBA6 hb6 HBA5 HB5 HBL hl0
    have bX6 := HBX.out _ HB6.out
    have xs_ : w6.cell? ⟨w.heap.size, 3, none⟩ = some (.slice (some ⟨k, 0, none⟩) n n) := cell_of_row _ _ 3 _ _ _ bX6
    have lx_ := blk_lt bX6
    clear bX6
    go_wp2
    go_loopw [18] (fun i wr => ∃ j : Nat, j ≤ n ∧ i = .int .i64 j ∧ Hid (BAt B B (mtL wd hi l (p.take j) []) wr) ∧ Hid (Below W0.heap.size W0 wr)) (fun i _ => n - (intOf i).toNat)
    case atStart => exact ⟨0, by omega, rfl, HBA6, HB6⟩
    case round =>
      clear HBA6 HB6
      obtain ⟨j, hj, rfl, hBA, hB⟩ := hrel
      by_cases hlt : j < n
      · skip
        have hlk : j < p.length := by rw [Hn.out]; exact hlt
        obtain ⟨p_, hpj⟩ : ∃ p_, p[j] = p_ := ⟨_, rfl⟩
        have hin := HPI.out p_ (by rw [← hpj]; exact List.getElem_mem hlk)
        have hll := mtL_len (c := []) HBO.out hm60 (by rw [List.length_take]; omega) (Nat.zero_le _) (take_mem_in HPI.out j) (fun x h => by cases h)
        have hpl := inLine_len hin
        have HNX := Lib.hid (show mtL wd hi l (p.take (j + 1)) [] = mtL wd hi l (p.take j) [] ++ inLine p_ by rw [mtL_in wd hi l hlk, hpj])
        obtain ⟨a0, a1, a2⟩ := (show PoAt wr k (0 + j * 3) p_ by have h := HG.out wr hB.out j hlk; rw [hpj] at h; exact h)
        simp only [Nat.zero_add] at a0 a1 a2
        have zz := Nat.lt_of_lt_of_le zkW hB.out.size
        unfold poIn at hin
        have HX := Lib.hid (fun W => smallText_any p_.x W (by omega) (by omega))
        have HY := Lib.hid (fun W => smallText_any p_.y W (by omega) (by omega))
        obtain ⟨sn, hkn⟩ : ∃ sn : Nat, p_.side = sn := ⟨p_.side.toNat, by omega⟩
        have hs4 : sn < 4 := by omega
        have hs40 : (sn : Int) < 4 := by omega
        have HPD := Lib.hid (show inLine p_ = lineL [[105, 110], decL p_.x, decL p_.y, sideWL (sn : Int)] by unfold inLine inWs; rw [hkn])
        obtain ⟨px, py, ps⟩ := p_
        simp only at a0 a1 a2 hin hkn HX HY HPD
        subst hkn
        obtain ⟨w7, hw7⟩ : ∃ z, wr.alloc (.cells #[.int .i8 px, .int .i8 py, .int .i8 (sn : Int)] 140) = z := ⟨_, rfl⟩
        have k7 : Below wr.heap.size wr w7 := by rw [← hw7]; exact kAlloc (Below.refl _ _) _
        have b7 : w7.heap[wr.heap.size]? = some (.cells #[.int .i8 px, .int .i8 py, .int .i8 (sn : Int)] 140 (0, 0)) := by rw [← hw7]; exact nNewX _ _
        have HB7 := Lib.hid (kTrans hB.out k7)
        have HBA7 := Lib.hid (hBA.out.below k7)
        have Hw7 := Lib.hid hw7
        clear hw7 hpj hin hB hBA k7
        go_upto_region 8 with fail
        try rw [Hw7.out]
        clear Hw7 a0 a1 a2 zz xs_ lx_
        have q0 : w7.cell? ⟨wr.heap.size, 0, none⟩ = some (.int .i8 px) := cell_of_row _ _ 0 _ _ _ b7
        have q1 : w7.cell? ⟨wr.heap.size, 1, none⟩ = some (.int .i8 py) := cell_of_row _ _ 1 _ _ _ b7
        have q2 : w7.cell? ⟨wr.heap.size, 2, none⟩ = some (.int .i8 (sn : Int)) := cell_of_row _ _ 2 _ _ _ b7
        have hst7 := HST.out _ HB7.out
        have ck := hst7.2.1 sn hs4
        have lg := hst7.2.2
        clear hst7
        have lq := blk_lt b7
        clear b7
        refine wp_region_still_tail 12 (by kernel_rfl) (by kernel_rfl) ?_
        simp only [List.take_succ_cons, List.take_zero, List.drop_succ_cons, List.drop_zero]
        repeat still_step
        still_call (HX.out _)
        repeat still_step
        still_call (HY.out _)
        repeat still_step
        try refine wpStill_nil ?_
        change wpList _ _ _ _ _ w7.drew
        have HB9 := Lib.hid (show Below W0.heap.size W0 w7.drew from Below.drew HB7.out)
        have HBA9 := Lib.hid (show BAt B B (mtL wd hi l (p.take j) []) w7.drew from HBA7.out.below (Below.drew (Below.refl _ _)))
        clear q0 q1 q2 ck lg lq HBA7 HB7 HX HY
        generalize w7.drew = w9 at HB9 HBA9 ⊢
        obtain ⟨w10, hw10⟩ : ∃ z, w9.alloc (.cells #[.string ⟨#[105, 110]⟩, .string (bsT (decL px)), .string (bsT (decL py)), .string (bsT (sideWL (sn : Int)))] 9) = z := ⟨_, rfl⟩
        have k10 : Below w9.heap.size w9 w10 := by rw [← hw10]; exact kAlloc (Below.refl _ _) _
        have b10 : w10.heap[w9.heap.size]? = some (.cells #[.string ⟨#[105, 110]⟩, .string (bsT (decL px)), .string (bsT (decL py)), .string (bsT (sideWL (sn : Int)))] 9 (0, 0)) := by rw [← hw10]; exact nNewX _ _
        have HWL := Lib.hid (wordsLine_any w9.heap.size 0 4 [[105, 110], decL px, decL py, sideWL (sn : Int)] w10 (fun j x hx => by
          rw [Nat.zero_add, cell_of_row w10 _ j _ _ _ b10]
          match j, hx with
          | 0, hx => simp at hx; subst hx; rfl
          | 1, hx => simp at hx; subst hx; rfl
          | 2, hx => simp at hx; subst hx; rfl
          | 3, hx => simp at hx; subst hx; rfl) (blk_lt b10) (by simp) (by rw [← HPD.out]; omega) (by simp))
        rw [← HPD.out] at HWL
        have HB10 := Lib.hid (kTrans HB9.out k10)
        have HBA10 := Lib.hid (HBA9.out.below k10)
        have Hw10 := Lib.hid hw10
        obtain ⟨PL, hPL⟩ : ∃ z, inLine ⟨px, py, (sn : Int)⟩ = z := ⟨_, rfl⟩
        rw [hPL] at HWL HNX hpl
        obtain ⟨AL, hAL⟩ : ∃ z, mtL wd hi l (p.take j) [] = z := ⟨_, rfl⟩
        rw [hAL] at HBA10 HNX hll
        clear hw10 b10 k10 HBA9 HB9 HPD hPL hAL
        go_wp2_with (go_at_call 43; rw [Hw10.out]; refine HWL.out.mono ?_; rintro e w5 ⟨rfl, hb5⟩; have HB5 := Lib.hid (kTrans HB10.out hb5); have HBA5 := Lib.hid (HBA10.out.below hb5); clear hb5)
        refine (writeStr_any B B AL PL _ HBA5.out (by omega)).mono ?_
        rintro e w6 ⟨rfl, hBA6, hb6⟩
        have HB6 := Lib.hid (HB5.out.trans (hb6.mono hBW))
        have HBA6 := Lib.hid (show BAt B B (mtL wd hi l (p.take (j + 1)) []) w6 by rw [HNX.out]; exact hBA6)
        clear hBA6 hb6 HBA10 HBA5 HB10 HB5 HWL Hw10 HNX hll hpl
        go_wp2
        exact ⟨⟨j + 1, by omega, by go_num, HBA6, HB6⟩, by simp [intOf]; omega⟩
      · obtain rfl : j = n := by omega
        clear xs_ lx_
        have HBA2 := Lib.hid (show BAt B B (mtL wd hi l p (c.take 0)) wr by have h := hBA.out; rw [List.take_of_length_le (by rw [Hn.out]; exact Nat.le_refl _)] at h; exact h)
        have bX6 := HBX.out _ hB.out
        have xs_ : wr.cell? ⟨w.heap.size, 4, none⟩ = some (.slice (some ⟨q, 0, none⟩) r r) := cell_of_row _ _ 4 _ _ _ bX6
        have lx_ := blk_lt bX6
        clear bX6 hBA
        have HB2 := hB
        clear hB
        go_wp2
        go_loopw [41] (fun i wr2 => ∃ j2 : Nat, j2 ≤ r ∧ i = .int .i64 j2 ∧ Hid (BAt B B (mtL wd hi l p (c.take j2)) wr2) ∧ Hid (Below W0.heap.size W0 wr2)) (fun i _ => r - (intOf i).toNat)
        case atStart => exact ⟨0, by omega, rfl, HBA2, HB2⟩
        case round =>
          clear HBA2 HB2 hlt hj
          obtain ⟨j2, hj2, rfl, hBA, hB⟩ := hrel
          by_cases hlt : j2 < r
          · skip
            have hlk : j2 < c.length := by rw [Hr.out]; exact hlt
            obtain ⟨p_, hpj⟩ : ∃ p_, c[j2] = p_ := ⟨_, rfl⟩
            have hin := HCI.out p_ (by rw [← hpj]; exact List.getElem_mem hlk)
            have hll := mtL_len HBO.out hm60 hn6 (by rw [List.length_take]; omega) HPI.out (take_mem_in HCI.out j2)
            have hpl := outLine_len hin
            have HNX := Lib.hid (show mtL wd hi l p (c.take (j2 + 1)) = mtL wd hi l p (c.take j2) ++ outLine p_ by rw [mtL_out wd hi l p hlk, hpj])
            obtain ⟨a0, a1⟩ := (show ClAt wr q (0 + j2 * 2) p_ by have h := HC.out wr hB.out j2 hlk; rw [hpj] at h; exact h)
            simp only [Nat.zero_add] at a0 a1
            have zz := Nat.lt_of_lt_of_le zqW hB.out.size
            unfold clIn at hin
            have HX := Lib.hid (fun W => smallText_any p_.x W (by omega) (by omega))
            have HY := Lib.hid (fun W => smallText_any p_.y W (by omega) (by omega))
            have HPD := Lib.hid (show outLine p_ = lineL [[111, 117, 116], decL p_.x, decL p_.y] from rfl)
            obtain ⟨px, py⟩ := p_
            simp only at a0 a1 hin HX HY HPD
            obtain ⟨w7, hw7⟩ : ∃ z, wr.alloc (.cells #[.int .i8 px, .int .i8 py] 45) = z := ⟨_, rfl⟩
            have k7 : Below wr.heap.size wr w7 := by rw [← hw7]; exact kAlloc (Below.refl _ _) _
            have b7 : w7.heap[wr.heap.size]? = some (.cells #[.int .i8 px, .int .i8 py] 45 (0, 0)) := by rw [← hw7]; exact nNewX _ _
            have HB7 := Lib.hid (kTrans hB.out k7)
            have HBA7 := Lib.hid (hBA.out.below k7)
            have Hw7 := Lib.hid hw7
            clear hw7 hpj hin hB hBA k7
            go_upto_region 13 with fail
            try rw [Hw7.out]
            clear Hw7 a0 a1 zz xs_ lx_
            have q0 : w7.cell? ⟨wr.heap.size, 0, none⟩ = some (.int .i8 px) := cell_of_row _ _ 0 _ _ _ b7
            have q1 : w7.cell? ⟨wr.heap.size, 1, none⟩ = some (.int .i8 py) := cell_of_row _ _ 1 _ _ _ b7
            have lq := blk_lt b7
            clear b7
            refine wp_region_still_tail 6 (by kernel_rfl) (by kernel_rfl) ?_
            simp only [List.take_succ_cons, List.take_zero, List.drop_succ_cons, List.drop_zero]
            repeat still_step
            still_call (HX.out _)
            repeat still_step
            still_call (HY.out _)
            repeat still_step
            try refine wpStill_nil ?_
            change wpList _ _ _ _ _ w7.drew
            have HB9 := Lib.hid (show Below W0.heap.size W0 w7.drew from Below.drew HB7.out)
            have HBA9 := Lib.hid (show BAt B B (mtL wd hi l p (c.take j2)) w7.drew from HBA7.out.below (Below.drew (Below.refl _ _)))
            clear q0 q1 lq HBA7 HB7 HX HY
            generalize w7.drew = w9 at HB9 HBA9 ⊢
            obtain ⟨w10, hw10⟩ : ∃ z, w9.alloc (.cells #[.string ⟨#[111, 117, 116]⟩, .string (bsT (decL px)), .string (bsT (decL py))] 9) = z := ⟨_, rfl⟩
            have k10 : Below w9.heap.size w9 w10 := by rw [← hw10]; exact kAlloc (Below.refl _ _) _
            have b10 : w10.heap[w9.heap.size]? = some (.cells #[.string ⟨#[111, 117, 116]⟩, .string (bsT (decL px)), .string (bsT (decL py))] 9 (0, 0)) := by rw [← hw10]; exact nNewX _ _
            have HWL := Lib.hid (wordsLine_any w9.heap.size 0 3 [[111, 117, 116], decL px, decL py] w10 (fun j x hx => by
              rw [Nat.zero_add, cell_of_row w10 _ j _ _ _ b10]
              match j, hx with
              | 0, hx => simp at hx; subst hx; rfl
              | 1, hx => simp at hx; subst hx; rfl
              | 2, hx => simp at hx; subst hx; rfl) (blk_lt b10) (by simp) (by rw [← HPD.out]; omega) (by simp))
            rw [← HPD.out] at HWL
            have HB10 := Lib.hid (kTrans HB9.out k10)
            have HBA10 := Lib.hid (HBA9.out.below k10)
            have Hw10 := Lib.hid hw10
            obtain ⟨PL, hPL⟩ : ∃ z, outLine ⟨px, py⟩ = z := ⟨_, rfl⟩
            rw [hPL] at HWL HNX hpl
            obtain ⟨AL, hAL⟩ : ∃ z, mtL wd hi l p (c.take j2) = z := ⟨_, rfl⟩
            rw [hAL] at HBA10 HNX hll
            clear hw10 b10 k10 HBA9 HB9 HPD hPL hAL
            go_wp2_with (go_at_call 43; rw [Hw10.out]; refine HWL.out.mono ?_; rintro e w5 ⟨rfl, hb5⟩; have HB5 := Lib.hid (kTrans HB10.out hb5); have HBA5 := Lib.hid (HBA10.out.below hb5); clear hb5)
            refine (writeStr_any B B AL PL _ HBA5.out (by omega)).mono ?_
            rintro e w6 ⟨rfl, hBA6, hb6⟩
            have HB6 := Lib.hid (HB5.out.trans (hb6.mono hBW))
            have HBA6 := Lib.hid (show BAt B B (mtL wd hi l p (c.take (j2 + 1))) w6 by rw [HNX.out]; exact hBA6)
            clear hBA6 hb6 HBA10 HBA5 HB10 HB5 HWL Hw10 HNX hll hpl
            go_wp2
            exact ⟨⟨j2 + 1, by omega, by go_num, HBA6, HB6⟩, by simp [intOf]; omega⟩
          · obtain rfl : j2 = r := by omega
            have HBA3 := Lib.hid (show BAt B B (mtL wd hi l p c) _ by have h := hBA.out; rw [List.take_of_length_le (by rw [Hr.out]; exact Nat.le_refl _)] at h; exact h)
            have HQ := Lib.hid (builtStr_any B B (mtL wd hi l p c) _ HBA3.out)
            rw [HS2.out] at HQ
            clear hBA HBA3 HS2
            go_wp2_with fail
            refine HQ.out.mono ?_
            rintro e w3 ⟨rfl, hb3⟩
            have T3 := Lib.hid (kTrans HK0.out (hB.out.trans (hb3.mono hBW)))
            clear hb3
            go_wp2
            go_ret
            exact ⟨rfl, T3.out⟩
end Go.Proofs.YtmllfacgonchnaaDoor
