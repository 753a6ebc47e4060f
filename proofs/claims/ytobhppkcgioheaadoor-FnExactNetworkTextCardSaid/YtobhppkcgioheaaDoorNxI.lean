/- NetworkText: the program. -/
import Derived.Test.YtobhppkcgioheaaDoorNx0
import Derived.StillTailTactics
import Derived.Deep.DeepCutAuto
namespace Go.Proofs.YtobhppkcgioheaaDoor
open Go.ChangeShapes Go.WideShapes Go.ChangeAt Go.RowKit Go.Joins Go.Deep
set_option linter.unusedVariables false
set_option linter.unusedSimpArgs false

theorem placeText_any (n : Int) (w : World) (h0 : 0 ≤ n) (h1 : n < 100) :
    Calls Tryd.prog 88 #[.int .i16 n] w fun e w' => e = .returned (.string (bsT (decL n))) ∧ w' = w := by
  obtain ⟨i, rfl⟩ : ∃ i : Nat, n = i := ⟨n.toNat, by omega⟩
  have hc : ∀ w, Calls Tryd.prog 114 #[.int .i64 i] w fun e w' => e = .returned (.string (bsT (decL i))) ∧ w' = w := fun w => by
    have e1 : decL (i : Int) = Lib.decDigits i := by simp [decL]
    rw [e1]
    exact strconv_Itoa_small i (by omega) w
  obtain ⟨d, hd⟩ : ∃ d, decL (i : Int) = d := ⟨_, rfl⟩
  rw [hd] at hc ⊢
  have Hc := Lib.hid hc
  have hw : IntKind.i64.wrap (i : Int) = i := IntWalk.i64_in _ (by omega)
  clear hc hd
  go_enter Tryd.func88, Tryd.ntmps88
  go_wp2_with (refine (Hc.out _).mono ?_; rintro e w' ⟨rfl, rfl⟩)
  go_ret
  exact ⟨rfl, rfl⟩
set_option maxRecDepth 100000 in
set_option maxHeartbeats 8000000 in
theorem implNetworkText_any (b k : Nat) (ni : Int) (l : List Nd) (p : List Int) (w : World) (h : NK w b k l p) (h8 : NdsWf l) (h9 : ShsWf p) (bw : i8 ni) (m0 : l.length ≤ 1048576) (m1 : p.length ≤ 1048576) (R : Bool) (hR : R = netOk ni l p) (S : ByteArray) (hS : bsT (ntQ R ni l p) = S) (hwd : NodeAt w) (hfl : FieldAt w) :
    Calls Tryd.prog 41 #[.agg #[.int .i8 ni, .slice (some ⟨b, 0, none⟩) l.length l.length, .slice (some ⟨k, 0, none⟩) p.length p.length]] w fun e w' => e = .returned (.string S) ∧ Below w.heap.size w w' := by
  obtain ⟨i0, hj0, hj1, hj2, hj3⟩ := info_parts info_str
  have Hi := Lib.hid hj0
  have Hz0 := Lib.hid hj1
  have Hz1 := Lib.hid hj2
  have Hz2 := Lib.hid hj3
  clear hj0 hj1 hj2 hj3
  obtain ⟨W0, hW⟩ : ∃ W0, w.alloc (.cells #[.int .i8 ni, .slice (some ⟨b, 0, none⟩) l.length l.length, .slice (some ⟨k, 0, none⟩) p.length p.length] 56) = W0 := ⟨_, rfl⟩
  have k0 : Below w.heap.size w W0 := by rw [← hW]; exact kAlloc (Below.refl _ _) _
  have hs0 : w.heap.size + 1 = W0.heap.size := by rw [← hW]; simp
  have bX : W0.heap[w.heap.size]? = some (.cells #[.int .i8 ni, .slice (some ⟨b, 0, none⟩) l.length l.length, .slice (some ⟨k, 0, none⟩) p.length p.length] 56 (0, 0)) := by rw [← hW]; exact heap_alloc_new _ _
  have HBX := Lib.hid (fun W2 (h2 : Below W0.heap.size W0 W2) => blkX bX h2)
  have HP := Lib.hid (fun W2 (h2 : Below W0.heap.size W0 W2) => h.below (kTrans k0 h2))
  have HV := Lib.hid (fun W2 (h2 : Below W0.heap.size W0 W2) => implValidNetwork_any b k ni l p W2 (h.below (kTrans k0 h2)) h8 h9 bw m0 m1 R hR)
  have HWD := Lib.hid (fun W2 (h2 : Below W0.heap.size W0 W2) => hwd.below (kTrans k0 h2))
  have HFL := Lib.hid (fun W2 (h2 : Below W0.heap.size W0 W2) => hfl.below (kTrans k0 h2))
  have HK0 := Lib.hid k0
  have HW := Lib.hid hW
  have HRR := Lib.hid hR
  have HS := Lib.hid hS
  have hbW : b < W0.heap.size := Nat.lt_of_lt_of_le h.z0 k0.size
  have hkW : k < W0.heap.size := Nat.lt_of_lt_of_le h.z1 k0.size
  have hsX : w.heap.size < W0.heap.size := by omega
  have x0 : W0.cell? ⟨w.heap.size, 0, none⟩ = some (.int .i8 ni) := cell_of_row _ _ 0 _ _ _ bX
  have x1 : W0.cell? ⟨w.heap.size, 1, none⟩ = some (.slice (some ⟨b, 0, none⟩) l.length l.length) := cell_of_row _ _ 1 _ _ _ bX
  have x2 : W0.cell? ⟨w.heap.size, 2, none⟩ = some (.slice (some ⟨k, 0, none⟩) p.length p.length) := cell_of_row _ _ 2 _ _ _ bX
  clear h h8 h9 hR hS hwd hfl hW bX k0
  go_enter Tryd.func41, Tryd.ntmps41
  go_upto_region 1 with fail
  try rw [HW.out]
  go_wp2_with fail
  refine (HV.out _ (Below.refl _ _)).mono ?_
  rintro e w1 ⟨rfl, hb1⟩
  have hz1 := hb1.size
  have HB1 := Lib.hid hb1
  clear HV HW x0 x1 x2 hb1
  cases R with
  | false =>
    obtain rfl : (⟨#[]⟩ : ByteArray) = S := by rw [← HS.out]; rfl
    clear HS HRR HP HWD HFL HBX
    go_wp2
    go_ret
    exact ⟨rfl, kTrans HK0.out HB1.out⟩
  | true =>
    have hs := netOk_parts HRR.out.symm
    have HS2 := Lib.hid (show bsT (nwL ni l p) = S from HS.out)
    obtain ⟨hni, hn80, hq8, _, hou⟩ := hs
    have hoa := outsOkN_all hou
    have HQ := Lib.hid (fun x (hx : x ∈ p) => (by have := hoa x hx; omega : 0 ≤ x ∧ x < 100))
    have HIN := Lib.hid (fun x (hx : x ∈ l) => ndIn_of HRR.out.symm hx)
    have H0 := Lib.hid (fun W => smallText_any ni W (by omega) (by omega))
    have HLL := Lib.hid (fun r (h : ∀ x ∈ r, ndIn x) => nwL_len (ni := ni) (p := p) (by omega) (fun x hx => (HQ.out x hx).2) r h)
    have hh := hd_len (ni := ni) (p := p) (by omega) (fun x hx => (HQ.out x hx).2)
    have bX1 := HBX.out _ HB1.out
    have x0 : w1.cell? ⟨w.heap.size, 0, none⟩ = some (.int .i8 ni) := cell_of_row _ _ 0 _ _ _ bX1
    have x2 : w1.cell? ⟨w.heap.size, 2, none⟩ = some (.slice (some ⟨k, 0, none⟩) p.length p.length) := cell_of_row _ _ 2 _ _ _ bX1
    have lx := blk_lt bX1
    obtain ⟨D, hD⟩ : ∃ D, bsT (decL ni) = D := ⟨_, rfl⟩
    rw [hD] at H0
    have own0 : Hid ((w1.alloc (.cells #[.string D] 9)).ownsRow W0.heap.size 9 1 (.slice (some ⟨w1.heap.size, 0, none⟩) 1 1) 1 (strV (hdWs ni (p.take 0)))) := Lib.hid ⟨by rw [hdWs_zero]; rfl, .inr ⟨w1.heap.size, 1, #[.string D], rfl, hz1, nNewX _ _, Nat.le_refl _, by decide, by simp, by rw [hdWs_zero, ← hD]; rfl⟩⟩
    have HB2 := Lib.hid (show Below W0.heap.size W0 (w1.alloc (.cells #[.string D] 9)) from kAlloc HB1.out _)
    have x2' : (w1.alloc (.cells #[.string D] 9)).cell? ⟨w.heap.size, 2, none⟩ = some (.slice (some ⟨k, 0, none⟩) p.length p.length) := cell_of_row _ _ 2 _ _ _ (HBX.out _ HB2.out)
    clear hou hoa HS HRR bX1 hD
    go_wp2_with fail
    refine (H0.out _).mono ?_
    rintro e w2 ⟨rfl, h2⟩
    obtain rfl : w1 = w2 := h2.symm
    clear H0 x0 x2
    go_wp2
    go_loopw [3, 20] (fun vs i wr => ∃ (j : Nat) (va : Option Addr) (vc : Nat), j ≤ p.length ∧ vs = .slice va (j + 1) vc ∧ i = .int .i64 j ∧ Hid (wr.ownsRow W0.heap.size 9 1 (.slice va (j + 1) vc) (j + 1) (strV (hdWs ni (p.take j)))) ∧ Hid (Below W0.heap.size W0 wr)) (fun _ i _ => p.length - (intOf i).toNat)
    case atStart => exact ⟨0, _, _, by omega, rfl, rfl, own0, HB2⟩
    case round =>
      clear own0 HB2 HB1 x2' lx
      obtain ⟨j, va, vc, hj, rfl, rfl, hown, HB⟩ := hrel
      have Hblk := Lib.hid (owns_block hown.out)
      by_cases hlt : j < p.length
      · have hc := (HP.out _ HB.out).p1 j hlt
        rw [Nat.zero_add] at hc
        have zk := Nat.lt_of_lt_of_le hkW HB.out.size
        have hq := HQ.out _ (List.getElem_mem hlt)
        have HT := Lib.hid (hdWs_succ ni hlt)
        obtain ⟨y, hy⟩ : ∃ y, p[j] = y := ⟨_, rfl⟩
        rw [hy] at hc hq HT
        have HPT := Lib.hid (fun W => placeText_any y W hq.1 hq.2)
        obtain ⟨X, hX⟩ : ∃ X, bsT (decL y) = X := ⟨_, rfl⟩
        rw [hX] at HPT
        have HXX := Lib.hid hX
        clear hy hq hX
        go_wp2_with fail
        refine (HPT.out _).mono ?_
        rintro e w3 ⟨rfl, h3⟩
        obtain rfl : wr = w3 := h3.symm
        clear HPT hc
        go_wp2_with (at_builtin; refine wpList_append_own _ rfl _ _ 68 rfl W0.heap.size 9 i0 _ 1 16 Tryd.underlying68 Hi.out Hz0.out Hz1.out Hz2.out rfl (by decide) (.slice va (j + 1) vc) (j + 1) (strV (hdWs ni (p.take j))) rfl (owns_below hown.out (by repeat (first | with_reducible exact Below.refl _ _ | (with_reducible refine kSet ?_ ?hB _; case hB => (simp; try omega)) | with_reducible refine kAlloc ?_ _ | with_reducible refine Below.drew ?_ | with_reducible refine kDrewN ?_ _ | with_reducible refine kTrans ?_ (by assumption)))) ⟨wr.heap.size, 0, none⟩ 1 1 [.string X] rfl rfl (World.news_of_block (cs := #[.string X]) (heap_alloc_new _ _)) (by simp [Value.oneCell']) ?qc4 ?qc5 ?qc6 ?_)
        case qc4 => unfold maxLen; omega
        case qc5 => omega
        case qc6 => have := HB.out.size; simp; omega
        intro v6 w6 hown6 hgr hnil
        have Hown6 := Lib.hid (show w6.ownsRow W0.heap.size 9 1 v6 (j + 1 + 1) (strV (hdWs ni (p.take (j + 1)))) by rw [HT.out, strV_end, HXX.out]; exact hown6)
        have T6 : Below W0.heap.size W0 w6 := grown_below (v := .slice va (j + 1) vc) (kTrans HB.out (by repeat (first | with_reducible exact Below.refl _ _ | (with_reducible refine kSet ?_ ?hB _; case hB => (simp; try omega)) | with_reducible refine kAlloc ?_ _ | with_reducible refine Below.drew ?_ | with_reducible refine kDrewN ?_ _ | with_reducible refine kTrans ?_ (by assumption)))) hgr (by intro q hq; exact (Hblk.out q hq).1)
        have HT6 := Lib.hid T6
        obtain ⟨va6, vc6, rfl⟩ := owns_slice Hown6.out
        clear hown6 hgr hnil hown T6 HT HXX
        go_wp2
        exact ⟨⟨j + 1, va6, vc6, by omega, rfl, by go_num, Hown6, HT6⟩, by simp [intOf]; omega⟩
      · obtain rfl : j = p.length := by omega
        have hown2 := hown.out
        rw [List.take_length] at hown2
        obtain ⟨g, c, hv, hc, hg, hcells⟩ := own_str hown2 (by omega)
        simp at hv
        obtain ⟨rfl, rfl⟩ := hv
        have hzr := HB.out.size
        obtain ⟨w2, hw2⟩ : ∃ z, wr.alloc (.cells #[.pointer none, .slice none 0 0] 140) = z := ⟨_, rfl⟩
        have k2 : Below wr.heap.size wr w2 := by rw [← hw2]; exact kAlloc (Below.refl _ _) _
        have hBA : BAt wr.heap.size wr.heap.size [] w2 := by rw [← hw2]; exact BAt.fresh wr
        have HWL := Lib.hid (by
          have h := wordsLine_any g 0 vc (hdWs ni p) w2 (fun i x hx => (k2.cell (p := ⟨g, _, none⟩) hg).trans (hcells i x hx)) (Nat.lt_of_lt_of_le hg k2.size) (by rw [hdWs_length]; exact hc) (by omega) (by rw [hdWs_length]; omega)
          rw [hdWs_length] at h
          exact h)
        obtain ⟨B, hB⟩ : ∃ B, wr.heap.size = B := ⟨_, rfl⟩
        rw [hB] at hBA
        have HBA := Lib.hid hBA
        have hBW : W0.heap.size ≤ B := by omega
        have HB2 := Lib.hid (kTrans HB.out k2)
        have Hw2 := Lib.hid hw2
        have HBB := Lib.hid hB
        obtain ⟨LW, hLW⟩ : ∃ z, lineL (hdWs ni p) = z := ⟨_, rfl⟩
        rw [hLW] at HWL hh
        have HLW := Lib.hid hLW
        clear hw2 hBA hB k2 HB hown hown2 hcells hc Hblk hLW
        go_upto_region 10 with fail
        try rw [Hw2.out]
        try rw [HBB.out]
        clear Hw2 HBB
        go_wp2_with (go_at_call 90; refine HWL.out.mono ?_; rintro e w5 ⟨rfl, hb5⟩; have HB5 := Lib.hid (kTrans HB2.out hb5); have HBA5 := Lib.hid (HBA.out.below hb5); clear hb5)
        refine (writeStr_any B B [] LW _ HBA5.out (by simp; omega)).mono ?_
        rintro e w6 ⟨rfl, hBA6, hb6⟩
        have HB6 := Lib.hid (HB5.out.trans (hb6.mono hBW))
        have HBA6 := Lib.hid (show BAt B B (nwL ni (l.take 0) p) w6 by rw [nwL_zero, HLW.out]; simpa using hBA6)
        clear hBA6 hb6 HBA HBA5 HB2 HB5 HWL HLW hh
        have bX6 := HBX.out _ HB6.out
        have x1 : w6.cell? ⟨w.heap.size, 1, none⟩ = some (.slice (some ⟨b, 0, none⟩) l.length l.length) := cell_of_row _ _ 1 _ _ _ bX6
        have lx := blk_lt bX6
        clear bX6 HBX
        go_wp2
        go_loopw [36] (fun i wr => ∃ j : Nat, j ≤ l.length ∧ i = .int .i64 j ∧ Hid (BAt B B (nwL ni (l.take j) p) wr) ∧ Hid (Below W0.heap.size W0 wr)) (fun i _ => l.length - (intOf i).toNat)
        case atStart => exact ⟨0, by omega, rfl, HBA6, HB6⟩
        case round =>
          clear HBA6 HB6 x1 lx
          obtain ⟨j, hj, rfl, hBA, hB⟩ := hrel
          by_cases hlk : j < l.length
          · obtain ⟨x, hpj⟩ : ∃ x, l[j] = x := ⟨_, rfl⟩
            have hin := HIN.out x (by rw [← hpj]; exact List.getElem_mem hlk)
            have hll := HLL.out (l.take j) (fun q hq => HIN.out q (List.mem_of_mem_take hq))
            rw [List.length_take] at hll
            have hpl := ndLine_len hin
            have HNX := Lib.hid (show nwL ni (l.take (j + 1)) p = nwL ni (l.take j) p ++ ndLine x by rw [nwL_succ ni p hlk, hpj])
            obtain ⟨a0, a1, a2⟩ := (show NdAt wr b (0 + j * 3) x by have h := (HP.out wr hB.out).p0 j hlk; rw [hpj] at h; exact h)
            simp only [Nat.zero_add] at a0 a1 a2
            have zb := Nat.lt_of_lt_of_le hbW hB.out.size
            unfold ndIn at hin
            have HA := Lib.hid (fun W => placeText_any x.a W (by omega) (by omega))
            have HC := Lib.hid (fun W => placeText_any x.b W (by omega) (by omega))
            obtain ⟨kn, hkn⟩ : ∃ kn : Nat, x.kind = kn := ⟨x.kind.toNat, by omega⟩
            have hk4 : kn < 4 := by omega
            have HPL := Lib.hid (show ndLine x = lineL ([nodeWL (kn : Int), decL x.a, decL x.b].take (1 + nodeFN (kn : Int))) by unfold ndLine ndWs; rw [hkn])
            obtain ⟨nk, na, nb⟩ := x
            simp only at a0 a1 a2 hin hkn HA HC HPL
            subst hkn
            obtain ⟨w7, hw7⟩ : ∃ z, wr.alloc (.cells #[.int .i8 (kn : Int), .int .i16 na, .int .i16 nb] 119) = z := ⟨_, rfl⟩
            have k7 : Below wr.heap.size wr w7 := by rw [← hw7]; exact kAlloc (Below.refl _ _) _
            have b7 : w7.heap[wr.heap.size]? = some (.cells #[.int .i8 (kn : Int), .int .i16 na, .int .i16 nb] 119 (0, 0)) := by rw [← hw7]; exact nNewX _ _
            have HB7 := Lib.hid (kTrans hB.out k7)
            have HBA7 := Lib.hid (hBA.out.below k7)
            have Hw7 := Lib.hid hw7
            clear hw7 hpj hin hB hBA k7
            go_upto_region 14 with fail
            try rw [Hw7.out]
            clear Hw7 a0 a1 a2 zb
            have q0 : w7.cell? ⟨wr.heap.size, 0, none⟩ = some (.int .i8 (kn : Int)) := cell_of_row _ _ 0 _ _ _ b7
            have q1 : w7.cell? ⟨wr.heap.size, 1, none⟩ = some (.int .i16 na) := cell_of_row _ _ 1 _ _ _ b7
            have q2 : w7.cell? ⟨wr.heap.size, 2, none⟩ = some (.int .i16 nb) := cell_of_row _ _ 2 _ _ _ b7
            have lq := blk_lt b7
            have hst7 := HWD.out _ HB7.out
            have ck := hst7.1 kn hk4
            have lg := hst7.2
            have hk60 : (kn : Int) < 4 := by omega
            have HB7x := Lib.hid (fun W2 (h2 : Below w7.heap.size w7 W2) => blkX b7 h2)
            clear b7 hst7
            refine wp_region_still_tail 10 (by kernel_rfl) (by kernel_rfl) ?_
            simp only [List.take_succ_cons, List.take_zero, List.drop_succ_cons, List.drop_zero]
            repeat still_step
            still_call (HA.out _)
            repeat still_step
            still_call (HC.out _)
            repeat still_step
            try refine wpStill_nil ?_
            change wpList _ _ _ _ _ w7.drew
            have HB8 := Lib.hid (show Below W0.heap.size W0 w7.drew from Below.drew HB7.out)
            have HBA8 := Lib.hid (show BAt B B (nwL ni (l.take j) p) w7.drew from HBA7.out.below (Below.drew (Below.refl _ _)))
            have b8 := HB7x.out _ (Below.drew (Below.refl _ _))
            clear q0 q1 q2 lq ck lg HBA7 HB7 HA HC HB7x
            obtain ⟨N0, hN0⟩ : ∃ N0, wr.heap.size = N0 := ⟨_, rfl⟩
            rw [hN0] at b8 ⊢
            clear hN0
            generalize w7.drew = w8 at HB8 HBA8 b8 ⊢
            obtain ⟨w9, hw9⟩ : ∃ z, w8.alloc (.cells #[.string (bsT (nodeWL (kn : Int))), .string (bsT (decL na)), .string (bsT (decL nb))] 9) = z := ⟨_, rfl⟩
            have k9 : Below w8.heap.size w8 w9 := by rw [← hw9]; exact kAlloc (Below.refl _ _) _
            have b9 : w9.heap[w8.heap.size]? = some (.cells #[.string (bsT (nodeWL (kn : Int))), .string (bsT (decL na)), .string (bsT (decL nb))] 9 (0, 0)) := by rw [← hw9]; exact nNewX _ _
            have HB9 := Lib.hid (kTrans HB8.out k9)
            have HBA9 := Lib.hid (HBA8.out.below k9)
            have b89 := blkX b8 k9
            have q0 : w9.cell? ⟨N0, 0, none⟩ = some (.int .i8 (kn : Int)) := cell_of_row _ _ 0 _ _ _ b89
            have lq := blk_lt b89
            have hst9 := HFL.out _ HB9.out
            have cf := hst9.1 kn hk4
            have lf := hst9.2
            have Hw9 := Lib.hid hw9
            obtain ⟨PL, hPL⟩ : ∃ z, ndLine ⟨(kn : Int), na, nb⟩ = z := ⟨_, rfl⟩
            obtain ⟨AL, hAL⟩ : ∃ z, nwL ni (l.take j) p = z := ⟨_, rfl⟩
            rw [hAL] at HBA9 HNX hll
            have hpl2 : PL.length ≤ 22 := by rw [← hPL]; exact hpl
            rw [hPL] at HNX
            clear hw9 k9 HBA8 HB8 hAL b8 b89 hst9
            go_upto_region 15 with fail
            try rw [Hw9.out]
            clear Hw9
            obtain ⟨f, hf⟩ : ∃ f, nodeFN (kn : Int) = f := ⟨_, rfl⟩
            have hf2 : f ≤ 2 := by rw [← hf]; unfold nodeFN; split <;> omega
            rw [hf] at cf HPL
            clear hf
            have hf3 : f = 0 ∨ f = 1 ∨ f = 2 := by omega
            rcases hf3 with rfl | rfl | rfl
            · skip
              have HWL := Lib.hid (wordsLine_any w8.heap.size 0 3 [nodeWL (kn : Int)] w9 (fun j x hx => by
                rw [Nat.zero_add, cell_of_row w9 _ j _ _ _ b9]
                match j, hx with
                | 0, hx => simp at hx; subst hx; rfl) (blk_lt b9) (by simp) (by have h := hpl; rw [HPL.out] at h; simp only [List.take_succ_cons, List.take_zero, List.take_nil] at h; exact Nat.le_trans h (by decide)) (by simp))
              have HPL2 := Lib.hid (show lineL [nodeWL (kn : Int)] = PL by rw [← hPL, HPL.out]; rfl)
              rw [HPL2.out] at HWL
              clear hPL HPL HPL2 b9
              go_wp2_with (go_at_call 90; refine HWL.out.mono ?_; rintro e w5 ⟨rfl, hb5⟩; have HB5 := Lib.hid (kTrans HB9.out hb5); have HBA5 := Lib.hid (HBA9.out.below hb5); clear hb5)
              refine (writeStr_any B B AL PL _ HBA5.out (by omega)).mono ?_
              rintro e w6 ⟨rfl, hBA6, hb6⟩
              have HB6 := Lib.hid (HB5.out.trans (hb6.mono hBW))
              have HBA6 := Lib.hid (show BAt B B (nwL ni (l.take (j + 1)) p) w6 by rw [HNX.out]; exact hBA6)
              clear hBA6 hb6 HBA9 HBA5 HB9 HB5 HWL HNX hll hpl
              go_wp2
              exact ⟨⟨j + 1, by omega, by go_num, HBA6, HB6⟩, by simp [intOf]; omega⟩
            · skip
              have HWL := Lib.hid (wordsLine_any w8.heap.size 0 3 [nodeWL (kn : Int), decL na] w9 (fun j x hx => by
                rw [Nat.zero_add, cell_of_row w9 _ j _ _ _ b9]
                match j, hx with
                | 0, hx => simp at hx; subst hx; rfl
                | 1, hx => simp at hx; subst hx; rfl) (blk_lt b9) (by simp) (by have h := hpl; rw [HPL.out] at h; simp only [List.take_succ_cons, List.take_zero, List.take_nil] at h; exact Nat.le_trans h (by decide)) (by simp))
              have HPL2 := Lib.hid (show lineL [nodeWL (kn : Int), decL na] = PL by rw [← hPL, HPL.out]; rfl)
              rw [HPL2.out] at HWL
              clear hPL HPL HPL2 b9
              go_wp2_with (go_at_call 90; refine HWL.out.mono ?_; rintro e w5 ⟨rfl, hb5⟩; have HB5 := Lib.hid (kTrans HB9.out hb5); have HBA5 := Lib.hid (HBA9.out.below hb5); clear hb5)
              refine (writeStr_any B B AL PL _ HBA5.out (by omega)).mono ?_
              rintro e w6 ⟨rfl, hBA6, hb6⟩
              have HB6 := Lib.hid (HB5.out.trans (hb6.mono hBW))
              have HBA6 := Lib.hid (show BAt B B (nwL ni (l.take (j + 1)) p) w6 by rw [HNX.out]; exact hBA6)
              clear hBA6 hb6 HBA9 HBA5 HB9 HB5 HWL HNX hll hpl
              go_wp2
              exact ⟨⟨j + 1, by omega, by go_num, HBA6, HB6⟩, by simp [intOf]; omega⟩
            · skip
              have HWL := Lib.hid (wordsLine_any w8.heap.size 0 3 [nodeWL (kn : Int), decL na, decL nb] w9 (fun j x hx => by
                rw [Nat.zero_add, cell_of_row w9 _ j _ _ _ b9]
                match j, hx with
                | 0, hx => simp at hx; subst hx; rfl
                | 1, hx => simp at hx; subst hx; rfl
                | 2, hx => simp at hx; subst hx; rfl) (blk_lt b9) (by simp) (by have h := hpl; rw [HPL.out] at h; simp only [List.take_succ_cons, List.take_zero, List.take_nil] at h; exact Nat.le_trans h (by decide)) (by simp))
              have HPL2 := Lib.hid (show lineL [nodeWL (kn : Int), decL na, decL nb] = PL by rw [← hPL, HPL.out]; rfl)
              rw [HPL2.out] at HWL
              clear hPL HPL HPL2 b9
              go_wp2_with (go_at_call 90; refine HWL.out.mono ?_; rintro e w5 ⟨rfl, hb5⟩; have HB5 := Lib.hid (kTrans HB9.out hb5); have HBA5 := Lib.hid (HBA9.out.below hb5); clear hb5)
              refine (writeStr_any B B AL PL _ HBA5.out (by omega)).mono ?_
              rintro e w6 ⟨rfl, hBA6, hb6⟩
              have HB6 := Lib.hid (HB5.out.trans (hb6.mono hBW))
              have HBA6 := Lib.hid (show BAt B B (nwL ni (l.take (j + 1)) p) w6 by rw [HNX.out]; exact hBA6)
              clear hBA6 hb6 HBA9 HBA5 HB9 HB5 HWL HNX hll hpl
              go_wp2
              exact ⟨⟨j + 1, by omega, by go_num, HBA6, HB6⟩, by simp [intOf]; omega⟩
          · obtain rfl : j = l.length := by omega
            have HBA2 := Lib.hid (show BAt B B (nwL ni l p) wr by have h := hBA.out; rw [List.take_length] at h; exact h)
            have HQ2 := Lib.hid (builtStr_any B B (nwL ni l p) wr HBA2.out)
            rw [HS2.out] at HQ2
            clear hBA HBA2 HS2
            go_wp2_with fail
            refine HQ2.out.mono ?_
            rintro e w3 ⟨rfl, hb3⟩
            have T3 := Lib.hid (kTrans HK0.out (hB.out.trans (hb3.mono hBW)))
            clear hb3
            go_wp2
            go_ret
            exact ⟨rfl, T3.out⟩
end Go.Proofs.YtobhppkcgioheaaDoor
