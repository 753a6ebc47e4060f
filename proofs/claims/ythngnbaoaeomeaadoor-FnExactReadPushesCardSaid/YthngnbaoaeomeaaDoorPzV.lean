/- ReadPush..: the text and the model's check at any slice. -/
import Derived.Test.YthngnbaoaeomeaaDoorPxI
import Derived.Test.YthngnbaoaeomeaaDoorG7
namespace Go.Proofs.YthngnbaoaeomeaaDoor
open Go.ChangeShapes Go.WideShapes Go.ChangeAt Go.RowKit Go.Joins Go.Deep
set_option linter.unusedVariables false
set_option linter.unusedSimpArgs false

set_option maxRecDepth 100000 in
set_option maxHeartbeats 8000000 in
theorem pzText_any (b o n cap : Nat) (hcap : n ≤ cap) (l : List Pu) (w : World) (hn : l.length = n) (hp : PusAt w b o l) (hb : b < w.heap.size) (h8 : PusWf l) (hmax : n ≤ 1048576) (R : Bool) (hR : R = (decide (n ≤ 20) && plains l)) (S : ByteArray) (hS : bsT (ptQ R l) = S) (hst : SideAt w) (hpw : PowAt w) :
    Calls Tryd.prog 45 #[.slice (some ⟨b, o, none⟩) n cap] w fun e w' => e = .returned (.string S) ∧ Below w.heap.size w w' := by
  by_cases h20 : n ≤ 20
  · have hz : ¬ (20 : Int) < (n : Int) := by omega
    have hz2 : decide ((20 : Int) < (n : Int)) = false := by simpa using hz
    obtain ⟨W0, hW⟩ : ∃ W0, w.alloc (.cells #[.int .i8 24, .int .i8 24] 128) = W0 := ⟨_, rfl⟩
    have k0 : Below w.heap.size w W0 := by rw [← hW]; exact kAlloc (Below.refl _ _) _
    have hs0 : w.heap.size + 1 = W0.heap.size := by rw [← hW]; simp
    have bZ : W0.heap[w.heap.size]? = some (.cells #[.int .i8 24, .int .i8 24] 128 (0, 0)) := by rw [← hW]; exact heap_alloc_new _ _
    have HBZ := Lib.hid (fun W2 (h2 : Below W0.heap.size W0 W2) => blkX bZ h2)
    have HP := Lib.hid (fun W2 (h2 : Below W0.heap.size W0 W2) => hp.below (kTrans k0 h2) hb)
    have HST := Lib.hid (fun W2 (h2 : Below W0.heap.size W0 W2) => hst.below (kTrans k0 h2))
    have HPW := Lib.hid (fun W2 (h2 : Below W0.heap.size W0 W2) => hpw.below (kTrans k0 h2))
    have HK0 := Lib.hid k0
    have Hn := Lib.hid hn
    have H8 := Lib.hid h8
    have hbW : b < W0.heap.size := Nat.lt_of_lt_of_le hb k0.size
    obtain ⟨W2, hW2⟩ : ∃ z, W0.alloc (.cells #[.pointer none, .slice none 0 0] 110) = z := ⟨_, rfl⟩
    have k2 : Below W0.heap.size W0 W2 := by rw [← hW2]; exact kAlloc (Below.refl _ _) _
    have hBA : BFt W0.heap.size W0.heap.size [] W2 := by rw [← hW2]; exact BFt.fresh W0
    obtain ⟨B, hB⟩ : ∃ B, W0.heap.size = B := ⟨_, rfl⟩
    rw [hB] at hBA
    have HBA := Lib.hid (show BFt B B (puL (l.take 0)) W2 from hBA)
    have hBW : W0.heap.size ≤ B := by omega
    have HB2 := Lib.hid k2
    have HW2 := Lib.hid (show (w.alloc (.cells #[.int .i8 24, .int .i8 24] 128)).alloc (.cells #[.pointer none, .slice none 0 0] 110) = W2 by rw [hW, hW2])
    have HBB := Lib.hid hB
    obtain ⟨P, hP⟩ : ∃ P, plains l = P := ⟨_, rfl⟩
    have HPl : Hid (plains (l.drop 0) = P) := Lib.hid hP
    have HS := Lib.hid (show bsT (ptQ P l) = S by rw [← hS, hR, hP]; simp [h20])
    have HPIN : Hid (∀ p ∈ l.take 0, puIn p) := Lib.hid (fun p h => absurd h (by simp))
    clear hn hp hb h8 hR hS hst hpw hW bZ k0 hW2 k2 hBA hB hP
    go_enter Tryd.func45, Tryd.ntmps45
    go_upto_region 5 with fail
    try rw [HW2.out]
    try rw [HBB.out]
    clear HW2 HBB
    go_wp2
    go_loopw [13] (fun i wr => ∃ j : Nat, j ≤ n ∧ i = .int .i64 j ∧ Hid (BFt B B (puL (l.take j)) wr) ∧ Hid (Below W0.heap.size W0 wr) ∧ Hid (plains (l.drop j) = P) ∧ Hid (∀ p ∈ l.take j, puIn p)) (fun i _ => n - (intOf i).toNat)
    case atStart => exact ⟨0, by omega, rfl, HBA, HB2, HPl, HPIN⟩
    case round =>
      clear HBA HB2 HPl HPIN
      obtain ⟨j, hj, rfl, hBA, hB, hpl_, hinj⟩ := hrel
      by_cases hlt : j < n
      · have hlk : j < l.length := by rw [Hn.out]; exact hlt
        have hq := hpl_.out
        rw [plains_step hlk] at hq
        obtain ⟨p, hpj⟩ : ∃ p, l[j] = p := ⟨_, rfl⟩
        rw [hpj] at hq
        have hwf := H8.out p (by rw [← hpj]; exact List.getElem_mem hlk)
        obtain ⟨a0, a1, a2, a3⟩ := (show PuAt wr b (o + j * 4) p by have h := HP.out wr hB.out j hlk; rw [hpj] at h; exact h)
        have zb := Nat.lt_of_lt_of_le hbW hB.out.size
        have HNX := Lib.hid (show puL (l.take (j + 1)) = puL (l.take j) ++ puLine p by rw [puL_succ hlk, hpj])
        have HTK := Lib.hid (show p.plain = true → ∀ q ∈ l.take (j + 1), puIn q from fun h q hq => by
          rw [List.take_succ_eq_append_getElem hlk, hpj] at hq
          rcases List.mem_append.1 hq with hq | hq
          · exact hinj.out q hq
          · rw [List.mem_singleton.1 hq]; exact puIn_of h)
        have hll := puL_len (l.take j) hinj.out
        rw [List.length_take] at hll
        obtain ⟨r1, h1⟩ : ∃ r, r = decide (0 ≤ p.x ∧ p.x < 24 ∧ 0 ≤ p.y ∧ p.y < 24) := ⟨_, rfl⟩
        obtain ⟨r2, h2⟩ : ∃ r, r = decide (0 ≤ p.side ∧ p.side ≤ 3) := ⟨_, rfl⟩
        obtain ⟨r3, h3⟩ : ∃ r, r = decide (0 ≤ p.tick ∧ p.tick ≤ 1000) := ⟨_, rfl⟩
        have hpq : p.plain = (r1 && r2 && r3) := by
          rw [h1, h2, h3, Bool.eq_iff_iff]
          simp only [Pu.plain, Bool.and_eq_true, decide_eq_true_eq]
          omega
        have HPQ := Lib.hid hpq
        have HQ := Lib.hid hq
        have bx := bounds_i8 hwf.1
        have by_ := bounds_i8 hwf.2.1
        have bs := bounds_i8 hwf.2.2.1
        have bt := bounds_i16 hwf.2.2.2
        have H1 := Lib.hid (fun W => holds_any p.x p.y 24 24 W (by unfold i8; omega) (by unfold i8; omega) (by unfold i8; omega) (by unfold i8; omega) r1 h1)
        have H2 := Lib.hid (fun W => isSide_any p.side W r2 h2)
        have H3 := Lib.hid (fun W => isPushTickX_any p.tick W r3 h3)
        have ws_ : IntKind.i64.wrap p.side = p.side := IntWalk.i64_in _ (by omega)
        have wt_ : IntKind.i64.wrap p.tick = p.tick := IntWalk.i64_in _ (by omega)
        have HR1 := Lib.hid h1
        have HR2 := Lib.hid h2
        have HR3 := Lib.hid h3
        have HLE := Lib.hid (fun (h : puIn p) => puLine_len h)
        have HPD := Lib.hid (show puLine p = lineL [decL p.x, decL p.y, sideWL p.side, decL p.tick] from rfl)
        have HPI := Lib.hid (fun (h : p.plain = true) => puIn_of h)
        obtain ⟨px, py, ps, tk⟩ := p
        simp only at a0 a1 a2 a3 bx by_ bs bt H1 H2 H3 ws_ wt_ HR1 HR2 HR3
        obtain ⟨w7, hw7⟩ : ∃ z, wr.alloc (.cells #[.int .i8 px, .int .i8 py, .int .i8 ps, .int .i16 tk] 73) = z := ⟨_, rfl⟩
        have k7 : Below wr.heap.size wr w7 := by rw [← hw7]; exact kAlloc (Below.refl _ _) _
        have b7 : w7.heap[wr.heap.size]? = some (.cells #[.int .i8 px, .int .i8 py, .int .i8 ps, .int .i16 tk] 73 (0, 0)) := by rw [← hw7]; exact nNewX _ _
        have hWX : W0.heap.size ≤ wr.heap.size := hB.out.size
        have HB7 := Lib.hid (kTrans hB.out k7)
        have HBA7 := Lib.hid (hBA.out.below k7)
        have Hw7 := Lib.hid hw7
        have HlX := Lib.hid hBA.out.lt
        clear hw7 hpj hwf hB hBA k7 h1 h2 h3 hpq hq hinj hpl_
        go_upto_region 8 with fail
        try rw [Hw7.out]
        clear Hw7 a0 a1 a2 a3 zb
        obtain ⟨X, hX⟩ : ∃ X, wr.heap.size = X := ⟨_, rfl⟩
        rw [hX] at b7 hWX HlX ⊢
        clear hX
        have HBX7 := Lib.hid b7
        have FQ := fun (W : World) (h : W.heap[X]? = some (.cells #[.int .i8 px, .int .i8 py, .int .i8 ps, .int .i16 tk] 73 (0, 0))) => (show (W.cell? ⟨X, 0, none⟩ = some (.int .i8 px) ∧ W.cell? ⟨X, 1, none⟩ = some (.int .i8 py) ∧ W.cell? ⟨X, 2, none⟩ = some (.int .i8 ps) ∧ W.cell? ⟨X, 3, none⟩ = some (.int .i16 tk)) from ⟨cell_of_row _ _ 0 _ _ _ h, cell_of_row _ _ 1 _ _ _ h, cell_of_row _ _ 2 _ _ _ h, cell_of_row _ _ 3 _ _ _ h⟩)
        have HFQ := Lib.hid FQ
        clear b7 FQ
        obtain ⟨q0, q1, q2, q3⟩ := HFQ.out _ HBX7.out
        have lq := blk_lt HBX7.out
        have bz := HBZ.out _ HB7.out
        have z0 : w7.cell? ⟨w.heap.size, 0, none⟩ = some (.int .i8 24) := cell_of_row _ _ 0 _ _ _ bz
        have z1 : w7.cell? ⟨w.heap.size, 1, none⟩ = some (.int .i8 24) := cell_of_row _ _ 1 _ _ _ bz
        have lz := blk_lt bz
        clear bz
        go_wp2_with fail
        refine (H1.out _).mono ?_
        rintro e w8 ⟨rfl, hb8⟩
        have HB8 := Lib.hid (kTrans HB7.out hb8)
        have HBX8 := Lib.hid (blkX HBX7.out hb8)
        have HBA8 := Lib.hid (HBA7.out.below hb8)
        clear hb8 q0 q1 q2 q3 lq z0 z1 lz HB7 HBX7 HBA7
        cases r1 with
        | false =>
          obtain rfl : P = false := by have h := HQ.out; rw [HPQ.out] at h; simpa using h.symm
          obtain rfl : (⟨#[]⟩ : ByteArray) = S := by rw [← HS.out]; rfl
          clear HS HQ HPQ
          go_wp2
          go_ret
          exact ⟨rfl, kTrans HK0.out HB8.out⟩
        | true =>
          obtain ⟨q0, q1, q2, q3⟩ := HFQ.out _ HBX8.out
          have lq := blk_lt HBX8.out
          go_wp2_with fail
          refine (H2.out _).mono ?_
          rintro e w9 ⟨rfl, h9⟩
          obtain rfl : w8 = w9 := h9
          clear q0 q1 q2 q3 lq
          cases r2 with
          | false =>
            obtain rfl : P = false := by have h := HQ.out; rw [HPQ.out] at h; simpa using h.symm
            obtain rfl : (⟨#[]⟩ : ByteArray) = S := by rw [← HS.out]; rfl
            clear HS HQ HPQ
            go_wp2
            go_ret
            exact ⟨rfl, kTrans HK0.out HB8.out⟩
          | true =>
            obtain ⟨q0, q1, q2, q3⟩ := HFQ.out _ HBX8.out
            have lq := blk_lt HBX8.out
            go_wp2_with fail
            refine (H3.out _).mono ?_
            rintro e w9 ⟨rfl, h9⟩
            obtain rfl : w8 = w9 := h9
            clear q0 q1 q2 q3 lq
            cases r3 with
            | false =>
              obtain rfl : P = false := by have h := HQ.out; rw [HPQ.out] at h; simpa using h.symm
              obtain rfl : (⟨#[]⟩ : ByteArray) = S := by rw [← HS.out]; rfl
              clear HS HQ HPQ
              go_wp2
              go_ret
              exact ⟨rfl, kTrans HK0.out HB8.out⟩
            | true =>
              have e1 := of_decide_eq_true HR1.out.symm
              have e2 := of_decide_eq_true HR2.out.symm
              have e3 := of_decide_eq_true HR3.out.symm
              have hpt : Pu.plain ⟨px, py, ps, tk⟩ = true := HPQ.out.trans rfl
              have hpl := HLE.out (HPI.out hpt)
              have HTK2 := Lib.hid (HTK.out hpt)
              have HQ2 : Hid (plains (l.drop (j + 1)) = P) := Lib.hid (by have h := HQ.out; rw [hpt] at h; simpa using h)
              obtain ⟨sn, rfl⟩ : ∃ sn : Nat, ps = sn := ⟨ps.toNat, by omega⟩
              have hs4 : sn < 4 := by omega
              have hs40 : (sn : Int) < 4 := by omega
              have HA := Lib.hid (fun W => smallText_any px W (by omega) (by omega))
              have HY := Lib.hid (fun W => smallText_any py W (by omega) (by omega))
              have HI := Lib.hid (fun W (h : PowAt W) => itoa_any tk W (by omega) (by omega) h)
              have hst8 := HST.out _ HB8.out
              have S0 : SpuP X px py sn tk w8 := ⟨HBX8.out, hst8.1 sn hs4, hst8.2⟩
              have HPW8 := Lib.hid (HPW.out _ HB8.out)
              clear e1 e2 e3 hpt HLE HPI HTK HQ HPQ HR1 HR2 HR3 hst8 HBX8 H1 H2 H3 HFQ
              go_upto_region 10 with fail
              refine regionW_of_HX (fun w' => SpuP X px py sn tk w') (by kernel_rfl) S0 (fun hHeld => ?_)
              have HB9 := Lib.hid (show Below W0.heap.size W0 w8.drew from Below.drew HB8.out)
              have HBA9 := Lib.hid (show BFt B B (puL (l.take j)) w8.drew from HBA8.out.below (Below.drew (Below.refl _ _)))
              have HPW9 := Lib.hid (show PowAt w8.drew from HPW8.out.below (Below.drew (Below.refl _ _)))
              clear S0 HB8 HBA8 HPW8
              generalize w8.drew = w9 at HB9 HBA9 HPW9 hHeld ⊢
              refine wpAnyH_take (i := 0) (v := .pointer (some ⟨X, 0, none⟩)) rfl (by kernel_rfl) (by kernel_rfl) (by kernel_rfl) (fun _ _ _ h => absurd h.1 (by simp)) (Or.inl ⟨by rfl, fun w7 hSw => ?_⟩) (by assumption) ?_
              · clear hSw
                go_simp
              try simp only [Act.put, List.setIfInBounds_toArray, List.set_cons_zero, List.set_cons_succ]
              refine wpAnyH_take (i := 1) (v := .pointer (some ⟨X, 0, none⟩)) rfl (by kernel_rfl) (by kernel_rfl) (by kernel_rfl) (fun _ _ _ h => absurd h.1 (by simp)) (Or.inl ⟨by rfl, fun w7 hSw => ?_⟩) (by assumption) ?_
              · clear hSw
                go_simp
              try simp only [Act.put, List.setIfInBounds_toArray, List.set_cons_zero, List.set_cons_succ]
              refine wpAnyH_take (i := 2) (v := .int .i8 px) rfl (by kernel_rfl) (by kernel_rfl) (by kernel_rfl) (fun _ _ _ h => absurd h.1 (by simp)) (Or.inl ⟨by rfl, fun w7 hSw => ?_⟩) (by assumption) ?_
              · obtain ⟨hx_, hc_, hl_⟩ := hSw
                have q0 : w7.cell? ⟨X, 0, none⟩ = some (.int .i8 px) := cell_of_row _ _ 0 _ _ _ hx_
                have q1 : w7.cell? ⟨X, 1, none⟩ = some (.int .i8 py) := cell_of_row _ _ 1 _ _ _ hx_
                have q2 : w7.cell? ⟨X, 2, none⟩ = some (.int .i8 (sn : Int)) := cell_of_row _ _ 2 _ _ _ hx_
                have q3 : w7.cell? ⟨X, 3, none⟩ = some (.int .i16 tk) := cell_of_row _ _ 3 _ _ _ hx_
                have lx_ := (Array.getElem?_eq_some_iff.1 hx_).1
                clear hx_
                go_simp
              try simp only [Act.put, List.setIfInBounds_toArray, List.set_cons_zero, List.set_cons_succ]
              refine wpAnyH_take (i := 4) (v := .pointer (some ⟨X, 0, none⟩)) rfl (by kernel_rfl) (by kernel_rfl) (by kernel_rfl) (fun _ _ _ h => absurd h.1 (by simp)) (Or.inl ⟨by rfl, fun w7 hSw => ?_⟩) (by assumption) ?_
              · clear hSw
                go_simp
              try simp only [Act.put, List.setIfInBounds_toArray, List.set_cons_zero, List.set_cons_succ]
              refine wpAnyH_take (i := 5) (v := .pointer (some ⟨X, 1, none⟩)) rfl (by kernel_rfl) (by kernel_rfl) (by kernel_rfl) (fun _ _ _ h => absurd h.1 (by simp)) (Or.inl ⟨by rfl, fun w7 hSw => ?_⟩) (by assumption) ?_
              · clear hSw
                go_simp
              try simp only [Act.put, List.setIfInBounds_toArray, List.set_cons_zero, List.set_cons_succ]
              refine wpAnyH_take (i := 6) (v := .int .i8 py) rfl (by kernel_rfl) (by kernel_rfl) (by kernel_rfl) (fun _ _ _ h => absurd h.1 (by simp)) (Or.inl ⟨by rfl, fun w7 hSw => ?_⟩) (by assumption) ?_
              · obtain ⟨hx_, hc_, hl_⟩ := hSw
                have q0 : w7.cell? ⟨X, 0, none⟩ = some (.int .i8 px) := cell_of_row _ _ 0 _ _ _ hx_
                have q1 : w7.cell? ⟨X, 1, none⟩ = some (.int .i8 py) := cell_of_row _ _ 1 _ _ _ hx_
                have q2 : w7.cell? ⟨X, 2, none⟩ = some (.int .i8 (sn : Int)) := cell_of_row _ _ 2 _ _ _ hx_
                have q3 : w7.cell? ⟨X, 3, none⟩ = some (.int .i16 tk) := cell_of_row _ _ 3 _ _ _ hx_
                have lx_ := (Array.getElem?_eq_some_iff.1 hx_).1
                clear hx_
                go_simp
              try simp only [Act.put, List.setIfInBounds_toArray, List.set_cons_zero, List.set_cons_succ]
              refine wpAnyH_take (i := 8) (v := .pointer (some ⟨X, 2, none⟩)) rfl (by kernel_rfl) (by kernel_rfl) (by kernel_rfl) (fun _ _ _ h => absurd h.1 (by simp)) (Or.inl ⟨by rfl, fun w7 hSw => ?_⟩) (by assumption) ?_
              · clear hSw
                go_simp
              try simp only [Act.put, List.setIfInBounds_toArray, List.set_cons_zero, List.set_cons_succ]
              refine wpAnyH_take (i := 9) (v := .int .i8 (sn : Int)) rfl (by kernel_rfl) (by kernel_rfl) (by kernel_rfl) (fun _ _ _ h => absurd h.1 (by simp)) (Or.inl ⟨by rfl, fun w7 hSw => ?_⟩) (by assumption) ?_
              · obtain ⟨hx_, hc_, hl_⟩ := hSw
                have q0 : w7.cell? ⟨X, 0, none⟩ = some (.int .i8 px) := cell_of_row _ _ 0 _ _ _ hx_
                have q1 : w7.cell? ⟨X, 1, none⟩ = some (.int .i8 py) := cell_of_row _ _ 1 _ _ _ hx_
                have q2 : w7.cell? ⟨X, 2, none⟩ = some (.int .i8 (sn : Int)) := cell_of_row _ _ 2 _ _ _ hx_
                have q3 : w7.cell? ⟨X, 3, none⟩ = some (.int .i16 tk) := cell_of_row _ _ 3 _ _ _ hx_
                have lx_ := (Array.getElem?_eq_some_iff.1 hx_).1
                clear hx_
                go_simp
              try simp only [Act.put, List.setIfInBounds_toArray, List.set_cons_zero, List.set_cons_succ]
              refine wpAnyH_take (i := 10) (v := .pointer (some ⟨2, sn, none⟩)) rfl (by kernel_rfl) (by kernel_rfl) (by kernel_rfl) (fun _ _ _ h => absurd h.1 (by simp)) (Or.inl ⟨by rfl, fun w7 hSw => ?_⟩) (by assumption) ?_
              · clear hSw
                go_simp
              try simp only [Act.put, List.setIfInBounds_toArray, List.set_cons_zero, List.set_cons_succ]
              refine wpAnyH_take (i := 11) (v := .string (bsT (sideWL (sn : Int)))) rfl (by kernel_rfl) (by kernel_rfl) (by kernel_rfl) (fun _ _ _ h => absurd h.1 (by simp)) (Or.inl ⟨by rfl, fun w7 hSw => ?_⟩) (by assumption) ?_
              · obtain ⟨hx_, hc_, hl_⟩ := hSw
                have q0 : w7.cell? ⟨X, 0, none⟩ = some (.int .i8 px) := cell_of_row _ _ 0 _ _ _ hx_
                have q1 : w7.cell? ⟨X, 1, none⟩ = some (.int .i8 py) := cell_of_row _ _ 1 _ _ _ hx_
                have q2 : w7.cell? ⟨X, 2, none⟩ = some (.int .i8 (sn : Int)) := cell_of_row _ _ 2 _ _ _ hx_
                have q3 : w7.cell? ⟨X, 3, none⟩ = some (.int .i16 tk) := cell_of_row _ _ 3 _ _ _ hx_
                have lx_ := (Array.getElem?_eq_some_iff.1 hx_).1
                clear hx_
                go_simp
              try simp only [Act.put, List.setIfInBounds_toArray, List.set_cons_zero, List.set_cons_succ]
              refine wpAnyH_take (i := 12) (v := .pointer (some ⟨X, 3, none⟩)) rfl (by kernel_rfl) (by kernel_rfl) (by kernel_rfl) (fun _ _ _ h => absurd h.1 (by simp)) (Or.inl ⟨by rfl, fun w7 hSw => ?_⟩) (by assumption) ?_
              · clear hSw
                go_simp
              try simp only [Act.put, List.setIfInBounds_toArray, List.set_cons_zero, List.set_cons_succ]
              refine wpAnyH_take (i := 13) (v := .int .i16 tk) rfl (by kernel_rfl) (by kernel_rfl) (by kernel_rfl) (fun _ _ _ h => absurd h.1 (by simp)) (Or.inl ⟨by rfl, fun w7 hSw => ?_⟩) (by assumption) ?_
              · obtain ⟨hx_, hc_, hl_⟩ := hSw
                have q0 : w7.cell? ⟨X, 0, none⟩ = some (.int .i8 px) := cell_of_row _ _ 0 _ _ _ hx_
                have q1 : w7.cell? ⟨X, 1, none⟩ = some (.int .i8 py) := cell_of_row _ _ 1 _ _ _ hx_
                have q2 : w7.cell? ⟨X, 2, none⟩ = some (.int .i8 (sn : Int)) := cell_of_row _ _ 2 _ _ _ hx_
                have q3 : w7.cell? ⟨X, 3, none⟩ = some (.int .i16 tk) := cell_of_row _ _ 3 _ _ _ hx_
                have lx_ := (Array.getElem?_eq_some_iff.1 hx_).1
                clear hx_
                go_simp
              try simp only [Act.put, List.setIfInBounds_toArray, List.set_cons_zero, List.set_cons_succ]
              refine wpAnyH_take (i := 14) (v := .int .i64 tk) rfl (by kernel_rfl) (by kernel_rfl) (by kernel_rfl) (fun _ _ _ h => absurd h.1 (by simp)) (Or.inl ⟨by rfl, fun w7 hSw => ?_⟩) (by assumption) ?_
              · clear hSw
                go_simp
              try simp only [Act.put, List.setIfInBounds_toArray, List.set_cons_zero, List.set_cons_succ]
              refine wpAnyH_ready (rs := [3]) (by kernel_rfl) (by simp) ?_
              refine AllReadyH.cons rfl (fun K hK => ?_) AllReadyH.nil
              go_simp
              go_wp2_with (go_at_call 63
                           refine (HA.out _).mono ?_
                           rintro e w10 ⟨rfl, h10⟩
                           obtain rfl : w9 = w10 := h10.symm)
              refine hK.out _ _ hHeld (fun hHeld => ?_)
              clear hK K
              refine wpAnyH_ready (rs := [7]) (by kernel_rfl) (by simp) ?_
              refine AllReadyH.cons rfl (fun K hK => ?_) AllReadyH.nil
              go_simp
              go_wp2_with (go_at_call 63
                           refine (HY.out _).mono ?_
                           rintro e w10 ⟨rfl, h10⟩
                           obtain rfl : w9 = w10 := h10.symm)
              refine hK.out _ _ hHeld (fun hHeld => ?_)
              clear hK K
              refine wpAnyH_ready (rs := [15]) (by kernel_rfl) (by simp) ?_
              refine AllReadyH.cons rfl (fun K hK => ?_) AllReadyH.nil
              go_simp
              go_wp2_with (go_at_call 75
                           refine (HI.out _ HPW9.out).mono ?_
                           rintro e w10 ⟨rfl, hb10⟩
                           have HB10 := Lib.hid (kTrans HB9.out hb10)
                           have HBA10 := Lib.hid (HBA9.out.below hb10)
                           have S10 := hHeld.below hb10
                           clear hb10)
              refine hK.out _ _ S10 (fun hHeld => ?_)
              clear S10 HB9 HBA9 HPW9
              clear hK K
              obtain ⟨w11, hw11⟩ : ∃ z, w10.alloc (.cells #[.string (bsT (decL px)), .string (bsT (decL py)), .string (bsT (sideWL (sn : Int))), .string (bsT (decL tk))] 9) = z := ⟨_, rfl⟩
              have k11 : Below w10.heap.size w10 w11 := by rw [← hw11]; exact kAlloc (Below.refl _ _) _
              have b11 : w11.heap[w10.heap.size]? = some (.cells #[.string (bsT (decL px)), .string (bsT (decL py)), .string (bsT (sideWL (sn : Int))), .string (bsT (decL tk))] 9 (0, 0)) := by rw [← hw11]; exact nNewX _ _
              have HWL := Lib.hid (wordsLine_any w10.heap.size 0 4 [decL px, decL py, sideWL (sn : Int), decL tk] w11 (fun j x hx => by
                rw [Nat.zero_add, cell_of_row w11 _ j _ _ _ b11]
                match j, hx with
                | 0, hx => simp at hx; subst hx; rfl
                | 1, hx => simp at hx; subst hx; rfl
                | 2, hx => simp at hx; subst hx; rfl
                | 3, hx => simp at hx; subst hx; rfl) (blk_lt b11) (by simp) (by rw [← HPD.out]; omega) (by simp))
              rw [← HPD.out] at HWL
              have HB11 := Lib.hid (kTrans HB10.out k11)
              have HBA11 := Lib.hid (HBA10.out.below k11)
              have S11 := hHeld.below k11
              have Hw11 := Lib.hid hw11
              obtain ⟨PL, hPL⟩ : ∃ z, puLine ⟨px, py, (sn : Int), tk⟩ = z := ⟨_, rfl⟩
              rw [hPL] at HWL HNX hpl
              obtain ⟨AL, hAL⟩ : ∃ z, puL (l.take j) = z := ⟨_, rfl⟩
              rw [hAL] at HBA11 HNX hll
              clear hw11 b11 k11 HBA10 HB10 HPD hPL hAL
              refine wpAnyH_ready (rs := [16]) (by kernel_rfl) (by simp) ?_
              refine AllReadyH.cons rfl (fun K hK => ?_) AllReadyH.nil
              go_simp
              rw [Hw11.out]
              refine hK.out _ _ S11 (fun hHeld => ?_)
              clear S11 Hw11
              clear hK K
              refine wpAnyH_ready (rs := [17]) (by kernel_rfl) (by simp) ?_
              refine AllReadyH.cons rfl (fun K hK => ?_) AllReadyH.nil
              go_simp
              go_wp2_with (go_at_call 66
                           refine HWL.out.mono ?_
                           rintro e w12 ⟨rfl, hb12⟩
                           have HB12 := Lib.hid (kTrans HB11.out hb12)
                           have HBA12 := Lib.hid (HBA11.out.below hb12)
                           have S12 := hHeld.below hb12
                           clear hb12)
              refine hK.out _ _ S12 (fun hHeld => ?_)
              clear S12 HB11 HBA11 HWL
              clear hK K
              refine wpAnyH_ready (rs := [18]) (by kernel_rfl) (by simp) ?_
              refine AllReadyH.cons rfl (fun K hK => ?_) AllReadyH.nil
              go_simp
              go_wp2_with (go_at_call 65
                           refine (writeStrF_any B B AL PL _ HBA12.out (by omega)).mono ?_
                           rintro e w13 ⟨rfl, hBA13, hb13, ho13⟩
                           have HB13 := Lib.hid (HB12.out.trans (hb13.mono hBW))
                           have HBA13 := Lib.hid (show BFt B B (puL (l.take (j + 1))) w13 by rw [HNX.out]; exact hBA13)
                           have hne_ : X ≠ B := by have := HlX.out; omega
                           have S13 : SpuP X px py sn tk w13 := hHeld.others ho13 hne_ (HST.out _ HB13.out) hs4
                           clear hBA13 hb13 ho13)
              refine hK.out _ _ S13 (fun hHeld => ?_)
              clear S13
              clear hK K
              refine wpAnyH_done (by kernel_rfl) ?_ _
              refine ⟨rfl, ?_⟩
              clear hHeld
              go_wp2
              exact ⟨⟨j + 1, by omega, by go_num, HBA13, HB13, HQ2, HTK2⟩, by simp [intOf]; omega⟩
      · obtain rfl : j = n := by omega
        obtain rfl : P = true := by rw [← hpl_.out, List.drop_of_length_le (by rw [Hn.out]; exact Nat.le_refl _)]; rfl
        have HBA2 := Lib.hid (show BFt B B (puL l) wr by have h := hBA.out; rw [List.take_of_length_le (by rw [Hn.out]; exact Nat.le_refl _)] at h; exact h)
        have HQ := Lib.hid (builtStrF_any B B (puL l) wr HBA2.out)
        rw [show bsT (puL l) = S from HS.out] at HQ
        clear hBA HBA2 HS hpl_ hinj
        go_wp2_with fail
        refine HQ.out.mono ?_
        rintro e w3 ⟨rfl, hb3⟩
        have T3 := Lib.hid (kTrans HK0.out (hB.out.trans (hb3.mono hBW)))
        clear hb3
        go_wp2
        go_ret
        exact ⟨rfl, T3.out⟩
  · obtain rfl : (⟨#[]⟩ : ByteArray) = S := by rw [← hS]; unfold ptQ; rw [if_neg (by rw [hR]; simp; intro h; omega)]; rfl
    have hz : (20 : Int) < (n : Int) := by omega
    have hz2 : decide ((20 : Int) < (n : Int)) = true := by simpa using hz
    clear hS hR hn hp h8 h20 hst hpw
    go_enter Tryd.func45, Tryd.ntmps45
    go_wp2
    go_ret
    exact ⟨rfl, Below.refl _ _⟩
set_option maxRecDepth 100000 in
set_option maxHeartbeats 2000000 in
theorem pzText_nil (a : Option Addr) (cap : Nat) (w : World) (S : ByteArray) (hS : bsT [] = S) :
    Calls Tryd.prog 45 #[.slice a 0 cap] w fun e w' => e = .returned (.string S) ∧ Below w.heap.size w w' := by
  obtain ⟨W0, hW⟩ : ∃ W0, w.alloc (.cells #[.int .i8 24, .int .i8 24] 128) = W0 := ⟨_, rfl⟩
  have k0 : Below w.heap.size w W0 := by rw [← hW]; exact kAlloc (Below.refl _ _) _
  obtain ⟨W2, hW2⟩ : ∃ z, W0.alloc (.cells #[.pointer none, .slice none 0 0] 110) = z := ⟨_, rfl⟩
  have k2 : Below W0.heap.size W0 W2 := by rw [← hW2]; exact kAlloc (Below.refl _ _) _
  have hBA : BFt W0.heap.size W0.heap.size [] W2 := by rw [← hW2]; exact BFt.fresh W0
  have hs0 : w.heap.size + 1 = W0.heap.size := by rw [← hW]; simp
  obtain ⟨B, hB⟩ : ∃ B, W0.heap.size = B := ⟨_, rfl⟩
  rw [hB] at hBA
  have HBA := Lib.hid hBA
  have hBW : w.heap.size ≤ B := by omega
  have HB2 := Lib.hid (kTrans k0 k2)
  have HW2 := Lib.hid (show (w.alloc (.cells #[.int .i8 24, .int .i8 24] 128)).alloc (.cells #[.pointer none, .slice none 0 0] 110) = W2 by rw [hW, hW2])
  have HBB := Lib.hid hB
  have HS := Lib.hid hS
  clear hS hW hW2 k2 hBA hB
  go_enter Tryd.func45, Tryd.ntmps45
  go_upto_region 5 with fail
  try rw [HW2.out]
  try rw [HBB.out]
  clear HW2 HBB
  go_wp2
  go_loopw [13] (fun i wr => i = .int .i64 0 ∧ Hid (BFt B B [] wr) ∧ Hid (Below w.heap.size w wr)) (fun _ _ => 0)
  case atStart => exact ⟨rfl, HBA, HB2⟩
  case round =>
    clear HBA HB2
    obtain ⟨rfl, hBA, hB⟩ := hrel
    have HQ := Lib.hid (builtStrF_any B B [] wr hBA.out)
    rw [HS.out] at HQ
    clear hBA HS
    go_wp2_with fail
    refine HQ.out.mono ?_
    rintro e w3 ⟨rfl, hb3⟩
    have T3 := Lib.hid (hB.out.trans (hb3.mono hBW))
    clear hb3
    go_wp2
    go_ret
    exact ⟨rfl, T3.out⟩
theorem pzText_sl (lo hh : Nat) (v : Value) (l : List Pu) (w : World) (hs : SlWPu lo hh w l v) (h8 : PusWf l) (hmax : l.length ≤ 1048576) (R : Bool) (hR : R = (decide (l.length ≤ 20) && plains l)) (S : ByteArray) (hS : bsT (ptQ R l) = S) (hst : SideAt w) (hpw : PowAt w) :
    Calls Tryd.prog 45 #[v] w fun e w' => e = .returned (.string S) ∧ Below w.heap.size w w' := by
  cases hs with
  | empty a cap h => subst h; exact pzText_nil a cap w S (by rw [← hS, hR]; rfl)
  | mk b o cap hc h1 h2 hb hf hl => exact pzText_any b o _ cap hl l w rfl hc hb h8 hmax R hR S hS hst hpw
end Go.Proofs.YthngnbaoaeomeaaDoor
