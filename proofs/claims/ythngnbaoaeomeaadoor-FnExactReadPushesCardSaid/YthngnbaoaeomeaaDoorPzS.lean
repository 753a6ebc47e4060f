/- ReadPushes: the model's walk. -/
import Derived.Test.YthngnbaoaeomeaaDoorPzM
namespace Go.Proofs.YthngnbaoaeomeaaDoor
open Go.ChangeShapes Go.WideShapes Go.ChangeAt Go.RowKit Go.Joins Go.Deep
set_option linter.unusedVariables false
set_option linter.unusedSimpArgs false

def SdI (s : List UInt8) (j : Nat) (k : Int) : Prop := (k = -1 ∧ ∀ i : Nat, i < j → s ≠ sideWL i) ∨ (∃ i : Nat, i < j ∧ k = i ∧ s = sideWL i)
set_option maxRecDepth 100000 in
set_option maxHeartbeats 16000000 in
theorem specReadPushes_any (l : List UInt8) (w : World) (hl : l.length ≤ 1048576) (L : List Pu) (Cc : Int) (hA : PzA l L Cc) : Calls Tryd.prog 12 #[.string (bsT l)] w (PzPost L Cc w) := by
  obtain ⟨j0, hj0, hj1, hj2, hj3⟩ := info_parts info_PuR
  have Hj := Lib.hid hj0
  have Hj1 := Lib.hid hj1
  have Hj2 := Lib.hid hj2
  have Hj3 := Lib.hid hj3
  have HA := Lib.hid hA
  have HSP := Lib.hid (l01Split_any l 10 w (by omega) 10 rfl)
  obtain ⟨Ls, hLs⟩ : ∃ Ls, spl 10 l = Ls := ⟨_, rfl⟩
  have hNl := spl_length 10 l
  obtain ⟨M, hM⟩ : ∃ M, Ls.length = M + 1 := by
    obtain ⟨x, r, h⟩ := spl_some 10 l
    exact ⟨r.length, by rw [← hLs, h]; rfl⟩
  have HSH := Lib.hid (fun x (hx : x ∈ Ls) => (by rw [← hLs] at hx; have := spl_short 10 l x hx; omega : x.length ≤ 1048576))
  have HLS := Lib.hid hLs
  have HM := Lib.hid hM
  rw [hLs] at HSP hNl
  rw [hM] at hNl
  have hMb : M ≤ 1048576 := by omega
  obtain ⟨z, hz⟩ : ∃ z, Ls.getLastD [] = z := ⟨_, rfl⟩
  have hzM : Ls[M]? = some z := by
    rw [← hz]
    cases Ls with
    | nil => simp at hM
    | cons y r => simp at hM; simp [List.getLastD]; rw [List.getLast_eq_getElem]; simp [hM]
  have HZ := Lib.hid hz
  obtain ⟨OK, hOK⟩ : ∃ OK : Bool, OK = decide (z = []) := ⟨_, rfl⟩
  have HY0 := Lib.hid (pz_Y0 Ls (ok := OK) (fun h => by rw [hz]; rw [hOK] at h; exact of_decide_eq_true h))
  have HO0 := Lib.hid (pz_O0 hLs (ok := OK) (fun h => by rw [hz] at h; rw [hOK]; exact decide_eq_true h))
  rw [hM] at HO0
  clear hj0 hj1 hj2 hj3 hA hLs hM hz hl
  go_enter Tryd.func12, Tryd.ntmps12
  go_wp2_with fail
  refine HSP.out.mono ?_
  rintro e w1 ⟨g, cap, rfl, hcap, hst, hg, _, hb1⟩
  have K1 := Lib.hid hb1
  have HST := Lib.hid (fun W2 (h2 : Below w1.heap.size w1 W2) => hst.below h2 hg)
  have n1 := hb1.size
  clear HSP hst hb1
  rw [HM.out] at hcap ⊢
  obtain ⟨N, hN⟩ : ∃ N, M + 1 = N := ⟨_, rfl⟩
  rw [hN] at hcap hNl HO0 ⊢
  obtain ⟨B, hB⟩ : ∃ B, w1.heap.size = B := ⟨_, rfl⟩
  obtain ⟨W2, hW2⟩ : ∃ z, w1.alloc (.cells #[] 73) = z := ⟨_, rfl⟩
  have k2 : Below w1.heap.size w1 W2 := by rw [← hW2]; exact kAlloc (Below.refl _ _) _
  have own0 : Hid (W2.ownsRow B 73 4 (.slice (some ⟨B, 0, none⟩) ([] : List Pu).length 0) ([] : List Pu).length (flatPu [])) := Lib.hid (owns_new (Nat.le_refl _) (by rw [← hW2, ← hB]; exact heap_alloc_new _ _))
  have HB0 := Lib.hid k2
  have hw : w.heap.size ≤ B := by omega
  have qz : W2.cell? ⟨g, M, none⟩ = some (.string (bsT z)) := by have h := HST.out W2 k2 M z hzM; rwa [Nat.zero_add] at h
  have hg2 := Nat.lt_of_lt_of_le hg k2.size
  have HWF := Lib.hid (show PusWf ([] : List Pu) from fun p hp => by simp at hp)
  have Hw2 := Lib.hid hW2
  have HBe := Lib.hid hB
  obtain ⟨Z, hZ⟩ : ∃ Z, bsT z = Z := ⟨_, rfl⟩
  rw [hZ] at qz
  have hMN : M < N := by omega
  have wM : IntKind.i64.wrap ((N : Int) - 1) = (M : Int) := by rw [show (N : Int) - 1 = (M : Int) by omega]; exact IntWalk.i64_in _ (by omega)
  have eM : (N : Int) - 1 = (M : Int) := by omega
  clear hW2 k2 hB hzM
  go_upto_region 3 with fail
  try rw [Hw2.out]
  try rw [HBe.out]
  clear Hw2
  go_cut [6] (fun s6 wx => s6 = .bool OK ∧ W2 = wx)
  case first =>
    have zz := Lib.hid (show Z.toList.isEmpty = OK by
      rw [← hZ, toL_bsT, hOK]
      cases z <;> simp)
    clear hZ hOK
    go_wp2
    go_meet
    exact ⟨by rw [zz.out], rfl⟩
  case rest =>
    obtain ⟨rfl, rfl⟩ := hcut
    clear qz hg2 wM eM hZ hOK
    go_wp2
    go_loopw [5, 6, 7, 8, 9, 10, 11, 12, 13, 14, 15, 16] (fun vl vo vi v8 v9 v10 v11 v12 v13 v14 v15 v16 wr => ∃ (ok : Bool) (A : List Pu) (va : Option Addr) (vc c : Nat), c ≤ M ∧ Hid (c = A.length) ∧ vl = .slice va A.length vc ∧ vo = .bool ok ∧ vi = .int .i64 c ∧ Hid (PzY Ls A ok) ∧ Hid (PzO l N A ok) ∧ Hid (PusWf A) ∧ Hid (wr.ownsRow B 73 4 (.slice va A.length vc) A.length (flatPu A)) ∧ Hid (Below w1.heap.size w1 wr)) (fun _ _ vi _ _ _ _ _ _ _ _ _ _ => N - (intOf vi).toNat)
    case atStart => exact ⟨OK, [], _, _, 0, by omega, Lib.hid rfl, rfl, rfl, rfl, HY0, HO0, HWF, own0, HB0⟩
    case round =>
      clear HY0 HO0 HWF own0 HB0
      obtain ⟨ok, A, va, vc, c, hcM, HCc, rfl, rfl, rfl, HY, HO, HWF, hown, hB⟩ := hrel
      have hBs := hB.out.size
      have hMN : M + 1 = N := hN
      have wc : IntKind.i64.wrap ((c : Int) + 1) = (c : Int) + 1 := IntWalk.i64_in _ (by omega)
      have hAn : A.length + 1 ≤ N := by have := HCc.out; omega
      cases ok with
      | false =>
        obtain ⟨rfl, rfl⟩ := HA.out.no (fun r h1 h2 => by have h3 := (HO.out r h1 h2).1; cases h3)
        have T3 := kTrans K1.out hB.out
        by_cases hlt : c < M
        · have hcc : (c : Int) + 1 < (N : Int) := by omega
          clear HO HA hMN
          go_wp2
          exact bodyPost_ret (v := .tuple #[.slice (some ⟨wr.heap.size, 0, none⟩) 0 0, .int .i64 5]) (by simp [results, Tryd.results12, go_sem]) rfl ⟨_, rfl, .empty _ _ rfl, kAlloc T3 _⟩
        · have hcc : ¬ (c : Int) + 1 < (N : Int) := by omega
          have hcd : decide ((c : Int) + 1 < (N : Int)) = false := by simpa using hcc
          clear HO HA hMN
          go_wp2
          exact bodyPost_ret (v := .tuple #[.slice (some ⟨wr.heap.size, 0, none⟩) 0 0, .int .i64 5]) (by simp [results, Tryd.results12, go_sem]) rfl ⟨_, rfl, .empty _ _ rfl, kAlloc T3 _⟩
      | true =>
        by_cases hlt : c < M
        · obtain ⟨ln, hln⟩ : ∃ ln, Ls[A.length]? = some ln := ⟨_, List.getElem?_eq_getElem (by have := HM.out; have := HCc.out; omega)⟩
          have hlm : ln.length ≤ 1048576 := HSH.out ln (List.mem_of_getElem? hln)
          have q : wr.cell? ⟨g, c, none⟩ = some (.string (bsT ln)) := by have h := HST.out wr hB.out c ln (by rw [HCc.out]; exact hln); rwa [Nat.zero_add] at h
          have hgr := Nat.lt_of_lt_of_le hg hB.out.size
          have hcN : c < N := by omega
          have hcc : (c : Int) + 1 < (N : Int) := by omega
          have hAl : A.length + 1 < N := by have := HCc.out; omega
          have HS2 := Lib.hid (l01Split_any ln 32 wr (by omega) 32 rfl)
          have Hln := Lib.hid hln
          clear hln hlm hMN
          go_wp2_with fail
          refine HS2.out.mono ?_
          rintro e w3 ⟨g3, cap3, rfl, hcap3, hst3, hg3, _, hb3⟩
          have K3 := Lib.hid (kTrans hB.out hb3)
          have HB3 := Lib.hid hb3
          have hb3s := hb3.size
          obtain ⟨n3, hn3⟩ : ∃ n3, (spl 32 ln).length = n3 := ⟨_, rfl⟩
          rw [hn3] at hcap3 ⊢
          clear HS2 hb3 q
          by_cases h3 : n3 = 4
          · subst h3
            obtain ⟨a0, a1, a2, a3, hws⟩ := pz_four hn3
            have HWS := Lib.hid hws
            rw [hws] at hst3
            have q0 : w3.cell? ⟨g3, 0, none⟩ = some (.string (bsT a0)) := by have h := hst3 0 a0 rfl; rwa [Nat.zero_add] at h
            have q1 : w3.cell? ⟨g3, 1, none⟩ = some (.string (bsT a1)) := by have h := hst3 1 a1 rfl; rwa [Nat.zero_add] at h
            have q2 : w3.cell? ⟨g3, 2, none⟩ = some (.string (bsT a2)) := by have h := hst3 2 a2 rfl; rwa [Nat.zero_add] at h
            have q3 : w3.cell? ⟨g3, 3, none⟩ = some (.string (bsT a3)) := by have h := hst3 3 a3 rfl; rwa [Nat.zero_add] at h
            obtain ⟨x0, hx0⟩ : ∃ v, smX a0 = v := ⟨_, rfl⟩
            obtain ⟨x1, hx1⟩ : ∃ v, smX a1 = v := ⟨_, rfl⟩
            obtain ⟨v3, hv3⟩ : ∃ v, numV a3 = v := ⟨_, rfl⟩
            obtain ⟨tk, htk⟩ : ∃ v, tkM a3 = v := ⟨_, rfl⟩
            obtain ⟨o0, ho0⟩ : ∃ v, smB a0 = v := ⟨_, rfl⟩
            obtain ⟨o1, ho1⟩ : ∃ v, smB a1 = v := ⟨_, rfl⟩
            obtain ⟨o3, ho3⟩ : ∃ v, numOk a3 = v := ⟨_, rfl⟩
            obtain ⟨O2, hO2⟩ : ∃ v, ((o0 && o1) && o3) = v := ⟨_, rfl⟩
            have HN0 := Lib.hid (l01Small_any a0 w3 x0 o0 hx0 ho0)
            have HN1 := Lib.hid (l01Small_any a1 w3 x1 o1 hx1 ho1)
            have HN3 := Lib.hid (l01Number_any a3 w3 v3 o3 ho3 (by rw [← ho3]; exact hv3))
            have HMN := Lib.hid (l00Min_r v3 9999 w3 tk (by rw [← htk, ← hv3]; rfl))
            have HMP := Lib.hid (fun (k : Int) (h : WdQ sideWL 4 a2 k) => (by have h2 := pz_M HWS.out h; rw [hx0, hx1, htk, ho0, ho1, ho3, hO2] at h2; exact h2 : PzM ln ⟨x0, x1, k, tk⟩ O2))
            have r0 := (smQ_any a0).lo; have r1 := (smQ_any a0).hi; have r2 := (smQ_any a1).lo; have r3 := (smQ_any a1).hi
            rw [hx0] at r0 r1; rw [hx1] at r2 r3
            have rtk := tkM_ran a3
            rw [htk] at rtk
            have wtk : IntKind.i16.wrap tk = tk := IntWalk.i16_in _ (by omega)
            have HO2 := Lib.hid hO2
            clear hws hst3 hn3 hx0 hx1 hv3 htk ho0 ho1 ho3 hO2
            go_wp2_with fail
            refine HN0.out.mono ?_
            rintro e w' ⟨rfl, h⟩
            obtain rfl : w3 = w' := h
            go_wp2_with fail
            refine HN1.out.mono ?_
            rintro e w' ⟨rfl, h⟩
            obtain rfl : w3 = w' := h
            go_wp2_with fail
            refine HN3.out.mono ?_
            rintro e w' ⟨rfl, h⟩
            obtain rfl : w3 = w' := h
            go_wp2_with fail
            refine HMN.out.mono ?_
            rintro e w' ⟨rfl, h⟩
            obtain rfl : w3 = w' := h
            obtain ⟨A2, hA2⟩ : ∃ A, bsT a2 = A := ⟨_, rfl⟩
            rw [hA2] at q2
            have HA2 := Lib.hid hA2
            have Q2 := Lib.hid (fun W2 (h2 : Below w3.heap.size w3 W2) => (h2.cell (p := ⟨g3, 2, none⟩) hg3).trans q2)
            obtain ⟨w2b, hw2b⟩ : ∃ z, w3.alloc (.cells #[.int .i8 x0, .int .i8 x1, .int .i8 (-1), .int .i16 tk] 73) = z := ⟨_, rfl⟩
            have k2b : Below w3.heap.size w3 w2b := by rw [← hw2b]; exact kAlloc (Below.refl _ _) _
            have b2b : w2b.heap[w3.heap.size]? = some (.cells #[.int .i8 x0, .int .i8 x1, .int .i8 (-1), .int .i16 tk] 73 (0, 0)) := by rw [← hw2b]; exact heap_alloc_new _ _
            obtain ⟨G, hG⟩ : ∃ G, w3.heap.size = G := ⟨_, rfl⟩
            have hG1 : w3.heap.size ≤ G := by omega
            rw [hG] at b2b
            have HG0 := Lib.hid b2b
            have HK0 := Lib.hid k2b
            have HKD := Lib.hid (show SdI a2 0 (-1) from .inl ⟨rfl, fun i h => by omega⟩)
            have Hw2b := Lib.hid hw2b
            have HGe := Lib.hid hG
            clear HN0 HN1 HN3 HMN q0 q1 q2 q3 hA2 b2b k2b hw2b hG
            go_upto_region 14 with fail
            try rw [Hw2b.out]
            try rw [HGe.out]
            clear Hw2b
            go_wp2
            go_loopw [16] (fun vk wi => ∃ (j : Nat) (kk : Int), j ≤ 4 ∧ vk = .int .i64 j ∧ Hid (SdI a2 j kk) ∧ Hid (wi.heap[G]? = some (.cells #[.int .i8 x0, .int .i8 x1, .int .i8 kk, .int .i16 tk] 73 (0, 0))) ∧ Hid (Below w3.heap.size w3 wi)) (fun vk _ => 4 - (intOf vk).toNat)
            case atStart => exact ⟨0, -1, by omega, rfl, HKD, HG0, HK0⟩
            case round =>
              clear HKD HG0 HK0
              obtain ⟨wi, hwi⟩ : ∃ wi, wi = wr := ⟨_, rfl⟩
              subst hwi
              obtain ⟨j, kk, hj, rfl, HKD, HGK, hBi⟩ := hrel
              by_cases hltj : j < 4
              · have hjZ : (j : Int) < 4 := by omega
                have hgi := Nat.lt_of_lt_of_le hg3 hBi.out.size
                obtain ⟨V, hV⟩ : ∃ V, bsT (sideWL (j : Int)) = V := ⟨_, rfl⟩
                have HVV := Lib.hid hV
                by_cases he : a2 = sideWL j
                · have e2 : V.toList = A2.toList := by rw [← hV, ← HA2.out, toL_bsT, toL_bsT, he]
                  have e1 : (V.toList == A2.toList) = true := by rw [e2]; exact beq_self_eq_true _
                  have wj : IntKind.i8.wrap (j : Int) = j := IntWalk.i8_in _ (by omega)
                  have HN := Lib.hid (show SdI a2 (j + 1) j from .inr ⟨j, by omega, rfl, he⟩)
                  clear he hV HKD
                  go_upto_region 17 with fail
                  refine regionW_of_HR (fun W' => Below wi.heap.size wi W') (by kernel_rfl) (Below.drew (Below.refl _ _)) (fun hHeld => ?_)
                  have K0 := Lib.hid hHeld
                  clear hHeld
                  obtain ⟨xt0, hxt0⟩ : ∃ z, wi.drew = z := ⟨_, rfl⟩
                  rw [hxt0] at K0 ⊢
                  clear hxt0
                  have hS_ : Below wi.heap.size wi xt0 := K0.out
                  refine wpAnyH_take (i := 1) (v := .int .i64 j) rfl (by kernel_rfl) (by kernel_rfl) (by kernel_rfl) (fun _ _ _ h => absurd h.1 (by simp)) (Or.inl ⟨by rfl, fun w7 hSw => ?_⟩) (by assumption) ?_
                  · clear hSw
                    go_simp
                  simp only [Act.put, List.getElem_toArray, List.getElem_cons_zero, List.getElem_cons_succ, List.setIfInBounds_toArray, List.set_cons_zero, List.set_cons_succ]
                  refine wpAnyH_take (i := 4) (v := .slice (some ⟨g3, 0, none⟩) 4 cap3) rfl (by kernel_rfl) (by kernel_rfl) (by kernel_rfl) (fun _ _ _ h => absurd h.1 (by simp)) (Or.inl ⟨by rfl, fun w7 hSw => ?_⟩) (by assumption) ?_
                  · clear hSw
                    go_simp
                  simp only [Act.put, List.getElem_toArray, List.getElem_cons_zero, List.getElem_cons_succ, List.setIfInBounds_toArray, List.set_cons_zero, List.set_cons_succ]
                  refine wpAnyH_take (i := 5) (v := .pointer (some ⟨g3, 2, none⟩)) rfl (by kernel_rfl) (by kernel_rfl) (by kernel_rfl) (fun _ _ _ h => absurd h.1 (by simp)) (Or.inl ⟨by rfl, fun w7 hSw => ?_⟩) (by assumption) ?_
                  · clear hSw
                    go_simp
                  simp only [Act.put, List.getElem_toArray, List.getElem_cons_zero, List.getElem_cons_succ, List.setIfInBounds_toArray, List.set_cons_zero, List.set_cons_succ]
                  refine wpAnyH_take (i := 6) (v := .string A2) rfl (by kernel_rfl) (by kernel_rfl) (by kernel_rfl) (fun _ _ _ h => absurd h.1 (by simp)) (Or.inl ⟨by rfl, fun w7 hSw => ?_⟩) (by assumption) ?_
                  · have q7 := Q2.out _ (kTrans hBi.out hSw)
                    have lq7 := Nat.lt_of_lt_of_le hgi hSw.size
                    clear hSw
                    go_simp
                  simp only [Act.put, List.getElem_toArray, List.getElem_cons_zero, List.getElem_cons_succ, List.setIfInBounds_toArray, List.set_cons_zero, List.set_cons_succ]
                  clear hS_
                  refine wpAnyH_ready (rs := [0]) (by kernel_rfl) (by simp) ?_
                  refine AllReadyH.cons rfl (fun K hK => ?_) AllReadyH.nil
                  go_simp
                  go_at_call 42
                  refine (l02Sides_any xt0).mono ?_
                  rintro e xt1 ⟨g6, rfl, hw6, hb6⟩
                  have K1x := Lib.hid (kTrans K0.out hb6)
                  have cw := hw6.1 j (by omega)
                  have lw := hw6.2
                  rw [HVV.out] at cw
                  refine hK.out _ _ K1x.out (fun _ => ?_)
                  clear hK K hw6 hb6
                  have hS_ : Below wi.heap.size wi xt1 := K1x.out
                  refine wpAnyH_take (i := 2) (v := .pointer (some ⟨g6, j, none⟩)) rfl (by kernel_rfl) (by kernel_rfl) (by kernel_rfl) (fun _ _ _ h => absurd h.1 (by simp)) (Or.inl ⟨by rfl, fun w7 hSw => ?_⟩) (by assumption) ?_
                  · clear hSw
                    go_simp
                  simp only [Act.put, List.getElem_toArray, List.getElem_cons_zero, List.getElem_cons_succ, List.setIfInBounds_toArray, List.set_cons_zero, List.set_cons_succ]
                  clear hS_
                  refine wpAnyH_ready (rs := [3]) (by kernel_rfl) (by simp) ?_
                  refine AllReadyH.cons rfl (fun K hK => ?_) AllReadyH.nil
                  go_simp
                  refine hK.out _ _ K1x.out (fun _ => ?_)
                  clear hK K cw lw
                  refine wpAnyH_ready (rs := [7]) (by kernel_rfl) (by simp) ?_
                  refine AllReadyH.cons rfl (fun K hK => ?_) AllReadyH.nil
                  go_simp
                  refine hK.out _ _ K1x.out (fun _ => ?_)
                  clear hK K
                  refine wpAnyH_done (by kernel_rfl) ?_ _
                  refine ⟨rfl, ?_⟩
                  have bG := blk_below HGK.out K1x.out
                  have cc2 : xt1.cell? ⟨G, 2, none⟩ = some (.int .i8 kk) := cell_of_row _ _ 2 _ _ _ bG
                  have y2 : xt1.frozen? ⟨G, 2, none⟩ = false := frozen_of_row _ _ 2 _ _ bG
                  have lG := blk_lt bG
                  have HGN := Lib.hid (blk_set_same' (i := 2) (v := .int .i8 (j : Int)) bG)
                  have HBN := Lib.hid (kSet (p := ⟨G, 2, none⟩) (kTrans hBi.out K1x.out) hG1 (.int .i8 (j : Int)))
                  clear bG HGK hBi
                  go_wp2
                  exact ⟨⟨j + 1, j, by omega, by go_num, HN, HGN, HBN⟩, by simp [intOf]; omega⟩
                · have e2 : ¬ V.toList = A2.toList := by rw [← hV, ← HA2.out, toL_bsT, toL_bsT]; exact fun h => he h.symm
                  have e1 : (V.toList == A2.toList) = false := beq_eq_false_iff_ne.2 e2
                  have HN := Lib.hid (show SdI a2 (j + 1) kk from by
                    rcases HKD.out with ⟨h1, h2⟩ | ⟨i, h1, h2, h3⟩
                    · exact .inl ⟨h1, fun i hi => by
                        by_cases h : i = j
                        · rw [h]; exact he
                        · exact h2 i (by omega)⟩
                    · exact .inr ⟨i, by omega, h2, h3⟩)
                  clear he hV HKD
                  go_upto_region 17 with fail
                  refine regionW_of_HR (fun W' => Below wi.heap.size wi W') (by kernel_rfl) (Below.drew (Below.refl _ _)) (fun hHeld => ?_)
                  have K0 := Lib.hid hHeld
                  clear hHeld
                  obtain ⟨xt0, hxt0⟩ : ∃ z, wi.drew = z := ⟨_, rfl⟩
                  rw [hxt0] at K0 ⊢
                  clear hxt0
                  have hS_ : Below wi.heap.size wi xt0 := K0.out
                  refine wpAnyH_take (i := 1) (v := .int .i64 j) rfl (by kernel_rfl) (by kernel_rfl) (by kernel_rfl) (fun _ _ _ h => absurd h.1 (by simp)) (Or.inl ⟨by rfl, fun w7 hSw => ?_⟩) (by assumption) ?_
                  · clear hSw
                    go_simp
                  simp only [Act.put, List.getElem_toArray, List.getElem_cons_zero, List.getElem_cons_succ, List.setIfInBounds_toArray, List.set_cons_zero, List.set_cons_succ]
                  refine wpAnyH_take (i := 4) (v := .slice (some ⟨g3, 0, none⟩) 4 cap3) rfl (by kernel_rfl) (by kernel_rfl) (by kernel_rfl) (fun _ _ _ h => absurd h.1 (by simp)) (Or.inl ⟨by rfl, fun w7 hSw => ?_⟩) (by assumption) ?_
                  · clear hSw
                    go_simp
                  simp only [Act.put, List.getElem_toArray, List.getElem_cons_zero, List.getElem_cons_succ, List.setIfInBounds_toArray, List.set_cons_zero, List.set_cons_succ]
                  refine wpAnyH_take (i := 5) (v := .pointer (some ⟨g3, 2, none⟩)) rfl (by kernel_rfl) (by kernel_rfl) (by kernel_rfl) (fun _ _ _ h => absurd h.1 (by simp)) (Or.inl ⟨by rfl, fun w7 hSw => ?_⟩) (by assumption) ?_
                  · clear hSw
                    go_simp
                  simp only [Act.put, List.getElem_toArray, List.getElem_cons_zero, List.getElem_cons_succ, List.setIfInBounds_toArray, List.set_cons_zero, List.set_cons_succ]
                  refine wpAnyH_take (i := 6) (v := .string A2) rfl (by kernel_rfl) (by kernel_rfl) (by kernel_rfl) (fun _ _ _ h => absurd h.1 (by simp)) (Or.inl ⟨by rfl, fun w7 hSw => ?_⟩) (by assumption) ?_
                  · have q7 := Q2.out _ (kTrans hBi.out hSw)
                    have lq7 := Nat.lt_of_lt_of_le hgi hSw.size
                    clear hSw
                    go_simp
                  simp only [Act.put, List.getElem_toArray, List.getElem_cons_zero, List.getElem_cons_succ, List.setIfInBounds_toArray, List.set_cons_zero, List.set_cons_succ]
                  clear hS_
                  refine wpAnyH_ready (rs := [0]) (by kernel_rfl) (by simp) ?_
                  refine AllReadyH.cons rfl (fun K hK => ?_) AllReadyH.nil
                  go_simp
                  go_at_call 42
                  refine (l02Sides_any xt0).mono ?_
                  rintro e xt1 ⟨g6, rfl, hw6, hb6⟩
                  have K1x := Lib.hid (kTrans K0.out hb6)
                  have cw := hw6.1 j (by omega)
                  have lw := hw6.2
                  rw [HVV.out] at cw
                  refine hK.out _ _ K1x.out (fun _ => ?_)
                  clear hK K hw6 hb6
                  have hS_ : Below wi.heap.size wi xt1 := K1x.out
                  refine wpAnyH_take (i := 2) (v := .pointer (some ⟨g6, j, none⟩)) rfl (by kernel_rfl) (by kernel_rfl) (by kernel_rfl) (fun _ _ _ h => absurd h.1 (by simp)) (Or.inl ⟨by rfl, fun w7 hSw => ?_⟩) (by assumption) ?_
                  · clear hSw
                    go_simp
                  simp only [Act.put, List.getElem_toArray, List.getElem_cons_zero, List.getElem_cons_succ, List.setIfInBounds_toArray, List.set_cons_zero, List.set_cons_succ]
                  clear hS_
                  refine wpAnyH_ready (rs := [3]) (by kernel_rfl) (by simp) ?_
                  refine AllReadyH.cons rfl (fun K hK => ?_) AllReadyH.nil
                  go_simp
                  refine hK.out _ _ K1x.out (fun _ => ?_)
                  clear hK K cw lw
                  refine wpAnyH_ready (rs := [7]) (by kernel_rfl) (by simp) ?_
                  refine AllReadyH.cons rfl (fun K hK => ?_) AllReadyH.nil
                  go_simp
                  refine hK.out _ _ K1x.out (fun _ => ?_)
                  clear hK K
                  refine wpAnyH_done (by kernel_rfl) ?_ _
                  refine ⟨rfl, ?_⟩
                  have HGN := Lib.hid (blk_below HGK.out K1x.out)
                  have HBN := Lib.hid (kTrans hBi.out K1x.out)
                  clear HGK hBi
                  go_wp2
                  exact ⟨⟨j + 1, kk, by omega, by go_num, HN, HGN, HBN⟩, by simp [intOf]; omega⟩
              · obtain rfl : j = 4 := by omega
                have HWD := Lib.hid (show WdQ sideWL 4 a2 kk from by
                  rcases HKD.out with ⟨h1, h2⟩ | ⟨i, h1, h2, h3⟩
                  · exact ⟨by omega, fun h => by omega, fun _ => h2⟩
                  · exact ⟨by omega, fun _ => by rw [h2]; exact h3, fun h => by omega⟩)
                have bG := HGK.out
                have d0 : wi.cell? ⟨G, 0, none⟩ = some (.int .i8 x0) := cell_of_row _ _ 0 _ _ _ bG
                have d1 : wi.cell? ⟨G, 1, none⟩ = some (.int .i8 x1) := cell_of_row _ _ 1 _ _ _ bG
                have d2 : wi.cell? ⟨G, 2, none⟩ = some (.int .i8 kk) := cell_of_row _ _ 2 _ _ _ bG
                have d3 : wi.cell? ⟨G, 3, none⟩ = some (.int .i16 tk) := cell_of_row _ _ 3 _ _ _ bG
                have lG := blk_lt bG
                have hmp := HMP.out kk HWD.out
                have HYN := Lib.hid (pz_Y HY.out Hln.out hmp)
                have HON := Lib.hid (pz_O HLS.out HO.out Hln.out hAl hmp)
                have HWN := Lib.hid (show PusWf (A ++ [(⟨x0, x1, kk, tk⟩ : Pu)]) from fun x hx => by
                  rcases List.mem_append.1 hx with hx | hx
                  · exact HWF.out x hx
                  · obtain rfl := List.mem_singleton.1 hx
                    exact hmp.wf)
                have K4 := Lib.hid (kTrans K3.out hBi.out)
                have Own4 := Lib.hid (owns_below hown.out (kTrans HB3.out hBi.out))
                have Hblk := Lib.hid (owns_block Own4.out)
                have hz4 := K4.out.size
                have hBw4 : B ≤ wi.heap.size := by have := HBe.out; omega
                have hA2 : A.length ≤ 1048576 := by omega
                clear HMP hmp HWD HKD HGK bG hBi HY HO HWF hown hB HB3 K3 Hln HWS Q2 HA2
                go_upto_region 19 with fail
                go_cut [6] (fun s6 wx => s6 = .bool O2 ∧ wi = wx)
                case first =>
                  clear d0 d1 d2 d3
                  cases o0 with
                  | true =>
                    cases o1 with
                    | true =>
                      obtain rfl : o3 = O2 := HO2.out
                      go_wp2
                      go_meet
                      exact ⟨rfl, rfl⟩
                    | false =>
                      obtain rfl : false = O2 := HO2.out
                      go_wp2
                      go_meet
                      exact ⟨rfl, rfl⟩
                  | false =>
                    obtain rfl : false = O2 := HO2.out
                    go_wp2
                    go_meet
                    exact ⟨rfl, rfl⟩
                case rest =>
                  obtain ⟨rfl, rfl⟩ := hcut
                  clear HO2
                  go_wp2_with (at_builtin; refine wpList_append_own _ rfl _ _ 32 rfl B 73 j0 _ 4 6 Tryd.underlying32 Hj.out Hj1.out Hj2.out Hj3.out rfl (by decide) (.slice va A.length vc) A.length (flatPu A) rfl (owns_below Own4.out (by repeat (first | with_reducible exact Below.refl _ _ | (with_reducible refine kSet ?_ ?hB _; case hB => (simp; try omega)) | with_reducible refine kAlloc ?_ _ | with_reducible refine Below.drew ?_ | with_reducible refine kDrewN ?_ _ | with_reducible refine kTrans ?_ (by assumption)))) ⟨wi.heap.size, 0, none⟩ 1 1 [.int .i8 x0, .int .i8 x1, .int .i8 kk, .int .i16 tk] rfl rfl (World.news_of_block (cs := #[.int .i8 x0, .int .i8 x1, .int .i8 kk, .int .i16 tk]) (heap_alloc_new _ _)) (by simp [Value.oneCell']) ?qc4 ?qc5 ?qc6 ?_)
                  case qc4 => unfold maxLen; omega
                  case qc5 => omega
                  case qc6 => simp; omega
                  intro v7 w7 hown7 hgr7 hnil
                  obtain ⟨vb, vd, rfl⟩ := owns_slice hown7
                  have k6 : Below wi.heap.size wi (wi.alloc (.cells #[.int .i8 x0, .int .i8 x1, .int .i8 kk, .int .i16 tk] 73)) := kAlloc (Below.refl _ _) _
                  have hB7 : Below w1.heap.size w1 w7 := (kTrans K4.out k6).grown hgr7 (kTrans K4.out k6).size (by intro q hq; have := (Hblk.out q hq).1; have := HBe.out; omega)
                  have hal : (A ++ [(⟨x0, x1, kk, tk⟩ : Pu)]).length = A.length + 1 := by rw [List.length_append]; rfl
                  have Own8 := Lib.hid (show w7.ownsRow B 73 4 (.slice vb (A ++ [(⟨x0, x1, kk, tk⟩ : Pu)]).length vd) (A ++ [(⟨x0, x1, kk, tk⟩ : Pu)]).length (flatPu (A ++ [(⟨x0, x1, kk, tk⟩ : Pu)])) by rw [hal, flatPu_end]; exact hown7)
                  have HB8 := Lib.hid hB7
                  have hal3 : Hid (c + 1 = (A ++ [(⟨x0, x1, kk, tk⟩ : Pu)]).length) := Lib.hid (by rw [hal, HCc.out])
                  have hal4 := Lib.hid hal
                  clear hal hown7 hgr7 hnil hB7 k6 Own4 Hblk d0 d1 d2 d3
                  go_wp2
                  exact ⟨⟨O2, A ++ [⟨x0, x1, kk, tk⟩], vb, vd, c + 1, by omega, hal3, by rw [hal4.out], rfl, by go_num, HYN, HON, HWN, Own8, HB8⟩, by simp [intOf]; omega⟩
          · obtain ⟨rfl, rfl⟩ := HA.out.no (pz_short HLS.out HO.out Hln.out hAl (by rw [hn3]; exact h3))
            have e6 : ¬ ((n3 : Nat) : Int) = 4 := by omega
            have T3 := kTrans K1.out K3.out
            clear HO HA hn3 hst3
            go_wp2
            exact bodyPost_ret (v := .tuple #[.slice (some ⟨w3.heap.size, 0, none⟩) 0 0, .int .i64 5]) (by simp [results, Tryd.results12, go_sem]) rfl ⟨_, rfl, .empty _ _ rfl, kAlloc T3 _⟩
        · obtain rfl : c = M := by omega
          have hcc : ¬ (c : Int) + 1 < (N : Int) := by omega
          have hcd : decide ((c : Int) + 1 < (N : Int)) = false := by simpa using hcc
          have hA2 : A.length ≤ 1048576 := by omega
          have hAN : A.length + 1 = N := by have := HCc.out; omega
          obtain ⟨R, hR⟩ : ∃ R, R = pzOk A := ⟨_, rfl⟩
          have HCK := Lib.hid (pzChk_sl (.slice va A.length vc) A wr (SlWPu.of_owns (n := A.length) (l := A) hown.out).sl HWF.out hA2 R hR)
          have T3 := Lib.hid (kTrans K1.out hB.out)
          have HRR := Lib.hid hR
          clear hR hMN
          go_wp2_with fail
          refine HCK.out.mono ?_
          rintro e w4 ⟨rfl, hb4⟩
          have T4 := kTrans T3.out hb4
          cases R with
          | false =>
            obtain ⟨rfl, rfl⟩ := HA.out.no (fun r h1 h2 => by have h3 := pz_mend HO.out hAN r h1 h2; have h4 := HRR.out; rw [h3, h1] at h4; cases h4)
            clear HA HO HY HCK hb4 hown
            go_wp2
            exact bodyPost_ret (v := .tuple #[.slice (some ⟨w4.heap.size, 0, none⟩) 0 0, .int .i64 5]) (by simp [results, Tryd.results12, go_sem]) rfl ⟨_, rfl, .empty _ _ rfl, kAlloc T4 _⟩
          | true =>
            obtain ⟨rfl, rfl⟩ := HA.out.yes HRR.out.symm (pz_mtext HLS.out (by rw [HM.out]; omega) HY.out HRR.out.symm)
            have HO4 := Lib.hid ((SlWPu.of_owns (n := L.length) (l := L) hown.out).below hb4)
            have hb4s := hb4.size
            clear HA HO HY HCK hb4 hown
            go_wp2
            exact bodyPost_ret (v := .tuple #[.slice va L.length vc, .int .i64 0]) (by simp [results, Tryd.results12, go_sem]) rfl ⟨_, rfl, HO4.out.mono hw (by omega), T4⟩
end Go.Proofs.YthngnbaoaeomeaaDoor
