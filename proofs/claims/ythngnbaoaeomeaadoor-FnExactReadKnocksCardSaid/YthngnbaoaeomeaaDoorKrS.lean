/- ReadKnocks: the model's walk. -/
import Derived.Test.YthngnbaoaeomeaaDoorKrM
namespace Go.Proofs.YthngnbaoaeomeaaDoor
open Go.ChangeShapes Go.WideShapes Go.ChangeAt Go.RowKit Go.Joins Go.Deep
set_option linter.unusedVariables false
set_option linter.unusedSimpArgs false

set_option maxRecDepth 100000 in
set_option maxHeartbeats 16000000 in
theorem specReadKnocks_any (l : List UInt8) (w : World) (hl : l.length ≤ 1048576) (L : List Ko) (Cc : Int) (hA : KrA l L Cc) : Calls Tryd.prog 17 #[.string (bsT l)] w (KrPost L Cc w) := by
  obtain ⟨j0, hj0, hj1, hj2, hj3⟩ := info_parts info_KoR
  have Hj := Lib.hid hj0
  have Hj1 := Lib.hid hj1
  have Hj2 := Lib.hid hj2
  have Hj3 := Lib.hid hj3
  have HA := Lib.hid hA
  have HSP := Lib.hid (l01Split_any l 10 w (by omega) 10 rfl)
  obtain ⟨Ls, hLs⟩ : ∃ Ls, spl 10 l = Ls := ⟨_, rfl⟩
  have hNl := spl_length 10 l
  obtain ⟨M, hM⟩ : ∃ M, Ls.length = M + 1 := by
    obtain ⟨x, r, h⟩ := spl_some 10 l
    exact ⟨r.length, by rw [← hLs, h]; rfl⟩
  have HSH := Lib.hid (fun x (hx : x ∈ Ls) => (by rw [← hLs] at hx; have := spl_short 10 l x hx; omega : x.length ≤ 1048576))
  have HLS := Lib.hid hLs
  have HM := Lib.hid hM
  rw [hLs] at HSP hNl
  rw [hM] at hNl
  have hMb : M ≤ 1048576 := by omega
  obtain ⟨z, hz⟩ : ∃ z, Ls.getLastD [] = z := ⟨_, rfl⟩
  have hzM : Ls[M]? = some z := by
    rw [← hz]
    cases Ls with
    | nil => simp at hM
    | cons y r => simp at hM; simp [List.getLastD]; rw [List.getLast_eq_getElem]; simp [hM]
  have HZ := Lib.hid hz
  obtain ⟨OK, hOK⟩ : ∃ OK : Bool, OK = decide (z = []) := ⟨_, rfl⟩
  have HY0 := Lib.hid (kr_Y0 Ls (ok := OK) (fun h => by rw [hz]; rw [hOK] at h; exact of_decide_eq_true h))
  have HO0 := Lib.hid (kr_O0 hLs (ok := OK) (fun h => by rw [hz] at h; rw [hOK]; exact decide_eq_true h))
  rw [hM] at HO0
  clear hj0 hj1 hj2 hj3 hA hLs hM hz hl
  go_enter Tryd.func17, Tryd.ntmps17
  go_wp2_with fail
  refine HSP.out.mono ?_
  rintro e w1 ⟨g, cap, rfl, hcap, hst, hg, _, hb1⟩
  have K1 := Lib.hid hb1
  have HST := Lib.hid (fun W2 (h2 : Below w1.heap.size w1 W2) => hst.below h2 hg)
  have n1 := hb1.size
  clear HSP hst hb1
  rw [HM.out] at hcap ⊢
  obtain ⟨N, hN⟩ : ∃ N, M + 1 = N := ⟨_, rfl⟩
  rw [hN] at hcap hNl HO0 ⊢
  obtain ⟨B, hB⟩ : ∃ B, w1.heap.size = B := ⟨_, rfl⟩
  obtain ⟨W2, hW2⟩ : ∃ z, w1.alloc (.cells #[] 82) = z := ⟨_, rfl⟩
  have k2 : Below w1.heap.size w1 W2 := by rw [← hW2]; exact kAlloc (Below.refl _ _) _
  have own0 : Hid (W2.ownsRow B 82 3 (.slice (some ⟨B, 0, none⟩) ([] : List Ko).length 0) ([] : List Ko).length (flatKo [])) := Lib.hid (owns_new (Nat.le_refl _) (by rw [← hW2, ← hB]; exact heap_alloc_new _ _))
  have HB0 := Lib.hid k2
  have hw : w.heap.size ≤ B := by omega
  have qz : W2.cell? ⟨g, M, none⟩ = some (.string (bsT z)) := by have h := HST.out W2 k2 M z hzM; rwa [Nat.zero_add] at h
  have hg2 := Nat.lt_of_lt_of_le hg k2.size
  have HWF := Lib.hid (show KosWf ([] : List Ko) from fun p hp => by simp at hp)
  have Hw2 := Lib.hid hW2
  have HBe := Lib.hid hB
  obtain ⟨Z, hZ⟩ : ∃ Z, bsT z = Z := ⟨_, rfl⟩
  rw [hZ] at qz
  have hMN : M < N := by omega
  have wM : IntKind.i64.wrap ((N : Int) - 1) = (M : Int) := by rw [show (N : Int) - 1 = (M : Int) by omega]; exact IntWalk.i64_in _ (by omega)
  have eM : (N : Int) - 1 = (M : Int) := by omega
  clear hW2 k2 hB hzM
  go_upto_region 3 with fail
  try rw [Hw2.out]
  try rw [HBe.out]
  clear Hw2
  go_cut [6] (fun s6 wx => s6 = .bool OK ∧ W2 = wx)
  case first =>
    have zz := Lib.hid (show Z.toList.isEmpty = OK by
      rw [← hZ, toL_bsT, hOK]
      cases z <;> simp)
    clear hZ hOK
    go_wp2
    go_meet
    exact ⟨by rw [zz.out], rfl⟩
  case rest =>
    obtain ⟨rfl, rfl⟩ := hcut
    clear qz hg2 wM eM hZ hOK
    go_wp2
    go_loopw [5, 6, 7, 8, 9, 10, 11, 12] (fun vl vo vi v8 v9 v10 v11 v12 wr => ∃ (ok : Bool) (A : List Ko) (va : Option Addr) (vc c : Nat), c ≤ M ∧ Hid (c = A.length) ∧ vl = .slice va A.length vc ∧ vo = .bool ok ∧ vi = .int .i64 c ∧ Hid (KrY Ls A ok) ∧ Hid (KrO l N A ok) ∧ Hid (KosWf A) ∧ Hid (wr.ownsRow B 82 3 (.slice va A.length vc) A.length (flatKo A)) ∧ Hid (Below w1.heap.size w1 wr)) (fun _ _ vi _ _ _ _ _ _ => N - (intOf vi).toNat)
    case atStart => exact ⟨OK, [], _, _, 0, by omega, Lib.hid rfl, rfl, rfl, rfl, HY0, HO0, HWF, own0, HB0⟩
    case round =>
      clear HY0 HO0 HWF own0 HB0
      obtain ⟨ok, A, va, vc, c, hcM, HCc, rfl, rfl, rfl, HY, HO, HWF, hown, hB⟩ := hrel
      have hBs := hB.out.size
      have hMN : M + 1 = N := hN
      have wc : IntKind.i64.wrap ((c : Int) + 1) = (c : Int) + 1 := IntWalk.i64_in _ (by omega)
      have hAn : A.length + 1 ≤ N := by have := HCc.out; omega
      cases ok with
      | false =>
        obtain ⟨rfl, rfl⟩ := HA.out.no (fun r h1 h2 => by have h3 := (HO.out r h1 h2).1; cases h3)
        have T3 := kTrans K1.out hB.out
        by_cases hlt : c < M
        · have hcc : (c : Int) + 1 < (N : Int) := by omega
          clear HO HA hMN
          go_wp2
          exact bodyPost_ret (v := .tuple #[.slice (some ⟨wr.heap.size, 0, none⟩) 0 0, .int .i64 5]) (by simp [results, Tryd.results17, go_sem]) rfl ⟨_, rfl, .empty _ _ rfl, kAlloc T3 _⟩
        · have hcc : ¬ (c : Int) + 1 < (N : Int) := by omega
          have hcd : decide ((c : Int) + 1 < (N : Int)) = false := by simpa using hcc
          clear HO HA hMN
          go_wp2
          exact bodyPost_ret (v := .tuple #[.slice (some ⟨wr.heap.size, 0, none⟩) 0 0, .int .i64 5]) (by simp [results, Tryd.results17, go_sem]) rfl ⟨_, rfl, .empty _ _ rfl, kAlloc T3 _⟩
      | true =>
        by_cases hlt : c < M
        · obtain ⟨ln, hln⟩ : ∃ ln, Ls[A.length]? = some ln := ⟨_, List.getElem?_eq_getElem (by have := HM.out; have := HCc.out; omega)⟩
          have hlm : ln.length ≤ 1048576 := HSH.out ln (List.mem_of_getElem? hln)
          have q : wr.cell? ⟨g, c, none⟩ = some (.string (bsT ln)) := by have h := HST.out wr hB.out c ln (by rw [HCc.out]; exact hln); rwa [Nat.zero_add] at h
          have hgr := Nat.lt_of_lt_of_le hg hB.out.size
          have hcN : c < N := by omega
          have hcc : (c : Int) + 1 < (N : Int) := by omega
          have hAl : A.length + 1 < N := by have := HCc.out; omega
          have HS2 := Lib.hid (l01Split_any ln 32 wr (by omega) 32 rfl)
          have Hln := Lib.hid hln
          clear hln hlm hMN
          go_wp2_with fail
          refine HS2.out.mono ?_
          rintro e w3 ⟨g3, cap3, rfl, hcap3, hst3, hg3, _, hb3⟩
          have K3 := Lib.hid (kTrans hB.out hb3)
          have HB3 := Lib.hid hb3
          have hb3s := hb3.size
          obtain ⟨n3, hn3⟩ : ∃ n3, (spl 32 ln).length = n3 := ⟨_, rfl⟩
          rw [hn3] at hcap3 ⊢
          clear HS2 hb3 q
          by_cases h3 : n3 = 3
          · subst h3
            obtain ⟨a0, a1, a2, hws⟩ := kr_three hn3
            have HWS := Lib.hid hws
            rw [hws] at hst3
            have q0 : w3.cell? ⟨g3, 0, none⟩ = some (.string (bsT a0)) := by have h := hst3 0 a0 rfl; rwa [Nat.zero_add] at h
            have q1 : w3.cell? ⟨g3, 1, none⟩ = some (.string (bsT a1)) := by have h := hst3 1 a1 rfl; rwa [Nat.zero_add] at h
            have q2 : w3.cell? ⟨g3, 2, none⟩ = some (.string (bsT a2)) := by have h := hst3 2 a2 rfl; rwa [Nat.zero_add] at h
            obtain ⟨v0, hv0⟩ : ∃ v, numV a0 = v := ⟨_, rfl⟩
            obtain ⟨v1, hv1⟩ : ∃ v, numV a1 = v := ⟨_, rfl⟩
            obtain ⟨o0, ho0⟩ : ∃ v, numOk a0 = v := ⟨_, rfl⟩
            obtain ⟨o1, ho1⟩ : ∃ v, numOk a1 = v := ⟨_, rfl⟩
            obtain ⟨O2, hO2⟩ : ∃ v, (o0 && o1) = v := ⟨_, rfl⟩
            have HN0 := Lib.hid (l01Number_any a0 w3 v0 o0 ho0 (by rw [← ho0]; exact hv0))
            have HN1 := Lib.hid (l01Number_any a1 w3 v1 o1 ho1 (by rw [← ho1]; exact hv1))
            have HWD := Lib.hid (l05Word_any a2 w3)
            have HMP := Lib.hid (fun (k : Int) (h : WdQ sideWL 4 a2 k) => (by have h2 := kr_M HWS.out h; rw [hv0, hv1, ho0, ho1, hO2] at h2; exact h2 : KrM ln ⟨v0, v1, k⟩ O2))
            have HO2 := Lib.hid hO2
            clear hws hst3 hn3 hv0 hv1 ho0 ho1 hO2
            go_wp2_with fail
            refine HN0.out.mono ?_
            rintro e w' ⟨rfl, h⟩
            obtain rfl : w3 = w' := h
            go_wp2_with fail
            refine HN1.out.mono ?_
            rintro e w' ⟨rfl, h⟩
            obtain rfl : w3 = w' := h
            clear HN0 HN1 q0 q1
            go_upto_region 12 with fail
            go_cut [6] (fun s6 wx => s6 = .bool O2 ∧ w3 = wx)
            case first =>
              clear q2 HWD HMP
              cases o0 with
              | true =>
                obtain rfl : o1 = O2 := HO2.out
                go_wp2
                go_meet
                exact ⟨rfl, rfl⟩
              | false =>
                obtain rfl : false = O2 := HO2.out
                go_wp2
                go_meet
                exact ⟨rfl, rfl⟩
            case rest =>
              obtain ⟨rfl, rfl⟩ := hcut
              clear HO2
              go_wp2_with fail
              refine HWD.out.mono ?_
              rintro e w4 ⟨k, rfl, hk, hb4⟩
              have hmp := HMP.out k hk
              have HYN := Lib.hid (kr_Y HY.out Hln.out hmp)
              have HON := Lib.hid (kr_O HLS.out HO.out Hln.out hAl hmp)
              have HWN := Lib.hid (show KosWf (A ++ [(⟨v0, v1, k⟩ : Ko)]) from fun x hx => by
                rcases List.mem_append.1 hx with hx | hx
                · exact HWF.out x hx
                · obtain rfl := List.mem_singleton.1 hx
                  exact hmp.wf)
              have K4 := Lib.hid (kTrans K3.out hb4)
              have Own4 := Lib.hid (owns_below hown.out (kTrans HB3.out hb4))
              have Hblk := Lib.hid (owns_block Own4.out)
              have hz4 := K4.out.size
              have hBw4 : B ≤ w4.heap.size := by have := HBe.out; omega
              have hA2 : A.length ≤ 1048576 := by omega
              clear HWD HMP hk hmp hb4 q2 HY HO HWF hown hB HB3 K3 Hln
              go_wp2_with (at_builtin; refine wpList_append_own _ rfl _ _ 37 rfl B 82 j0 _ 3 24 Tryd.underlying37 Hj.out Hj1.out Hj2.out Hj3.out rfl (by decide) (.slice va A.length vc) A.length (flatKo A) rfl (owns_below Own4.out (by repeat (first | with_reducible exact Below.refl _ _ | (with_reducible refine kSet ?_ ?hB _; case hB => (simp; try omega)) | with_reducible refine kAlloc ?_ _ | with_reducible refine Below.drew ?_ | with_reducible refine kDrewN ?_ _ | with_reducible refine kTrans ?_ (by assumption)))) ⟨w4.heap.size, 0, none⟩ 1 1 [.int .i64 v0, .int .i64 v1, .int .i8 k] rfl rfl (World.news_of_block (cs := #[.int .i64 v0, .int .i64 v1, .int .i8 k]) (heap_alloc_new _ _)) (by simp [Value.oneCell']) ?qc4 ?qc5 ?qc6 ?_)
              case qc4 => unfold maxLen; omega
              case qc5 => omega
              case qc6 => simp; omega
              intro v7 w7 hown7 hgr7 hnil
              obtain ⟨vb, vd, rfl⟩ := owns_slice hown7
              have k6 : Below w4.heap.size w4 (w4.alloc (.cells #[.int .i64 v0, .int .i64 v1, .int .i8 k] 82)) := kAlloc (Below.refl _ _) _
              have hB7 : Below w1.heap.size w1 w7 := (kTrans K4.out k6).grown hgr7 (kTrans K4.out k6).size (by intro q hq; have := (Hblk.out q hq).1; have := HBe.out; omega)
              have hal : (A ++ [(⟨v0, v1, k⟩ : Ko)]).length = A.length + 1 := by rw [List.length_append]; rfl
              have Own8 := Lib.hid (show w7.ownsRow B 82 3 (.slice vb (A ++ [(⟨v0, v1, k⟩ : Ko)]).length vd) (A ++ [(⟨v0, v1, k⟩ : Ko)]).length (flatKo (A ++ [(⟨v0, v1, k⟩ : Ko)])) by rw [hal, flatKo_end]; exact hown7)
              have HB8 := Lib.hid hB7
              have hal3 : Hid (c + 1 = (A ++ [(⟨v0, v1, k⟩ : Ko)]).length) := Lib.hid (by rw [hal, HCc.out])
              have hal4 := Lib.hid hal
              clear hal hown7 hgr7 hnil hB7 k6 Own4 Hblk
              go_wp2
              exact ⟨⟨O2, A ++ [⟨v0, v1, k⟩], vb, vd, c + 1, by omega, hal3, by rw [hal4.out], rfl, by go_num, HYN, HON, HWN, Own8, HB8⟩, by simp [intOf]; omega⟩
          · obtain ⟨rfl, rfl⟩ := HA.out.no (kr_short HLS.out HO.out Hln.out hAl (by rw [hn3]; exact h3))
            have e6 : ¬ ((n3 : Nat) : Int) = 3 := by omega
            have T3 := kTrans K1.out K3.out
            clear HO HA hn3 hst3
            go_wp2
            exact bodyPost_ret (v := .tuple #[.slice (some ⟨w3.heap.size, 0, none⟩) 0 0, .int .i64 5]) (by simp [results, Tryd.results17, go_sem]) rfl ⟨_, rfl, .empty _ _ rfl, kAlloc T3 _⟩
        · obtain rfl : c = M := by omega
          have hcc : ¬ (c : Int) + 1 < (N : Int) := by omega
          have hcd : decide ((c : Int) + 1 < (N : Int)) = false := by simpa using hcc
          have hA2 : A.length ≤ 1048576 := by omega
          have hAN : A.length + 1 = N := by have := HCc.out; omega
          obtain ⟨R, hR⟩ : ∃ R, R = krOk A := ⟨_, rfl⟩
          have HCK := Lib.hid (krChk_sl (.slice va A.length vc) A wr (SlWKo.of_owns (n := A.length) (l := A) hown.out).sl HWF.out hA2 R hR)
          have T3 := Lib.hid (kTrans K1.out hB.out)
          have HRR := Lib.hid hR
          clear hR hMN
          go_wp2_with fail
          refine HCK.out.mono ?_
          rintro e w4 ⟨rfl, hb4⟩
          have T4 := kTrans T3.out hb4
          cases R with
          | false =>
            obtain ⟨rfl, rfl⟩ := HA.out.no (fun r h1 h2 => by have h3 := kr_mend HO.out hAN r h1 h2; have h4 := HRR.out; rw [h3, h1] at h4; cases h4)
            clear HA HO HY HCK hb4 hown
            go_wp2
            exact bodyPost_ret (v := .tuple #[.slice (some ⟨w4.heap.size, 0, none⟩) 0 0, .int .i64 5]) (by simp [results, Tryd.results17, go_sem]) rfl ⟨_, rfl, .empty _ _ rfl, kAlloc T4 _⟩
          | true =>
            obtain ⟨rfl, rfl⟩ := HA.out.yes HRR.out.symm (kr_mtext HLS.out (by rw [HM.out]; omega) HY.out HRR.out.symm)
            have HO4 := Lib.hid ((SlWKo.of_owns (n := L.length) (l := L) hown.out).below hb4)
            have hb4s := hb4.size
            clear HA HO HY HCK hb4 hown
            go_wp2
            exact bodyPost_ret (v := .tuple #[.slice va L.length vc, .int .i64 0]) (by simp [results, Tryd.results17, go_sem]) rfl ⟨_, rfl, HO4.out.mono hw (by omega), T4⟩
end Go.Proofs.YthngnbaoaeomeaaDoor
