/- KnocksText: the model. -/
import Derived.Test.YtmllfacgonchnaaDoorKn0
namespace Go.Proofs.YtmllfacgonchnaaDoor
open Go.ChangeShapes Go.WideShapes Go.ChangeAt Go.RowKit Go.Joins Go.Deep
set_option linter.unusedVariables false
set_option linter.unusedSimpArgs false

def SzP (b j : Nat) (ka kp ks : Int) (w : World) : Prop := KoAt w b (j * 3) ⟨ka, kp, ks⟩ ∧ b < w.heap.size
theorem SzP.below {b j : Nat} {ka kp ks : Int} {w w' : World} (h : SzP b j ka kp ks w) (g : Below w.heap.size w w') : SzP b j ka kp ks w' := ⟨h.1.below g h.2, Nat.lt_of_lt_of_le h.2 g.size⟩
def K4 (w : World) (g : Nat) : Prop := (∀ k : Nat, k < 4 → w.cell? ⟨g, k, none⟩ = some (.string (bsT (sideWL (k : Int))))) ∧ g < w.heap.size
theorem l02SidesK_any (w : World) : Calls Tryd.prog 89 #[] w fun e w' => ∃ g, e = .returned (.slice (some ⟨g, 0, none⟩) 4 4) ∧ K4 w' g ∧ Below w.heap.size w w' := by
  go_enter Tryd.func89, Tryd.ntmps89
  go_wp2
  go_ret
  refine ⟨w.heap.size, rfl, ⟨fun k hk => ?_, by simp⟩, by repeat (first | with_reducible exact Below.refl _ _ | (with_reducible refine kSet ?_ ?hB _; case hB => (simp; try omega)) | with_reducible refine kAlloc ?_ _ | with_reducible refine Below.drew ?_ | with_reducible refine kDrewN ?_ _ | with_reducible refine kTrans ?_ (by assumption))⟩
  rw [cell_of_row _ _ k _ _ _ (nNewX _ _)]
  have hc : k = 0 ∨ k = 1 ∨ k = 2 ∨ k = 3 := by omega
  rcases hc with rfl | rfl | rfl | rfl <;> rfl
set_option maxRecDepth 100000 in
set_option maxHeartbeats 16000000 in
theorem l07Text_any (b n : Nat) (l : List Ko) (w : World) (hn : l.length = n) (hp : KosAt w b 0 l) (hb : b < w.heap.size) (hR : (decide (n ≤ 60) && kplains l) = true) (S : ByteArray) (hS : bsT (koL l) = S) :
    Calls Tryd.prog 65 #[.slice (some ⟨b, 0, none⟩) n n] w fun e w' => e = .returned (.string S) ∧ Below w.heap.size w w' := by
  have hR2 : n ≤ 60 ∧ kplains l = true := by simpa using hR
  have hn200 : n ≤ 60 := hR2.1
  have HIN := Lib.hid (fun p (hp : p ∈ l) => koIn_of (kplains_mem hR2.2 p hp))
  have HP := Lib.hid (fun W2 (h2 : Below w.heap.size w W2) => hp.below h2 hb)
  have Hn := Lib.hid hn
  have HS := Lib.hid hS
  have HST := Lib.hid (show bsT (koL (l.take 0)) = (⟨#[]⟩ : ByteArray) by rfl)
  clear hn hp hR hS hR2
  go_enter Tryd.func65, Tryd.ntmps65
  go_wp2
  go_loopw [3, 4, 5] (fun s i pp wr => ∃ (j : Nat) (O : ByteArray) (v : Value), j ≤ n ∧ i = .int .i64 j ∧ s = .string O ∧ pp = v ∧ Hid (bsT (koL (l.take j)) = O) ∧ Hid (Below w.heap.size w wr)) (fun _ i _ _ => n - (intOf i).toNat)
  case atStart => exact ⟨0, _, _, by omega, rfl, rfl, rfl, HST, Lib.hid (Below.refl _ _)⟩
  case round =>
    clear HST
    obtain ⟨j, O, v, hj, rfl, rfl, rfl, hO, hB⟩ := hrel
    by_cases hlt : j < n
    · have hlk : j < l.length := by rw [Hn.out]; exact hlt
      obtain ⟨p, hpj⟩ : ∃ p, l[j] = p := ⟨_, rfl⟩
      have hin := HIN.out p (by rw [← hpj]; exact List.getElem_mem hlk)
      have hll := koL_len (l.take j) (fun q hq => HIN.out q (List.mem_of_mem_take hq))
      rw [List.length_take] at hll
      have hOs : O.size ≤ 8000 := by rw [← hO.out, bsT_size]; omega
      have HNX := Lib.hid (show koL (l.take (j + 1)) = koL (l.take j) ++ koLine p by rw [koL_succ hlk, hpj])
      have hpc := (show KoAt wr b (0 + j * 3) p by have h := HP.out wr hB.out j hlk; rw [hpj] at h; exact h)
      rw [Nat.zero_add] at hpc
      have zb := Nat.lt_of_lt_of_le hb hB.out.size
      unfold koIn at hin
      have HX := Lib.hid (fun W => Decimal_any 100 p.after W (by omega) (by omega) (by omega))
      have HY := Lib.hid (fun W => Decimal_any 100 p.piece W (by omega) (by omega) (by omega))
      obtain ⟨sn, hkn⟩ : ∃ sn : Nat, p.side = sn := ⟨p.side.toNat, by omega⟩
      have hk6 : sn < 4 := by omega
      have HPL := Lib.hid (show koLine p = lineL [decL p.after, decL p.piece, sideWL (sn : Int)] by unfold koLine koWs; rw [hkn])
      obtain ⟨ka, kp, ks⟩ := p
      simp only at hin hkn HX HY
      subst hkn
      have lx1 := decL_len2 (n := ka) (by omega)
      have ly1 := decL_len2 (n := kp) (by omega)
      have lk1 := sideWL_len (sn : Int)
      obtain ⟨X, hX⟩ : ∃ D, bsT (decL ka) = D := ⟨_, rfl⟩
      obtain ⟨Y, hY⟩ : ∃ D, bsT (decL kp) = D := ⟨_, rfl⟩
      obtain ⟨KW, hKW⟩ : ∃ D, bsT (sideWL (sn : Int)) = D := ⟨_, rfl⟩
      have sX : X.size ≤ 2 := by rw [← hX, bsT_size]; exact lx1
      have sY : Y.size ≤ 2 := by rw [← hY, bsT_size]; exact ly1
      have sK : KW.size ≤ 6 := by rw [← hKW, bsT_size]; exact Nat.le_trans lk1 (by omega)
      rw [hX] at HX
      rw [hY] at HY
      have HKW := Lib.hid hKW
      obtain ⟨V0, e0⟩ : ∃ z, X ++ ⟨#[32]⟩ = z := ⟨_, rfl⟩
      have E0 := Lib.hid e0
      have y0 : V0.size = X.size + 1 := by rw [← e0, ByteArray.size_append]; rfl
      have z0 : ¬ 9223372036854775807 < X.size + 1 := by omega
      obtain ⟨V1, e1⟩ : ∃ z, V0 ++ Y = z := ⟨_, rfl⟩
      have E1 := Lib.hid e1
      have y1 : V1.size = V0.size + Y.size := by rw [← e1, ByteArray.size_append]
      have z1 : ¬ 9223372036854775807 < V0.size + Y.size := by omega
      obtain ⟨V2, e2⟩ : ∃ z, V1 ++ ⟨#[32]⟩ = z := ⟨_, rfl⟩
      have E2 := Lib.hid e2
      have y2 : V2.size = V1.size + 1 := by rw [← e2, ByteArray.size_append]; rfl
      have z2 : ¬ 9223372036854775807 < V1.size + 1 := by omega
      obtain ⟨V3, e3⟩ : ∃ z, V2 ++ KW = z := ⟨_, rfl⟩
      have E3 := Lib.hid e3
      have y3 : V3.size = V2.size + KW.size := by rw [← e3, ByteArray.size_append]
      have z3 : ¬ 9223372036854775807 < V2.size + KW.size := by omega
      obtain ⟨V4, e4⟩ : ∃ z, V3 ++ ⟨#[10]⟩ = z := ⟨_, rfl⟩
      have E4 := Lib.hid e4
      have y4 : V4.size = V3.size + 1 := by rw [← e4, ByteArray.size_append]; rfl
      have z4 : ¬ 9223372036854775807 < V3.size + 1 := by omega
      obtain ⟨V5, e5⟩ : ∃ z, O ++ V4 = z := ⟨_, rfl⟩
      have E5 := Lib.hid e5
      have y5 : V5.size = O.size + V4.size := by rw [← e5, ByteArray.size_append]
      have z5 : ¬ 9223372036854775807 < O.size + V4.size := by omega
      have HN : Hid (bsT (koL (l.take (j + 1))) = V5) := Lib.hid (by
        rw [HNX.out, HPL.out, ← bsT_app, hO.out, ← e5, ← e4, ← e3, ← e2, ← e1, ← e0, ← hX, ← hY, ← hKW, show (⟨#[32]⟩ : ByteArray) = bsT [32] from rfl, show (⟨#[10]⟩ : ByteArray) = bsT [10] from rfl]
        simp only [bsT_app]
        unfold lineL
        rw [join3]
        simp)
      clear HNX HPL hO hpj hin hX hY hKW lx1 ly1 lk1 hll sX sY sK hOs
      clear y0 e0 y1 e1 y2 e2 y3 e3 y4 e4 y5 e5
      have hS0 : SzP b j ka kp (sn : Int) wr := ⟨hpc, zb⟩
      have hk60 : (sn : Int) < 4 := by omega
      go_upto_region 6 with fail
      clear hpc zb
      refine regionW_of_HX (fun w' => SzP b j ka kp (sn : Int) w') (by kernel_rfl) hS0 (fun hHeld => ?_)
      have K0 := Lib.hid (show Below wr.heap.size wr wr.drew from Below.drew (Below.refl _ _))
      clear hS0
      obtain ⟨W, hW⟩ : ∃ W, wr.drew = W := ⟨_, rfl⟩
      rw [hW] at K0 hHeld ⊢
      clear hW
      refine wpAnyH_take (i := 0) (v := .string O) rfl (by kernel_rfl) (by kernel_rfl) (by kernel_rfl) (fun _ _ _ h => absurd h.1 (by simp)) (Or.inl ⟨by rfl, fun w7 hSw => ?_⟩) (by assumption) ?_
      · clear hSw
        go_simp
      try simp only [Act.put, List.setIfInBounds_toArray, List.set_cons_zero, List.set_cons_succ]
      refine wpAnyH_take (i := 1) (v := .pointer (some ⟨b, j * 3, none⟩)) rfl (by kernel_rfl) (by kernel_rfl) (by kernel_rfl) (fun _ _ _ h => absurd h.1 (by simp)) (Or.inl ⟨by rfl, fun w7 hSw => ?_⟩) (by assumption) ?_
      · clear hSw
        go_simp
      try simp only [Act.put, List.setIfInBounds_toArray, List.set_cons_zero, List.set_cons_succ]
      refine wpAnyH_take (i := 2) (v := .pointer (some ⟨b, j * 3, none⟩)) rfl (by kernel_rfl) (by kernel_rfl) (by kernel_rfl) (fun _ _ _ h => absurd h.1 (by simp)) (Or.inl ⟨by rfl, fun w7 hSw => ?_⟩) (by assumption) ?_
      · clear hSw
        go_simp
      try simp only [Act.put, List.setIfInBounds_toArray, List.set_cons_zero, List.set_cons_succ]
      refine wpAnyH_take (i := 3) (v := .pointer (some ⟨b, j * 3, none⟩)) rfl (by kernel_rfl) (by kernel_rfl) (by kernel_rfl) (fun _ _ _ h => absurd h.1 (by simp)) (Or.inl ⟨by rfl, fun w7 hSw => ?_⟩) (by assumption) ?_
      · clear hSw
        go_simp
      try simp only [Act.put, List.setIfInBounds_toArray, List.set_cons_zero, List.set_cons_succ]
      refine wpAnyH_take (i := 4) (v := .int .i64 ka) rfl (by kernel_rfl) (by kernel_rfl) (by kernel_rfl) (fun _ _ _ h => absurd h.1 (by simp)) (Or.inl ⟨by rfl, fun w7 hSw => ?_⟩) (by assumption) ?_
      · obtain ⟨⟨a0, a1, a2⟩, lb_⟩ := hSw
        go_simp
      try simp only [Act.put, List.setIfInBounds_toArray, List.set_cons_zero, List.set_cons_succ]
      refine wpAnyH_take (i := 7) (v := .pointer (some ⟨b, j * 3, none⟩)) rfl (by kernel_rfl) (by kernel_rfl) (by kernel_rfl) (fun _ _ _ h => absurd h.1 (by simp)) (Or.inl ⟨by rfl, fun w7 hSw => ?_⟩) (by assumption) ?_
      · clear hSw
        go_simp
      try simp only [Act.put, List.setIfInBounds_toArray, List.set_cons_zero, List.set_cons_succ]
      refine wpAnyH_take (i := 8) (v := .pointer (some ⟨b, j * 3, none⟩)) rfl (by kernel_rfl) (by kernel_rfl) (by kernel_rfl) (fun _ _ _ h => absurd h.1 (by simp)) (Or.inl ⟨by rfl, fun w7 hSw => ?_⟩) (by assumption) ?_
      · clear hSw
        go_simp
      try simp only [Act.put, List.setIfInBounds_toArray, List.set_cons_zero, List.set_cons_succ]
      refine wpAnyH_take (i := 9) (v := .pointer (some ⟨b, j * 3 + 1, none⟩)) rfl (by kernel_rfl) (by kernel_rfl) (by kernel_rfl) (fun _ _ _ h => absurd h.1 (by simp)) (Or.inl ⟨by rfl, fun w7 hSw => ?_⟩) (by assumption) ?_
      · clear hSw
        go_simp
      try simp only [Act.put, List.setIfInBounds_toArray, List.set_cons_zero, List.set_cons_succ]
      refine wpAnyH_take (i := 10) (v := .int .i64 kp) rfl (by kernel_rfl) (by kernel_rfl) (by kernel_rfl) (fun _ _ _ h => absurd h.1 (by simp)) (Or.inl ⟨by rfl, fun w7 hSw => ?_⟩) (by assumption) ?_
      · obtain ⟨⟨a0, a1, a2⟩, lb_⟩ := hSw
        go_simp
      try simp only [Act.put, List.setIfInBounds_toArray, List.set_cons_zero, List.set_cons_succ]
      refine wpAnyH_take (i := 15) (v := .pointer (some ⟨b, j * 3, none⟩)) rfl (by kernel_rfl) (by kernel_rfl) (by kernel_rfl) (fun _ _ _ h => absurd h.1 (by simp)) (Or.inl ⟨by rfl, fun w7 hSw => ?_⟩) (by assumption) ?_
      · clear hSw
        go_simp
      try simp only [Act.put, List.setIfInBounds_toArray, List.set_cons_zero, List.set_cons_succ]
      refine wpAnyH_take (i := 16) (v := .pointer (some ⟨b, j * 3, none⟩)) rfl (by kernel_rfl) (by kernel_rfl) (by kernel_rfl) (fun _ _ _ h => absurd h.1 (by simp)) (Or.inl ⟨by rfl, fun w7 hSw => ?_⟩) (by assumption) ?_
      · clear hSw
        go_simp
      try simp only [Act.put, List.setIfInBounds_toArray, List.set_cons_zero, List.set_cons_succ]
      refine wpAnyH_take (i := 17) (v := .pointer (some ⟨b, j * 3 + 2, none⟩)) rfl (by kernel_rfl) (by kernel_rfl) (by kernel_rfl) (fun _ _ _ h => absurd h.1 (by simp)) (Or.inl ⟨by rfl, fun w7 hSw => ?_⟩) (by assumption) ?_
      · clear hSw
        go_simp
      try simp only [Act.put, List.setIfInBounds_toArray, List.set_cons_zero, List.set_cons_succ]
      refine wpAnyH_take (i := 18) (v := .int .i8 (sn : Int)) rfl (by kernel_rfl) (by kernel_rfl) (by kernel_rfl) (fun _ _ _ h => absurd h.1 (by simp)) (Or.inl ⟨by rfl, fun w7 hSw => ?_⟩) (by assumption) ?_
      · obtain ⟨⟨a0, a1, a2⟩, lb_⟩ := hSw
        go_simp
      try simp only [Act.put, List.setIfInBounds_toArray, List.set_cons_zero, List.set_cons_succ]
      refine wpAnyH_ready (rs := [5]) (by kernel_rfl) (by simp) ?_
      refine AllReadyH.cons rfl (fun K hK => ?_) AllReadyH.nil
      · skip
        go_simp
        go_wp2_with (go_at_call 82
                     refine (HX.out W).mono ?_
                     rintro e xt1 ⟨rfl, kt1⟩
                     have Kt1 := Lib.hid (kTrans K0.out kt1)
                     have St1 := Lib.hid (show SzP b j ka kp (sn : Int) xt1 from hHeld.below kt1))
        refine hK.out _ _ St1.out (fun hHeld1 => ?_)
        clear hK K kt1
        refine wpAnyH_take (i := 6) (v := .string V0) rfl (by kernel_rfl) (by kernel_rfl) (by kernel_rfl) (fun _ _ _ h => absurd h.1 (by simp)) (Or.inl ⟨by rfl, fun w7 hSw => ?_⟩) (by assumption) ?_
        · clear hSw
          have hv_ := E0.out
          go_simp
          first | done | rw [hv_]
        try simp only [Act.put, List.setIfInBounds_toArray, List.set_cons_zero, List.set_cons_succ]
        refine wpAnyH_ready (rs := [11]) (by kernel_rfl) (by simp) ?_
        refine AllReadyH.cons rfl (fun K hK => ?_) AllReadyH.nil
        · skip
          go_simp
          go_wp2_with (go_at_call 82
                       refine (HY.out xt1).mono ?_
                       rintro e xt2 ⟨rfl, kt2⟩
                       have Kt2 := Lib.hid (kTrans Kt1.out kt2)
                       have St2 := Lib.hid (show SzP b j ka kp (sn : Int) xt2 from hHeld1.below kt2))
          refine hK.out _ _ St2.out (fun hHeld2 => ?_)
          clear hK K kt2
          refine wpAnyH_take (i := 12) (v := .string V1) rfl (by kernel_rfl) (by kernel_rfl) (by kernel_rfl) (fun _ _ _ h => absurd h.1 (by simp)) (Or.inl ⟨by rfl, fun w7 hSw => ?_⟩) (by assumption) ?_
          · clear hSw
            have hv_ := E1.out
            go_simp
            first | done | rw [hv_]
          try simp only [Act.put, List.setIfInBounds_toArray, List.set_cons_zero, List.set_cons_succ]
          refine wpAnyH_take (i := 13) (v := .string V2) rfl (by kernel_rfl) (by kernel_rfl) (by kernel_rfl) (fun _ _ _ h => absurd h.1 (by simp)) (Or.inl ⟨by rfl, fun w7 hSw => ?_⟩) (by assumption) ?_
          · clear hSw
            have hv_ := E2.out
            go_simp
            first | done | rw [hv_]
          try simp only [Act.put, List.setIfInBounds_toArray, List.set_cons_zero, List.set_cons_succ]
          refine wpAnyH_ready (rs := [14]) (by kernel_rfl) (by simp) ?_
          refine AllReadyH.cons rfl (fun K hK => ?_) AllReadyH.nil
          · skip
            go_simp
            go_wp2_with (go_at_call 89
                         refine (l02SidesK_any xt2).mono ?_
                         rintro e xt3 ⟨g3, rfl, hw6, kt3⟩
                         have wl3 := Lib.hid hw6
                         have Kt3 := Lib.hid (kTrans Kt2.out kt3)
                         have St3 := Lib.hid (show SzP b j ka kp (sn : Int) xt3 from hHeld2.below kt3)
                         clear hw6)
            refine hK.out _ _ St3.out (fun hHeld3 => ?_)
            clear hK K kt3
            refine wpAnyH_take (i := 19) (v := .pointer (some ⟨g3, sn, none⟩)) rfl (by kernel_rfl) (by kernel_rfl) (by kernel_rfl) (fun _ _ _ h => absurd h.1 (by simp)) (Or.inl ⟨by rfl, fun w7 hSw => ?_⟩) (by assumption) ?_
            · clear hSw
              go_simp
            try simp only [Act.put, List.setIfInBounds_toArray, List.set_cons_zero, List.set_cons_succ]
            refine wpAnyH_ready (rs := [20]) (by kernel_rfl) (by simp) ?_
            refine AllReadyH.cons rfl (fun K hK => ?_) AllReadyH.nil
            · skip
              have cw4 := (wl3.out.1 sn hk6).trans (congrArg (fun z => some (Value.string z)) HKW.out)
              have lw4 := wl3.out.2
              go_simp
              refine hK.out _ _ hHeld3 (fun hHeld4 => ?_)
              clear hK K cw4 lw4
              refine wpAnyH_take (i := 21) (v := .string V3) rfl (by kernel_rfl) (by kernel_rfl) (by kernel_rfl) (fun _ _ _ h => absurd h.1 (by simp)) (Or.inl ⟨by rfl, fun w7 hSw => ?_⟩) (by assumption) ?_
              · clear hSw
                have hv_ := E3.out
                go_simp
                first | done | rw [hv_]
              try simp only [Act.put, List.setIfInBounds_toArray, List.set_cons_zero, List.set_cons_succ]
              refine wpAnyH_take (i := 22) (v := .string V4) rfl (by kernel_rfl) (by kernel_rfl) (by kernel_rfl) (fun _ _ _ h => absurd h.1 (by simp)) (Or.inl ⟨by rfl, fun w7 hSw => ?_⟩) (by assumption) ?_
              · clear hSw
                have hv_ := E4.out
                go_simp
                first | done | rw [hv_]
              try simp only [Act.put, List.setIfInBounds_toArray, List.set_cons_zero, List.set_cons_succ]
              refine wpAnyH_take (i := 23) (v := .string V5) rfl (by kernel_rfl) (by kernel_rfl) (by kernel_rfl) (fun _ _ _ h => absurd h.1 (by simp)) (Or.inl ⟨by rfl, fun w7 hSw => ?_⟩) (by assumption) ?_
              · clear hSw
                have hv_ := E5.out
                go_simp
                first | done | rw [hv_]
              try simp only [Act.put, List.setIfInBounds_toArray, List.set_cons_zero, List.set_cons_succ]
              refine wpAnyH_ready (rs := [24]) (by kernel_rfl) (by simp) ?_
              refine AllReadyH.cons rfl (fun K hK => ?_) AllReadyH.nil
              · skip
                go_simp
                refine hK.out _ _ hHeld4 (fun hHeld => ?_)
                clear hK K
                refine wpAnyH_done (by kernel_rfl) ?_ _
                refine ⟨rfl, ?_⟩
                clear hHeld
                go_wp2
                exact ⟨⟨j + 1, V5, _, by omega, by go_num, rfl, rfl, HN, Lib.hid (kTrans hB.out Kt3.out)⟩, by simp [intOf]; omega⟩
    · obtain rfl : j = n := by omega
      obtain rfl : O = S := by rw [← hO.out, ← HS.out, List.take_of_length_le (by rw [Hn.out]; exact Nat.le_refl _)]
      clear hO HS
      go_wp2
      go_ret
      exact ⟨rfl, hB.out⟩
set_option maxRecDepth 100000 in
set_option maxHeartbeats 4000000 in
theorem specKnocksText_any (b n : Nat) (l : List Ko) (w : World) (hn : l.length = n) (hp : KosAt w b 0 l) (hb : b < w.heap.size) (h8 : KosWf l) (hmax : n ≤ 1048576) (R : Bool) (hR : R = (decide (n ≤ 60) && kplains l)) (S : ByteArray) (hS : bsT (ktQ R l) = S) :
    Calls Tryd.prog 28 #[.slice (some ⟨b, 0, none⟩) n n] w fun e w' => e = .returned (.string S) ∧ Below w.heap.size w w' := by
  have HV := Lib.hid (l07Plain_any b n l w hn hp hb h8 hmax R hR)
  have HT := Lib.hid (fun W2 (h2 : Below w.heap.size w W2) (h : R = true) => l07Text_any b n l W2 hn (hp.below h2 hb) (Nat.lt_of_lt_of_le hb h2.size) (by rw [← hR]; exact h) S (by rw [← hS]; unfold ktQ; rw [if_pos h]))
  have HS := Lib.hid hS
  clear hn hp hb h8 hR hS
  go_enter Tryd.func28, Tryd.ntmps28
  go_wp2_with fail
  refine HV.out.mono ?_
  rintro e w1 ⟨rfl, hb1⟩
  have HB1 := Lib.hid hb1
  clear hb1 HV
  cases R with
  | false =>
    obtain rfl : (⟨#[]⟩ : ByteArray) = S := by rw [← HS.out]; rfl
    clear HS HT
    go_wp2
    go_ret
    exact ⟨rfl, HB1.out⟩
  | true =>
    go_wp2_with fail
    refine (HT.out _ HB1.out (by trivial)).mono ?_
    rintro e w2 ⟨rfl, hb2⟩
    have T2 := Lib.hid (kTrans HB1.out hb2)
    clear hb2 HT HS
    go_wp2
    go_ret
    exact ⟨rfl, T2.out⟩
end Go.Proofs.YtmllfacgonchnaaDoor
