/- ReadSpans: the text at any slice. -/
import Derived.Test.YthngnbaoaeomeaaDoorSpx
import Derived.Test.YthngnbaoaeomeaaDoorSqk
namespace Go.Proofs.YthngnbaoaeomeaaDoor
open Go.ChangeShapes Go.WideShapes Go.ChangeAt Go.RowKit Go.Joins Go.Deep
set_option linter.unusedVariables false
set_option linter.unusedSimpArgs false

set_option maxRecDepth 100000 in
set_option maxHeartbeats 4000000 in
theorem areSpansC_any (b o n cap : Nat) (hcap : n ≤ cap) (l : List Sq) (w : World) (hn : l.length = n) (h1 : SqsAt w b o l) (hb : b < w.heap.size) (h8 : SqsWf l) (hmax : n ≤ 1048576) (R : Bool) (hR : spansB l = R) :
    Calls Tryd.prog 82 #[.slice (some ⟨b, o, none⟩) n cap] w fun e w' => e = .returned (.bool R) ∧ Below w.heap.size w w' := by
  have Hn := Lib.hid hn
  have H8 := Lib.hid h8
  have HR : Hid (spansB (l.drop 0) = R) := Lib.hid hR
  clear hn h8 hR
  go_enter Tryd.func82, Tryd.ntmps82
  go_wp2
  go_loopw [7] (fun i wr => ∃ k : Nat, k ≤ n ∧ i = .int .i64 k ∧ Hid (spansB (l.drop k) = R) ∧ Below w.heap.size w wr) (fun i _ => n - (intOf i).toNat)
  case atStart => exact ⟨0, by omega, rfl, HR, Below.refl _ _⟩
  case round =>
    clear HR
    obtain ⟨k, hk, rfl, hf, hbr⟩ := hrel
    by_cases hlt : k < n
    · have hlk : k < l.length := by rw [Hn.out]; exact hlt
      have hp1 := (h1.below hbr hb) k hlk
      have hp8 := H8.out _ (List.getElem_mem hlk)
      have hq := hf.out
      rw [spansB_step hlk] at hq
      generalize l[k] = p at hp1 hp8 hq
      have z1 : b < wr.heap.size := Nat.lt_of_lt_of_le hb hbr.size
      obtain ⟨r, hr⟩ : ∃ r, spanB p = r := ⟨_, rfl⟩
      rw [hr] at hq
      have HC := Lib.hid (fun W => areBounds_any p.low p.high W r hr)
      have HQ := Lib.hid hq
      clear hf hq hr h1
      obtain ⟨a0, a1⟩ := hp1
      have bl := bounds_i8 hp8.1
      have bh := bounds_i8 hp8.2
      cases r with
      | true =>
        have HQ2 : Hid (spansB (l.drop (k + 1)) = R) := Lib.hid (by have h := HQ.out; simpa using h)
        clear HQ
        go_wp2_with fail
        refine (HC.out _).mono ?_
        rintro e w2 ⟨rfl, rfl⟩
        go_wp2
        exact ⟨⟨k + 1, by omega, by go_num, HQ2, by repeat (first | with_reducible exact Below.refl _ _ | (with_reducible refine kSet ?_ ?hB _; case hB => (simp; try omega)) | with_reducible refine kAlloc ?_ _ | with_reducible refine Below.drew ?_ | with_reducible refine kDrewN ?_ _ | with_reducible refine kTrans ?_ (by assumption))⟩, by simp [intOf]; omega⟩
      | false =>
        obtain rfl : R = false := by have h := HQ.out; simpa using h.symm
        clear HQ
        go_wp2_with fail
        refine (HC.out _).mono ?_
        rintro e w2 ⟨rfl, rfl⟩
        go_wp2
        go_ret
        exact ⟨rfl, by repeat (first | with_reducible exact Below.refl _ _ | (with_reducible refine kSet ?_ ?hB _; case hB => (simp; try omega)) | with_reducible refine kAlloc ?_ _ | with_reducible refine Below.drew ?_ | with_reducible refine kDrewN ?_ _ | with_reducible refine kTrans ?_ (by assumption))⟩
    · obtain rfl : k = n := by omega
      obtain rfl : R = true := by rw [← hf.out, List.drop_of_length_le (by rw [Hn.out]; exact Nat.le_refl _)]; rfl
      clear hf
      go_wp2
      go_ret
      exact ⟨rfl, hbr⟩
theorem areSpans_nil (a : Option Addr) (cap : Nat) (w : World) :
    Calls Tryd.prog 82 #[.slice a 0 cap] w fun e w' => e = .returned (.bool true) ∧ Below w.heap.size w w' := by
  go_enter Tryd.func82, Tryd.ntmps82
  go_wp2
  go_loopw [7] (fun i wr => i = .int .i64 0 ∧ w = wr) (fun _ _ => 0)
  case atStart => exact ⟨rfl, rfl⟩
  case round =>
    obtain ⟨rfl, rfl⟩ := hrel
    go_wp2
    go_ret
    exact ⟨rfl, Below.refl _ _⟩
set_option maxRecDepth 100000 in
set_option maxHeartbeats 8000000 in
theorem szText_any (b o n cap : Nat) (hcap : n ≤ cap) (l : List Sq) (w : World) (hn : l.length = n) (h1 : SqsAt w b o l) (hb : b < w.heap.size) (h8 : SqsWf l) (hmax : n ≤ 1048576) (R : Bool) (hR : spansB l = R) (S : ByteArray) (hS : bsT (spansQ R l) = S) :
    Calls Tryd.prog 54 #[.slice (some ⟨b, o, none⟩) n cap] w fun e w' => e = .returned (.string S) ∧ Below w.heap.size w w' := by
  have HA := Lib.hid (fun W (hW : Below w.heap.size w W) => areSpansC_any b o n cap hcap l W hn (h1.below hW hb) (Nat.lt_of_lt_of_le hb hW.size) h8 hmax R hR)
  have HP := Lib.hid (fun W (hW : Below w.heap.size w W) => h1.below hW hb)
  by_cases h60 : n ≤ 60
  · have hz : ¬ (60 : Int) < (n : Int) := by omega
    have hz2 : decide ((60 : Int) < (n : Int)) = false := by simpa using hz
    cases R with
    | false =>
      obtain rfl : (⟨#[]⟩ : ByteArray) = S := by rw [← hS]; simp [spansQ, bsT]
      clear hS hR hn h1 h8
      go_enter Tryd.func54, Tryd.ntmps54
      go_wp2_with fail
      refine (HA.out _ (Below.refl _ _)).mono ?_
      rintro e w1 ⟨rfl, hb1⟩
      go_wp2
      go_ret
      exact ⟨rfl, hb1⟩
    | true =>
      have hS2 : bsT (spL l) = S := by rw [← hS]; unfold spansQ; rw [if_pos ⟨by rw [hn]; exact h60, rfl⟩]
      have HS := Lib.hid hS2
      have HR := Lib.hid hR
      have Hn := Lib.hid hn
      clear hS hS2 hR hn h1 h8
      obtain ⟨j0, hj0, hj1, hj2, hj3⟩ := info_parts info_str
      have Hj := Lib.hid hj0
      have Hj1 := Lib.hid hj1
      have Hj2 := Lib.hid hj2
      have Hj3 := Lib.hid hj3
      clear hj0 hj1 hj2 hj3
      go_enter Tryd.func54, Tryd.ntmps54
      go_wp2_with fail
      refine (HA.out _ (Below.refl _ _)).mono ?_
      rintro e w1 ⟨rfl, hb1⟩
      have hz1 := hb1.size
      have HB1 := Lib.hid hb1
      have own0 : Hid (w1.ownsRow w.heap.size 9 1 (.slice none 0 0) 0 (strV ((l.take 0).map spW))) := Lib.hid ⟨by simp [strV], .inl ⟨rfl, rfl⟩⟩
      clear hb1 HA
      go_wp2
      go_loopw [3, 16] (fun vs i wr => ∃ (j : Nat) (va : Option Addr) (vc : Nat), j ≤ n ∧ i = .int .i64 j ∧ vs = .slice va j vc ∧ Hid (wr.ownsRow w.heap.size 9 1 (.slice va j vc) j (strV ((l.take j).map spW))) ∧ Hid (Below w.heap.size w wr)) (fun _ i _ => n - (intOf i).toNat)
      case atStart => exact ⟨0, none, 0, by omega, rfl, rfl, own0, HB1⟩
      case round =>
        clear own0 HB1
        obtain ⟨j, va, vc, hj, rfl, rfl, hown, hB⟩ := hrel
        have hl6 : (Lib.join ((l.take j).map spW) [32]).length ≤ 360 := by
          have := spL_len HR.out j; rw [Hn.out] at this; unfold spL at this; omega
        by_cases hlt : j < n
        · have hlk : j < l.length := by rw [Hn.out]; exact hlt
          obtain ⟨p, hpj⟩ : ∃ p, l[j] = p := ⟨_, rfl⟩
          have hsp := of_decide_eq_true (hpj ▸ spansB_at HR.out hlk)
          obtain ⟨a0, a1⟩ := (show SqAt wr b (o + j * 2) p by have h := HP.out wr hB.out j hlk; rw [hpj] at h; exact h)
          have zb := Nat.lt_of_lt_of_le hb hB.out.size
          have HT := Lib.hid (show (l.take (j + 1)).map spW = (l.take j).map spW ++ [decL p.low ++ [45] ++ decL p.high] by rw [take_map hlk, hpj]; rfl)
          obtain ⟨lo, hi⟩ := p
          simp only at a0 a1 hsp HT
          have H0 := Lib.hid (fun W => smallText_any lo W (by omega) (by omega))
          have H1 := Lib.hid (fun W => smallText_any hi W (by omega) (by omega))
          have l0 := decL_len2 (n := lo) (by omega)
          have l1 := decL_len2 (n := hi) (by omega)
          obtain ⟨D0, hD0⟩ : ∃ D, bsT (decL lo) = D := ⟨_, rfl⟩
          obtain ⟨D1, hD1⟩ : ∃ D, bsT (decL hi) = D := ⟨_, rfl⟩
          have s0 : D0.size ≤ 2 := by rw [← hD0, bsT_size]; exact l0
          have s1 : D1.size ≤ 2 := by rw [← hD1, bsT_size]; exact l1
          rw [hD0] at H0
          rw [hD1] at H1
          obtain ⟨V, hV⟩ : ∃ V, bsT (decL lo ++ [45] ++ decL hi) = V := ⟨_, rfl⟩
          have HV := Lib.hid hV
          have HW := Lib.hid (show (Value.string (D0 ++ ⟨#[45]⟩ ++ D1)) = .string V by rw [← hV, ← hD0, ← hD1, ← bsT_app, ← bsT_app]; rfl)
          have z1 : ¬ 9223372036854775807 < D0.size + 1 := by omega
          have z2 : ¬ 9223372036854775807 < D0.size + 1 + D1.size := by omega
          obtain ⟨W1, hW1⟩ : ∃ z, wr.alloc (.cells #[.int .i8 lo, .int .i8 hi] 89) = z := ⟨_, rfl⟩
          have b1 : W1.heap[wr.heap.size]? = some (.cells #[.int .i8 lo, .int .i8 hi] 89 (0, 0)) := by rw [← hW1]; exact nNewX _ _
          have k1 : Below wr.heap.size wr W1 := by rw [← hW1]; exact kAlloc (Below.refl _ _) _
          have HK1 := Lib.hid k1
          have HW1 := Lib.hid hW1
          have hz2 := k1.size
          clear hW1 hD0 hD1 l0 l1 hsp hpj k1 hV
          go_upto_region 7 with fail
          rw [HW1.out]
          clear HW1 a0 a1
          obtain ⟨X, hX⟩ : ∃ X, wr.heap.size = X := ⟨_, rfl⟩
          have hXle : wr.heap.size ≤ X := Nat.le_of_eq hX
          rw [hX] at b1 ⊢
          clear hX
          refine regionW_of_HX (fun w' => w'.heap[X]? = some (.cells #[.int .i8 lo, .int .i8 hi] 89 (0, 0))) (by kernel_rfl) b1 (fun hHeld => ?_)
          have HK2 := Lib.hid (show Below wr.heap.size wr W1.drew from Below.drew HK1.out)
          clear b1 HK1
          generalize W1.drew = W2 at HK2 hHeld ⊢
          have Hown := Lib.hid (owns_below hown.out HK2.out)
          have Hblk := Lib.hid (owns_block hown.out)
          have hz3 := HK2.out.size
          have hzr := hB.out.size
          refine wpAnyH_take (i := 0) (v := .slice va j vc) rfl (by kernel_rfl) (by kernel_rfl) (by kernel_rfl) (fun _ _ _ h => absurd h.1 (by simp)) (Or.inl ⟨by rfl, fun w7 hSw => ?_⟩) (by assumption) ?_
          · clear hSw
            go_simp
          try simp only [Act.put, List.setIfInBounds_toArray, List.set_cons_zero, List.set_cons_succ]
          refine wpAnyH_take (i := 1) (v := .pointer (some ⟨X, 0, none⟩)) rfl (by kernel_rfl) (by kernel_rfl) (by kernel_rfl) (fun _ _ _ h => absurd h.1 (by simp)) (Or.inl ⟨by rfl, fun w7 hSw => ?_⟩) (by assumption) ?_
          · clear hSw
            go_simp
          try simp only [Act.put, List.setIfInBounds_toArray, List.set_cons_zero, List.set_cons_succ]
          refine wpAnyH_take (i := 2) (v := .int .i8 lo) rfl (by kernel_rfl) (by kernel_rfl) (by kernel_rfl) (fun _ _ _ h => absurd h.1 (by simp)) (Or.inl ⟨by rfl, fun w7 hSw => ?_⟩) (by assumption) ?_
          · have q0 : w7.cell? ⟨X, 0, none⟩ = some (.int .i8 lo) := cell_of_row _ _ 0 _ _ _ hSw
            have q1 : w7.cell? ⟨X, 1, none⟩ = some (.int .i8 hi) := cell_of_row _ _ 1 _ _ _ hSw
            have lq_ := (Array.getElem?_eq_some_iff.1 hSw).1
            go_simp
          try simp only [Act.put, List.setIfInBounds_toArray, List.set_cons_zero, List.set_cons_succ]
          refine wpAnyH_take (i := 5) (v := .pointer (some ⟨X, 1, none⟩)) rfl (by kernel_rfl) (by kernel_rfl) (by kernel_rfl) (fun _ _ _ h => absurd h.1 (by simp)) (Or.inl ⟨by rfl, fun w7 hSw => ?_⟩) (by assumption) ?_
          · clear hSw
            go_simp
          try simp only [Act.put, List.setIfInBounds_toArray, List.set_cons_zero, List.set_cons_succ]
          refine wpAnyH_take (i := 6) (v := .int .i8 hi) rfl (by kernel_rfl) (by kernel_rfl) (by kernel_rfl) (fun _ _ _ h => absurd h.1 (by simp)) (Or.inl ⟨by rfl, fun w7 hSw => ?_⟩) (by assumption) ?_
          · have q0 : w7.cell? ⟨X, 0, none⟩ = some (.int .i8 lo) := cell_of_row _ _ 0 _ _ _ hSw
            have q1 : w7.cell? ⟨X, 1, none⟩ = some (.int .i8 hi) := cell_of_row _ _ 1 _ _ _ hSw
            have lq_ := (Array.getElem?_eq_some_iff.1 hSw).1
            go_simp
          try simp only [Act.put, List.setIfInBounds_toArray, List.set_cons_zero, List.set_cons_succ]
          refine wpAnyH_ready (rs := [3]) (by kernel_rfl) (by simp) ?_
          refine AllReadyH.cons rfl (fun K hK => ?_) AllReadyH.nil
          go_simp
          go_wp2_with (go_at_call 63
                       refine (H0.out _).mono ?_
                       rintro e w9 ⟨rfl, h9⟩
                       obtain rfl : W2 = w9 := h9.symm)
          refine hK.out _ _ hHeld (fun hHeld => ?_)
          clear hK K
          refine wpAnyH_take (i := 4) (v := .string (D0 ++ ⟨#[45]⟩)) rfl (by kernel_rfl) (by kernel_rfl) (by kernel_rfl) (fun _ _ _ h => absurd h.1 (by simp)) (Or.inl ⟨by rfl, fun w7 hSw => ?_⟩) (by assumption) ?_
          · clear hSw
            go_simp
          try simp only [Act.put, List.setIfInBounds_toArray, List.set_cons_zero, List.set_cons_succ]
          refine wpAnyH_ready (rs := [7]) (by kernel_rfl) (by simp) ?_
          refine AllReadyH.cons rfl (fun K hK => ?_) AllReadyH.nil
          go_simp
          go_wp2_with (go_at_call 63
                       refine (H1.out _).mono ?_
                       rintro e w9 ⟨rfl, h9⟩
                       obtain rfl : W2 = w9 := h9.symm)
          refine hK.out _ _ hHeld (fun hHeld => ?_)
          clear hK K
          refine wpAnyH_take (i := 8) (v := .string V) rfl (by kernel_rfl) (by kernel_rfl) (by kernel_rfl) (fun _ _ _ h => absurd h.1 (by simp)) (Or.inl ⟨by rfl, fun w7 hSw => ?_⟩) (by assumption) ?_
          · clear hSw
            try rw [← Value.string.inj HW.out]
            go_simp
          try simp only [Act.put, List.setIfInBounds_toArray, List.set_cons_zero, List.set_cons_succ]
          obtain ⟨W3, hW3⟩ : ∃ z, W2.alloc (.cells #[.string V] 9) = z := ⟨_, rfl⟩
          have k3 : Below W2.heap.size W2 W3 := by rw [← hW3]; exact kAlloc (Below.refl _ _) _
          have b3 : W3.heap[W2.heap.size]? = some (.cells #[.string V] 9 (0, 0)) := by rw [← hW3]; exact nNewX _ _
          have HW3 := Lib.hid hW3
          have HK3 := Lib.hid (kTrans HK2.out k3)
          have Own3 := Lib.hid (owns_below Hown.out k3)
          have S3 := blkX hHeld k3
          have B3 := Lib.hid b3
          have lz3 := k3.size
          obtain ⟨G, hG⟩ : ∃ G, W2.heap.size = G := ⟨_, rfl⟩
          have HG := Lib.hid hG
          rw [hG] at B3
          clear hW3 k3 b3 hG
          refine wpAnyH_ready (rs := [9]) (by kernel_rfl) (by simp) ?_
          refine AllReadyH.cons rfl (fun K hK => ?_) AllReadyH.nil
          go_simp
          rw [HW3.out]
          try rw [HG.out]
          refine hK.out _ _ S3 (fun hHeld => ?_)
          clear S3
          clear hK K
          refine wpAnyH_ready (rs := [10]) (by kernel_rfl) (by simp) ?_
          refine AllReadyH.cons rfl (fun K hK => ?_) AllReadyH.nil
          refine step_append_own rfl _ _ 47 rfl w.heap.size 9 j0 _ 1 16 Tryd.underlying47 Hj.out Hj1.out Hj2.out Hj3.out rfl (by decide) (.slice va j vc) j (strV ((l.take j).map spW)) rfl Own3.out ⟨G, 0, none⟩ 1 1 [.string V] rfl rfl (World.news_of_block (cs := #[.string V]) B3.out) (by simp [Value.oneCell']) (by unfold maxLen; omega) (by omega) (by omega) ?_
          intro v6 w6 hown6 hgr hnil
          obtain ⟨ua, uc, rfl⟩ := owns_slice hown6
          have Hown6 := Lib.hid (show w6.ownsRow w.heap.size 9 1 (.slice ua (j + 1) uc) (j + 1) (strV ((l.take (j + 1)).map spW)) by rw [HT.out, strV_end, HV.out]; exact hown6)
          have T6 := Lib.hid (show Below w.heap.size w w6 from grown_below (v := .slice va j vc) (kTrans hB.out HK3.out) hgr (by intro q hq; exact (Hblk.out q hq).1))
          have S6 : w6.heap[X]? = some (.cells #[.int .i8 lo, .int .i8 hi] 89 (0, 0)) := (hgr.block X (Array.getElem?_eq_some_iff.1 hHeld).1 (fun e => by have := (Hblk.out X e.symm).2; omega)).trans hHeld
          refine hK.out _ _ S6 (fun hHeld => ?_)
          clear hK K hown6 hgr hnil Hown hown Own3 S6
          refine wpAnyH_ready (rs := [11]) (by kernel_rfl) (by simp) ?_
          refine AllReadyH.cons rfl (fun K hK => ?_) AllReadyH.nil
          go_simp
          refine hK.out _ _ hHeld (fun hHeld => ?_)
          clear hK K
          refine wpAnyH_done (by kernel_rfl) ?_ _
          refine ⟨rfl, ?_⟩
          clear hHeld
          go_wp2
          exact ⟨⟨j + 1, ua, uc, by omega, by go_num, rfl, Hown6, T6⟩, by simp [intOf]; omega⟩
        · obtain rfl : j = n := by omega
          have htk : (l.take j).map spW = l.map spW := by rw [List.take_of_length_le (by rw [Hn.out]; exact Nat.le_refl _)]
          rw [htk] at hown hl6
          by_cases hn0 : j = 0
          · subst hn0
            obtain rfl : l = [] := List.length_eq_zero_iff.1 Hn.out
            obtain rfl : (⟨#[]⟩ : ByteArray) = S := by rw [← HS.out]; rfl
            have HJ := Lib.hid (fun W => strings_Join_none va vc (bsT [32]) W)
            clear hown hl6 htk HS HR
            go_wp2_with fail
            refine (HJ.out _).mono ?_
            rintro e w3 ⟨rfl, rfl⟩
            go_wp2
            go_ret
            exact ⟨rfl, hB.out⟩
          · obtain ⟨g, c, hv, hc, hg, hcells⟩ := own_str hown.out (by omega)
            simp at hv
            obtain ⟨rfl, rfl⟩ := hv
            have e1 : ((l.map spW).map bsT).map (·.data.toList) = l.map spW := by
              rw [List.map_map]
              conv => rhs; rw [← List.map_id (l.map spW)]
              apply List.map_congr_left
              intro x _
              exact bsT_list x
            have hj := strings_Join g 0 vc ((l.map spW).map bsT) (bsT [32]) wr (fun i x hx => by
              rw [List.getElem?_map] at hx
              cases h : (l.map spW)[i]? with
              | none => rw [h] at hx; simp at hx
              | some y => rw [h] at hx; simp at hx; subst hx; exact hcells i y h) hg (by rw [List.length_map, List.length_map, Hn.out]; omega) (by rw [List.length_map, List.length_map, Hn.out]; exact hc) (by
              rw [e1, bsT_list]; omega)
            rw [e1, bsT_list, List.length_map, List.length_map, Hn.out] at hj
            have HJ := Lib.hid (show Calls Tryd.prog 83 #[.slice (some ⟨g, 0, none⟩) j vc, .string (bsT [32])] wr fun e w' => e = .returned (.string S) ∧ Below wr.heap.size wr w' by rw [← HS.out]; exact hj)
            clear hown hl6 htk HS HR hj e1 hcells
            go_wp2_with fail
            refine HJ.out.mono ?_
            rintro e w3 ⟨rfl, hb3⟩
            have T3 := kTrans hB.out hb3
            clear hb3
            go_wp2
            go_ret
            exact ⟨rfl, T3⟩
  · obtain rfl : (⟨#[]⟩ : ByteArray) = S := by rw [← hS]; unfold spansQ; rw [if_neg (by rw [hn]; intro h; exact h60 h.1)]; rfl
    have hz : (60 : Int) < (n : Int) := by omega
    have hz2 : decide ((60 : Int) < (n : Int)) = true := by simpa using hz
    clear hS hR hn h1 h8 HA HP h60
    go_enter Tryd.func54, Tryd.ntmps54
    go_wp2
    go_ret
    exact ⟨rfl, Below.refl _ _⟩
set_option maxHeartbeats 2000000 in
theorem szText_nil (a : Option Addr) (cap : Nat) (w : World) :
    Calls Tryd.prog 54 #[.slice a 0 cap] w fun e w' => e = .returned (.string ⟨#[]⟩) ∧ Below w.heap.size w w' := by
  have HJ := Lib.hid (fun W => strings_Join_none none 0 (bsT [32]) W)
  have e32 : (⟨#[32]⟩ : ByteArray) = bsT [32] := rfl
  go_enter Tryd.func54, Tryd.ntmps54
  go_wp2_with fail
  refine (areSpans_nil a cap w).mono ?_
  rintro e w1 ⟨rfl, hb1⟩
  have HB1 := Lib.hid hb1
  clear hb1
  go_wp2
  go_loopw [3, 16] (fun vs i wr => i = .int .i64 0 ∧ vs = .slice none 0 0 ∧ Hid (Below w.heap.size w wr)) (fun _ _ _ => 0)
  case atStart => exact ⟨rfl, rfl, HB1⟩
  case round =>
    clear HB1
    obtain ⟨rfl, rfl, hB⟩ := hrel
    go_wp2_with fail
    refine (HJ.out _).mono ?_
    rintro e w3 ⟨rfl, rfl⟩
    go_wp2
    go_ret
    exact ⟨rfl, hB.out⟩
theorem szText_sl (lo hh : Nat) (v : Value) (l : List Sq) (w : World) (hs : SlWSq lo hh w l v) (h8 : SqsWf l) (hmax : l.length ≤ 1048576) (R : Bool) (hR : spansB l = R) (S : ByteArray) (hS : bsT (spansQ R l) = S) :
    Calls Tryd.prog 54 #[v] w fun e w' => e = .returned (.string S) ∧ Below w.heap.size w w' := by
  cases hs with
  | empty a cap h =>
    subst h
    obtain rfl : (⟨#[]⟩ : ByteArray) = S := by rw [← hS, ← hR]; rfl
    exact szText_nil a cap w
  | mk b o cap hc h1 h2 hb hf hl => exact szText_any b o _ cap hl l w rfl hc hb h8 hmax R hR S hS
end Go.Proofs.YthngnbaoaeomeaaDoor
