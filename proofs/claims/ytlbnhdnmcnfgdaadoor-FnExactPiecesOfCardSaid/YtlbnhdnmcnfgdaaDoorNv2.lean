/- Networks: which are valid; the model. -/
import Derived.Test.YtlbnhdnmcnfgdaaDoorNv1
namespace Go.Proofs.YtlbnhdnmcnfgdaaDoor
open Go.ChangeShapes Go.WideShapes Go.ChangeAt Go.RowKit Go.Joins Go.Deep
set_option linter.unusedVariables false
set_option linter.unusedSimpArgs false

set_option maxRecDepth 100000 in
set_option maxHeartbeats 4000000 in
theorem l04Node_any (bb b n : Nat) (ni : Int) (u : Value) (x : Nd) (i : Nat) (w : World) (h0 : NwAt w bb ni (.slice (some ⟨b, 0, none⟩) n n) u) (ha : NdAt w b (i * 3) x) (zb : b < w.heap.size) (hi : i < n) (hm : n ≤ 1048576) (bw : i8 ni) (hx : x.wf) (R : Bool) (hR : R = nodeOk ni i x) :
    Calls Tryd.prog 40 #[.pointer (some ⟨bb, 0, none⟩), .int .i64 i] w fun e w' => e = .returned (.bool R) ∧ Below w.heap.size w w' := by
  have hni : IntKind.i16.wrap ni = ni := IntWalk.i16_in _ (by have := bw.1; have := bw.2; omega)
  have b1 := n16_of hx.2.1
  have b2 := n16_of hx.2.2
  have ha1 : IntKind.i64.wrap x.a = x.a := IntWalk.i64_in _ (by omega)
  have hb1 : IntKind.i64.wrap x.b = x.b := IntWalk.i64_in _ (by omega)
  obtain ⟨c0, c1, c2⟩ := h0
  obtain ⟨a0, a1, a2⟩ := ha
  have lb := World.block_lt_of_cell? w _ c0
  by_cases k0 : x.kind = 0
  · by_cases g1 : 0 ≤ x.a
    · have g1' : decide (0 ≤ x.a) = true := by simpa using g1
      by_cases g2 : x.a < ni
      · have g2' : decide (x.a < ni) = true := by simpa using g2
        have hR2 : R = decide (x.b = 0) := by rw [hR]; unfold nodeOk; rw [if_pos k0]; by_cases hb : x.b = 0 <;> simp [hb, g1, g2]
        clear hR
        cases hv : R with
        | true =>
          rw [hv] at hR2
          have g3 : x.b = 0 := by simpa using hR2.symm
          clear hR2 hv
          go_enter Tryd.func40, Tryd.ntmps40
          go_wp2
          go_quiet (fail)
          go_wp2
          go_ret
          exact ⟨rfl, by repeat (first | with_reducible exact Below.refl _ _ | (with_reducible refine kSet ?_ ?hB _; case hB => (simp; try omega)) | with_reducible refine kAlloc ?_ _ | with_reducible refine Below.drew ?_ | with_reducible refine kDrewN ?_ _ | with_reducible refine kTrans ?_ (by assumption))⟩
        | false =>
          rw [hv] at hR2
          have g3 : ¬ x.b = 0 := by simpa using hR2.symm
          have g3' : (x.b == 0) = false := by simpa using g3
          clear hR2 hv
          go_enter Tryd.func40, Tryd.ntmps40
          go_wp2
          go_quiet (fail)
          go_wp2
          go_ret
          exact ⟨rfl, by repeat (first | with_reducible exact Below.refl _ _ | (with_reducible refine kSet ?_ ?hB _; case hB => (simp; try omega)) | with_reducible refine kAlloc ?_ _ | with_reducible refine Below.drew ?_ | with_reducible refine kDrewN ?_ _ | with_reducible refine kTrans ?_ (by assumption))⟩
      · have g2' : decide (x.a < ni) = false := by simpa using g2
        obtain rfl : R = false := by rw [hR]; unfold nodeOk; rw [if_pos k0]; simp; intro h1 h2; exact absurd h2 g2
        clear hR
        go_enter Tryd.func40, Tryd.ntmps40
        go_wp2
        go_quiet (fail)
        go_wp2
        go_ret
        exact ⟨rfl, by repeat (first | with_reducible exact Below.refl _ _ | (with_reducible refine kSet ?_ ?hB _; case hB => (simp; try omega)) | with_reducible refine kAlloc ?_ _ | with_reducible refine Below.drew ?_ | with_reducible refine kDrewN ?_ _ | with_reducible refine kTrans ?_ (by assumption))⟩
    · have g1' : decide (0 ≤ x.a) = false := by simpa using g1
      obtain rfl : R = false := by rw [hR]; unfold nodeOk; rw [if_pos k0]; simp; intro h1 h2; exact absurd h1 g1
      clear hR
      go_enter Tryd.func40, Tryd.ntmps40
      go_wp2
      go_quiet (fail)
      go_wp2
      go_ret
      exact ⟨rfl, by repeat (first | with_reducible exact Below.refl _ _ | (with_reducible refine kSet ?_ ?hB _; case hB => (simp; try omega)) | with_reducible refine kAlloc ?_ _ | with_reducible refine Below.drew ?_ | with_reducible refine kDrewN ?_ _ | with_reducible refine kTrans ?_ (by assumption))⟩
  · by_cases k1 : x.kind = 1
    · have hR2 : R = (decide (x.a = 0) && decide (x.b = 0)) := by rw [hR]; unfold nodeOk; rw [if_neg k0, if_pos k1]; simp
      clear hR
      by_cases g1 : x.a = 0
      · cases hv : R with
        | true =>
          have g3 : x.b = 0 := by rw [hv] at hR2; simp [g1] at hR2; exact hR2
          clear hR2 hv
          go_enter Tryd.func40, Tryd.ntmps40
          go_wp2
          go_ret
          exact ⟨rfl, by repeat (first | with_reducible exact Below.refl _ _ | (with_reducible refine kSet ?_ ?hB _; case hB => (simp; try omega)) | with_reducible refine kAlloc ?_ _ | with_reducible refine Below.drew ?_ | with_reducible refine kDrewN ?_ _ | with_reducible refine kTrans ?_ (by assumption))⟩
        | false =>
          have g3 : ¬ x.b = 0 := by rw [hv] at hR2; simp [g1] at hR2; exact hR2
          have g3' : (x.b == 0) = false := by simpa using g3
          clear hR2 hv
          go_enter Tryd.func40, Tryd.ntmps40
          go_wp2
          go_ret
          exact ⟨rfl, by repeat (first | with_reducible exact Below.refl _ _ | (with_reducible refine kSet ?_ ?hB _; case hB => (simp; try omega)) | with_reducible refine kAlloc ?_ _ | with_reducible refine Below.drew ?_ | with_reducible refine kDrewN ?_ _ | with_reducible refine kTrans ?_ (by assumption))⟩
      · obtain rfl : R = false := by rw [hR2]; simp [g1]
        have g1' : (x.a == 0) = false := by simpa using g1
        clear hR2
        go_enter Tryd.func40, Tryd.ntmps40
        go_wp2
        go_ret
        exact ⟨rfl, by repeat (first | with_reducible exact Below.refl _ _ | (with_reducible refine kSet ?_ ?hB _; case hB => (simp; try omega)) | with_reducible refine kAlloc ?_ _ | with_reducible refine Below.drew ?_ | with_reducible refine kDrewN ?_ _ | with_reducible refine kTrans ?_ (by assumption))⟩
    · by_cases k2 : x.kind = 2 ∨ x.kind = 3
      · have hR2 : R = decide ((0 ≤ x.a ∧ x.a < i) ∧ (0 ≤ x.b ∧ x.b < i)) := by rw [hR]; unfold nodeOk; rw [if_neg k0, if_neg k1, if_pos k2]
        clear hR k0 k1
        by_cases g1 : 0 ≤ x.a
        · have g1' : decide (0 ≤ x.a) = true := by simpa using g1
          by_cases g2 : x.a < (i : Int)
          · have g2' : decide (x.a < (i : Int)) = true := by simpa using g2
            by_cases g3 : 0 ≤ x.b
            · have g3' : decide (0 ≤ x.b) = true := by simpa using g3
              by_cases g4 : x.b < (i : Int)
              · have g4' : decide (x.b < (i : Int)) = true := by simpa using g4
                obtain rfl : R = true := by rw [hR2]; simpa using ⟨⟨g1, g2⟩, g3, g4⟩
                clear hR2
                rcases k2 with k2 | k2
                · go_enter Tryd.func40, Tryd.ntmps40
                  go_wp2
                  go_ret
                  exact ⟨rfl, by repeat (first | with_reducible exact Below.refl _ _ | (with_reducible refine kSet ?_ ?hB _; case hB => (simp; try omega)) | with_reducible refine kAlloc ?_ _ | with_reducible refine Below.drew ?_ | with_reducible refine kDrewN ?_ _ | with_reducible refine kTrans ?_ (by assumption))⟩
                · go_enter Tryd.func40, Tryd.ntmps40
                  go_wp2
                  go_ret
                  exact ⟨rfl, by repeat (first | with_reducible exact Below.refl _ _ | (with_reducible refine kSet ?_ ?hB _; case hB => (simp; try omega)) | with_reducible refine kAlloc ?_ _ | with_reducible refine Below.drew ?_ | with_reducible refine kDrewN ?_ _ | with_reducible refine kTrans ?_ (by assumption))⟩
              · have g4' : decide (x.b < (i : Int)) = false := by simpa using g4
                obtain rfl : R = false := by rw [hR2]; simp; intro _ _ _; omega
                clear hR2
                rcases k2 with k2 | k2
                · go_enter Tryd.func40, Tryd.ntmps40
                  go_wp2
                  go_ret
                  exact ⟨rfl, by repeat (first | with_reducible exact Below.refl _ _ | (with_reducible refine kSet ?_ ?hB _; case hB => (simp; try omega)) | with_reducible refine kAlloc ?_ _ | with_reducible refine Below.drew ?_ | with_reducible refine kDrewN ?_ _ | with_reducible refine kTrans ?_ (by assumption))⟩
                · go_enter Tryd.func40, Tryd.ntmps40
                  go_wp2
                  go_ret
                  exact ⟨rfl, by repeat (first | with_reducible exact Below.refl _ _ | (with_reducible refine kSet ?_ ?hB _; case hB => (simp; try omega)) | with_reducible refine kAlloc ?_ _ | with_reducible refine Below.drew ?_ | with_reducible refine kDrewN ?_ _ | with_reducible refine kTrans ?_ (by assumption))⟩
            · have g3' : decide (0 ≤ x.b) = false := by simpa using g3
              obtain rfl : R = false := by rw [hR2]; simp; intro _ _ h; exact absurd h g3
              clear hR2
              rcases k2 with k2 | k2
              · go_enter Tryd.func40, Tryd.ntmps40
                go_wp2
                go_ret
                exact ⟨rfl, by repeat (first | with_reducible exact Below.refl _ _ | (with_reducible refine kSet ?_ ?hB _; case hB => (simp; try omega)) | with_reducible refine kAlloc ?_ _ | with_reducible refine Below.drew ?_ | with_reducible refine kDrewN ?_ _ | with_reducible refine kTrans ?_ (by assumption))⟩
              · go_enter Tryd.func40, Tryd.ntmps40
                go_wp2
                go_ret
                exact ⟨rfl, by repeat (first | with_reducible exact Below.refl _ _ | (with_reducible refine kSet ?_ ?hB _; case hB => (simp; try omega)) | with_reducible refine kAlloc ?_ _ | with_reducible refine Below.drew ?_ | with_reducible refine kDrewN ?_ _ | with_reducible refine kTrans ?_ (by assumption))⟩
          · have g2' : decide (x.a < (i : Int)) = false := by simpa using g2
            obtain rfl : R = false := by rw [hR2]; simp; intro _ h; exact absurd h g2
            clear hR2
            rcases k2 with k2 | k2
            · go_enter Tryd.func40, Tryd.ntmps40
              go_wp2
              go_ret
              exact ⟨rfl, by repeat (first | with_reducible exact Below.refl _ _ | (with_reducible refine kSet ?_ ?hB _; case hB => (simp; try omega)) | with_reducible refine kAlloc ?_ _ | with_reducible refine Below.drew ?_ | with_reducible refine kDrewN ?_ _ | with_reducible refine kTrans ?_ (by assumption))⟩
            · go_enter Tryd.func40, Tryd.ntmps40
              go_wp2
              go_ret
              exact ⟨rfl, by repeat (first | with_reducible exact Below.refl _ _ | (with_reducible refine kSet ?_ ?hB _; case hB => (simp; try omega)) | with_reducible refine kAlloc ?_ _ | with_reducible refine Below.drew ?_ | with_reducible refine kDrewN ?_ _ | with_reducible refine kTrans ?_ (by assumption))⟩
        · have g1' : decide (0 ≤ x.a) = false := by simpa using g1
          obtain rfl : R = false := by rw [hR2]; simp; intro h; exact absurd h g1
          clear hR2
          rcases k2 with k2 | k2
          · go_enter Tryd.func40, Tryd.ntmps40
            go_wp2
            go_ret
            exact ⟨rfl, by repeat (first | with_reducible exact Below.refl _ _ | (with_reducible refine kSet ?_ ?hB _; case hB => (simp; try omega)) | with_reducible refine kAlloc ?_ _ | with_reducible refine Below.drew ?_ | with_reducible refine kDrewN ?_ _ | with_reducible refine kTrans ?_ (by assumption))⟩
          · go_enter Tryd.func40, Tryd.ntmps40
            go_wp2
            go_ret
            exact ⟨rfl, by repeat (first | with_reducible exact Below.refl _ _ | (with_reducible refine kSet ?_ ?hB _; case hB => (simp; try omega)) | with_reducible refine kAlloc ?_ _ | with_reducible refine Below.drew ?_ | with_reducible refine kDrewN ?_ _ | with_reducible refine kTrans ?_ (by assumption))⟩
      · obtain rfl : R = false := by rw [hR]; unfold nodeOk; rw [if_neg k0, if_neg k1, if_neg k2]
        have d2 : ¬ x.kind = 2 := fun h => k2 (.inl h)
        have d3 : ¬ x.kind = 3 := fun h => k2 (.inr h)
        clear hR k2
        go_enter Tryd.func40, Tryd.ntmps40
        go_wp2
        go_ret
        exact ⟨rfl, by repeat (first | with_reducible exact Below.refl _ _ | (with_reducible refine kSet ?_ ?hB _; case hB => (simp; try omega)) | with_reducible refine kAlloc ?_ _ | with_reducible refine Below.drew ?_ | with_reducible refine kDrewN ?_ _ | with_reducible refine kTrans ?_ (by assumption))⟩

set_option maxRecDepth 100000 in
set_option maxHeartbeats 8000000 in
theorem l04Ok_any (bb b k : Nat) (ni : Int) (l : List Nd) (p : List Int) (w : World) (h0 : NwAt w bb ni (.slice (some ⟨b, 0, none⟩) l.length l.length) (.slice (some ⟨k, 0, none⟩) p.length p.length)) (h : NK w b k l p) (h8 : NdsWf l) (h9 : ShsWf p) (bw : i8 ni) (m0 : l.length ≤ 1048576) (m1 : p.length ≤ 1048576) (R : Bool) (hR : R = netOk ni l p) :
    Calls Tryd.prog 23 #[.pointer (some ⟨bb, 0, none⟩)] w fun e w' => e = .returned (.bool R) ∧ Below w.heap.size w w' := by
  have hni : IntKind.i64.wrap ni = ni := IntWalk.i64_in _ (by have := bw.1; have := bw.2; omega)
  have lb := h0.lt
  have HX := Lib.hid (fun W (hW : Below w.heap.size w W) => h0.below hW lb)
  obtain ⟨x0, x1, x2⟩ := h0
  by_cases c0 : 1 ≤ ni ∧ ni ≤ 6
  · by_cases c1 : 1 ≤ (l.length : Int) ∧ (l.length : Int) ≤ 80
    · by_cases c2 : 1 ≤ (p.length : Int) ∧ (p.length : Int) ≤ 8
      · have hR2 : Hid ((nodesOk ni (l.drop 0) 0 && outsOkN l.length (p.drop 0)) = R) := Lib.hid (by
          rw [hR]; unfold netOk; rw [decide_eq_true c0, decide_eq_true (show 1 ≤ l.length ∧ l.length ≤ 80 by omega), decide_eq_true (show 1 ≤ p.length ∧ p.length ≤ 8 by omega)]; rfl)
        have HK := Lib.hid h
        have H8 := Lib.hid h8
        have H9 := Lib.hid h9
        obtain ⟨n, hn⟩ : ∃ n, l.length = n := ⟨_, rfl⟩
        obtain ⟨q, hq⟩ : ∃ q, p.length = q := ⟨_, rfl⟩
        rw [hn] at c1 hR2 HX m0 x1
        rw [hq] at c2 HX m1 x2
        have Hn := Lib.hid hn
        have Hq := Lib.hid hq
        clear hR h h8 h9 hn hq
        go_enter Tryd.func23, Tryd.ntmps23
        go_wp2_with fail
        refine (l00In_any ni 1 6 _ true (by symm; simpa using c0)).mono ?_
        rintro e w1 ⟨rfl, rfl⟩
        go_wp2_with fail
        refine (l00In_any (n : Int) 1 80 _ true (by symm; simpa using c1)).mono ?_
        rintro e w1 ⟨rfl, rfl⟩
        go_wp2_with fail
        refine (l00In_any (q : Int) 1 8 _ true (by symm; simpa using c2)).mono ?_
        rintro e w1 ⟨rfl, rfl⟩
        go_wp2
        clear x0 x1 x2
        go_loopw [3] (fun i wr => ∃ j : Nat, j ≤ n ∧ i = .int .i64 j ∧ Hid ((nodesOk ni (l.drop j) j && outsOkN n (p.drop 0)) = R) ∧ Below w.heap.size w wr) (fun i _ => n - (intOf i).toNat)
        case atStart => exact ⟨0, by omega, rfl, hR2, Below.refl _ _⟩
        case round =>
          clear hR2
          obtain ⟨j, hj, rfl, hf, hbr⟩ := hrel
          obtain ⟨x0, x1, x2⟩ := id (HX.out wr hbr)
          have zr := Nat.lt_of_lt_of_le lb hbr.size
          by_cases hlt : j < n
          · have hlk : j < l.length := by rw [Hn.out]; exact hlt
            have hpa := (HK.out.below hbr).p0 j hlk
            have hzb := (HK.out.below hbr).z0
            have hd : l.drop j = l[j] :: l.drop (j + 1) := List.drop_eq_getElem_cons hlk
            have hwf := H8.out _ (List.getElem_mem hlk)
            generalize l[j] = x at hpa hd hwf
            rw [Nat.zero_add] at hpa
            have hq := hf.out
            rw [hd] at hq
            cases hv : nodeOk ni j x with
            | true =>
              have hR3 : Hid ((nodesOk ni (l.drop (j + 1)) (j + 1) && outsOkN n (p.drop 0)) = R) := Lib.hid (by rw [← hq]; simp [nodesOk, hv])
              have HC := Lib.hid (l04Node_any bb b n ni _ x j wr (HX.out wr hbr) hpa hzb hlt (by omega) bw hwf true hv.symm)
              clear hq hd hf hv hwf hpa
              go_wp2_with fail
              refine HC.out.mono ?_
              rintro e w2 ⟨rfl, hb2⟩
              have T2 := kTrans hbr hb2
              clear x0 x1 x2 hb2 HC
              go_wp2
              exact ⟨⟨j + 1, by omega, by go_num, hR3, T2⟩, by simp [intOf]; omega⟩
            | false =>
              obtain rfl : R = false := by rw [← hq]; simp [nodesOk, hv]
              have HC := Lib.hid (l04Node_any bb b n ni _ x j wr (HX.out wr hbr) hpa hzb hlt (by omega) bw hwf false hv.symm)
              clear hq hd hf hv hwf hpa
              go_wp2_with fail
              refine HC.out.mono ?_
              rintro e w2 ⟨rfl, hb2⟩
              have T2 := kTrans hbr hb2
              clear x0 x1 x2 hb2 HC
              go_wp2
              go_ret
              exact ⟨rfl, T2⟩
          · obtain rfl : j = n := by omega
            have hR3 : Hid (outsOkN j (p.drop 0) = R) := Lib.hid (by rw [← hf.out, List.drop_of_length_le (l := l) (by rw [Hn.out]; omega)]; simp [nodesOk])
            clear hf hlt
            obtain ⟨wo, rfl⟩ : ∃ wo : World, wo = wr := ⟨_, rfl⟩
            go_wp2
            go_loopw [4] (fun i wr => ∃ m : Nat, m ≤ q ∧ i = .int .i64 m ∧ Hid (outsOkN j (p.drop m) = R) ∧ Below w.heap.size w wr) (fun i _ => q - (intOf i).toNat)
            case atStart => exact ⟨0, by omega, rfl, hR3, hbr⟩
            case round =>
              clear hR3 x0 x1 x2
              obtain ⟨m, hm, rfl, hf, hbr2⟩ := hrel
              obtain ⟨x0, x1, x2⟩ := id (HX.out wr hbr2)
              have zr2 := Nat.lt_of_lt_of_le lb hbr2.size
              by_cases hlt : m < q
              · have hlk : m < p.length := by rw [Hq.out]; exact hlt
                have hpa := (HK.out.below hbr2).p1 m hlk
                have hd : p.drop m = p[m] :: p.drop (m + 1) := List.drop_eq_getElem_cons hlk
                have hwf := n16_of (H9.out _ (List.getElem_mem hlk))
                generalize p[m] = x at hpa hd hwf
                simp only [Nat.zero_add] at hpa
                have hxw : IntKind.i64.wrap x = x := IntWalk.i64_in _ (by omega)
                have hq2 := hf.out
                rw [hd] at hq2
                by_cases hA : x < 0
                · have hA' : decide (x < 0) = true := by simpa using hA
                  obtain rfl : R = false := by rw [← hq2]; simp [outsOkN]; intro h1 h2; omega
                  clear hq2 hd hf
                  go_wp2
                  go_quiet (fail)
                  go_wp2
                  go_ret
                  exact ⟨rfl, kDrewN hbr2 _⟩
                · have hA' : decide (x < 0) = false := by simpa using hA
                  by_cases hB : (j : Int) ≤ x
                  · have hB' : decide ((j : Int) ≤ x) = true := by simpa using hB
                    obtain rfl : R = false := by rw [← hq2]; simp [outsOkN]; intro h1 h2; omega
                    clear hq2 hd hf
                    go_wp2
                    go_quiet (fail)
                    go_wp2
                    go_ret
                    exact ⟨rfl, kDrewN hbr2 _⟩
                  · have hB' : decide ((j : Int) ≤ x) = false := by simpa using hB
                    have hR4 : Hid (outsOkN j (p.drop (m + 1)) = R) := Lib.hid (by rw [← hq2]; simp [outsOkN]; intro h; omega)
                    clear hq2 hd hf
                    go_wp2
                    go_quiet (fail)
                    go_wp2
                    exact ⟨⟨m + 1, by omega, by go_num, hR4, kDrewN hbr2 _⟩, by simp [intOf]; omega⟩
              · obtain rfl : R = true := by rw [← hf.out, List.drop_of_length_le (by rw [Hq.out]; omega)]; rfl
                clear hf
                go_wp2
                go_ret
                exact ⟨rfl, hbr2⟩
      · obtain rfl : R = false := by rw [hR]; unfold netOk; rw [decide_eq_false (show ¬ (1 ≤ p.length ∧ p.length ≤ 8) by omega)]; simp
        clear hR h h8 h9 HX
        go_enter Tryd.func23, Tryd.ntmps23
        go_wp2_with fail
        refine (l00In_any ni 1 6 _ true (by symm; simpa using c0)).mono ?_
        rintro e w1 ⟨rfl, rfl⟩
        go_wp2_with fail
        refine (l00In_any (l.length : Int) 1 80 _ true (by symm; simpa using c1)).mono ?_
        rintro e w1 ⟨rfl, rfl⟩
        go_wp2_with fail
        refine (l00In_any (p.length : Int) 1 8 _ false (by symm; simpa using c2)).mono ?_
        rintro e w1 ⟨rfl, rfl⟩
        go_wp2
        go_ret
        exact ⟨rfl, Below.refl _ _⟩
    · obtain rfl : R = false := by rw [hR]; unfold netOk; rw [decide_eq_false (show ¬ (1 ≤ l.length ∧ l.length ≤ 80) by omega)]; simp
      clear hR h h8 h9 HX
      go_enter Tryd.func23, Tryd.ntmps23
      go_wp2_with fail
      refine (l00In_any ni 1 6 _ true (by symm; simpa using c0)).mono ?_
      rintro e w1 ⟨rfl, rfl⟩
      go_wp2_with fail
      refine (l00In_any (l.length : Int) 1 80 _ false (by symm; simpa using c1)).mono ?_
      rintro e w1 ⟨rfl, rfl⟩
      go_wp2
      go_ret
      exact ⟨rfl, Below.refl _ _⟩
  · obtain rfl : R = false := by rw [hR]; unfold netOk; rw [decide_eq_false c0]; simp
    clear hR h h8 h9 HX
    go_enter Tryd.func23, Tryd.ntmps23
    go_wp2_with fail
    refine (l00In_any ni 1 6 _ false (by symm; simpa using c0)).mono ?_
    rintro e w1 ⟨rfl, rfl⟩
    go_wp2
    go_ret
    exact ⟨rfl, Below.refl _ _⟩
end Go.Proofs.YtlbnhdnmcnfgdaaDoor
