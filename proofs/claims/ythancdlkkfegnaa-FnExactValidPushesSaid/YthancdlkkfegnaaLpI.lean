/- LaterPushes: the program. -/
import Derived.Test.YthancdlkkfegnaaLp
namespace Go.Proofs.Ythancdlkkfegnaa
open Go.ChangeShapes Go.WideShapes Go.ChangeAt Go.RowKit Go.Joins Go.Deep
set_option linter.unusedVariables false

def MixAt (w : World) (g o : Nat) (by' : Int) (l : List Pu) (k : Nat) : Prop := ∀ i (h : i < l.length), PuAt w g (o + i * 4) (if i < k then moved by' l[i] else l[i])
theorem MixAt.start {w : World} {g o : Nat} {by' : Int} {l : List Pu} (h : PusAt w g o l) : MixAt w g o by' l 0 := fun i hi => by rw [if_neg (by omega)]; exact h i hi
theorem MixAt.stop {w : World} {g o : Nat} {by' : Int} {l : List Pu} (h : MixAt w g o by' l l.length) : PusAt w g o (l.map (moved by')) := fun i hi => by
  have hl : i < l.length := by simpa using hi
  have := h i hl
  rw [if_pos hl] at this
  simpa using this
theorem MixAt.below {w w' : World} {g o : Nat} {by' : Int} {l : List Pu} {k : Nat} (h : MixAt w g o by' l k) (hb : Below w.heap.size w w') (hg : g < w.heap.size) : MixAt w' g o by' l k := fun i hi => (h i hi).below hb hg
theorem MixAt.store {w : World} {g o : Nat} {by' : Int} {l : List Pu} {k : Nat} {p : Pu} (h : MixAt w g o by' l k) (hk : k < l.length) (hp : l[k] = p) : MixAt (w.setCell ⟨g, o + k * 4 + 3, none⟩ (.int .i16 (p.tick + by'))) g o by' l (k + 1) := by
  intro i hi
  have hx := h i hi
  have ne : ∀ a : Nat, a ≠ o + k * 4 + 3 → (⟨g, o + k * 4 + 3, none⟩ : Addr) ≠ ⟨g, a, none⟩ := by intro a ha e; injection e with _ h2 _; exact ha h2.symm
  by_cases e : i = k
  · subst e
    rw [if_neg (by omega)] at hx
    rw [if_pos (by omega)]
    obtain ⟨h0, h1, h2, h3⟩ := hx
    rw [hp] at h0 h1 h2 h3 ⊢
    exact ⟨by rw [World.cell?_setCell_other _ _ _ _ (ne _ (by omega))]; exact h0, by rw [World.cell?_setCell_other _ _ _ _ (ne _ (by omega))]; exact h1, by rw [World.cell?_setCell_other _ _ _ _ (ne _ (by omega))]; exact h2, World.cell?_setCell_same _ _ _ h3⟩
  · have hc : (if i < k + 1 then moved by' l[i] else l[i]) = (if i < k then moved by' l[i] else l[i]) := by
      by_cases h : i < k
      · rw [if_pos h, if_pos (by omega)]
      · rw [if_neg h, if_neg (by omega)]
    rw [hc]
    obtain ⟨h0, h1, h2, h3⟩ := hx
    exact ⟨by rw [World.cell?_setCell_other _ _ _ _ (ne _ (by omega))]; exact h0, by rw [World.cell?_setCell_other _ _ _ _ (ne _ (by omega))]; exact h1, by rw [World.cell?_setCell_other _ _ _ _ (ne _ (by omega))]; exact h2, by rw [World.cell?_setCell_other _ _ _ _ (ne _ (by omega))]; exact h3⟩

theorem isPushTick_any (t : Int) (w : World) (r : Bool) (hr : r = decide (0 ≤ t ∧ t ≤ 1000)) :
    Calls Try.prog 104 #[.int .i64 t] w fun e w' => e = .returned (.bool r) ∧ w = w' := by
  by_cases h1 : 0 ≤ t
  · by_cases h2 : t ≤ 1000
    · obtain rfl : r = true := by rw [hr]; simp; omega
      clear hr
      go_enter Try.func104, Try.ntmps104
      go_wp2
      go_ret
      exact ⟨rfl, rfl⟩
    · obtain rfl : r = false := by rw [hr]; simp; omega
      have h3 : decide (t ≤ 1000) = false := by simp; omega
      clear hr h2
      go_enter Try.func104, Try.ntmps104
      go_wp2
      go_ret
      exact ⟨rfl, rfl⟩
  · obtain rfl : r = false := by rw [hr]; simp; omega
    have h3 : decide (0 ≤ t) = false := by simp; omega
    clear hr h1
    go_enter Try.func104, Try.ntmps104
    go_wp2
    go_ret
    exact ⟨rfl, rfl⟩
set_option maxRecDepth 100000 in
set_option maxHeartbeats 4000000 in
theorem implLaterPushes_any (b n : Nat) (by' : Int) (l : List Pu) (w : World) (hn : l.length = n) (hp : PusAt w b 0 l) (hb : b < w.heap.size) (hw : PusWf l) (bb : -9223372036854775808 ≤ by' ∧ by' ≤ 9223372036854775807) (hmax : n ≤ 1048576) (lr : List Pu) (C : Int) (hQ : laterQ by' l = (lr, C)) :
    Calls Try.prog 62 #[.slice (some ⟨b, 0, none⟩) n n, .int .i64 by'] w (PushPost lr C w) := by
  by_cases h1 : -1000 ≤ by' ∧ by' ≤ 1000
  · have e1 : decide (by' < -1000) = false := by simp; omega
    have e2 : decide (1000 < by') = false := by simp; omega
    by_cases h2 : n ≤ 20
    · obtain ⟨R, hR⟩ : ∃ R, laterOk by' l = R := ⟨_, rfl⟩
      have HR : Hid (laterOk by' (l.drop 0) = R) := Lib.hid hR
      have HRl := Lib.hid hR
      have HC := Lib.hid (clonePu_mk b 0 n n l w hn hp hb hmax)
      have Hn := Lib.hid hn
      have HQ := Lib.hid hQ
      have HW := Lib.hid hw
      have hgt : decide ((20 : Int) < (n : Int)) = false := by simp; omega
      have hgt2 : decide (20 < n) = false := by simp; omega
      clear hn hR hQ hw
      go_enter Try.func62, Try.ntmps62
      go_wp2_with fail
      refine HC.out.mono ?_
      rintro e w1 ⟨v1, rfl, hown1, hb1⟩
      have hs1 := SlWPu.of_owns hown1
      obtain ⟨va, vc, rfl⟩ := owns_slice hown1
      have hz1 := hb1.size
      clear hown1 HC
      by_cases h0 : n = 0
      · subst h0
        obtain rfl : l = [] := List.length_eq_zero_iff.1 Hn.out
        obtain ⟨rfl, rfl⟩ := pair_inj (HQ.out.symm.trans (by unfold laterQ; rw [if_pos h1, if_pos (by simp), if_pos (by rfl)]; rfl) : (lr, C) = ([], 0))
        clear hp hs1
        go_wp2
        refine wp_loop_rounds 1 ?_
        rw [rounds_succ]
        go_wp2
        exact bodyPost_ret (v := .tuple #[.slice va 0 vc, .int .i64 0]) (by simp [results, Try.results62, go_sem]) rfl ⟨_, rfl, .empty _ _ rfl, hb1⟩
      · have hs2 : ∃ g o, Value.slice va n vc = .slice (some ⟨g, o, none⟩) n vc ∧ PusAt w1 g o l ∧ w.heap.size ≤ g ∧ g < w1.heap.size ∧ (∀ j, w1.frozen? ⟨g, j, none⟩ = false) ∧ n ≤ vc := by
          generalize hv : Value.slice va n vc = v at hs1
          cases hs1 with
          | empty a cap h => exact absurd (by rw [← Hn.out, h]; rfl) h0
          | mk g o cap hc q1 q2 q3 hf hl =>
            injection hv with x1 x2 x3
            subst x1 x3
            exact ⟨g, o, by rw [Hn.out], hc, q1, q2, hf, by rw [← Hn.out]; exact hl⟩
        obtain ⟨g, o, hv, hg1, hg2, hg3, hgf, hgc⟩ := hs2
        injection hv with hv _ _
        subst hv
        have HMx := Lib.hid (MixAt.start (by' := by') hg1)
        have HFz := Lib.hid hgf
        clear hs1 hg1 hgf
        go_wp2
        go_loopw [7, 8, 9, 23] (fun _ _ _ i wr => ∃ k : Nat, k ≤ n ∧ i = .int .i64 k ∧ Hid (laterOk by' (l.drop k) = R) ∧ Hid (MixAt wr g o by' l k) ∧ Hid (∀ j, wr.frozen? ⟨g, j, none⟩ = false) ∧ g < wr.heap.size ∧ Below w.heap.size w wr) (fun _ _ _ i _ => n - (intOf i).toNat)
        case atStart => exact ⟨0, by omega, rfl, HR, HMx, HFz, hg3, hb1⟩
        case round =>
          obtain ⟨k, hk, rfl, hf, hmx, hfz, hgw, hbr⟩ := hrel
          by_cases hlt : k < n
          · have hlk : k < l.length := by rw [Hn.out]; exact hlt
            have hpa := (hp.below hbr hb) k hlk
            have hma := hmx.out k hlk
            rw [if_neg (by omega)] at hma
            have hwf := HW.out _ (List.getElem_mem hlk)
            have hd : l.drop k = l[k] :: l.drop (k + 1) := List.drop_eq_getElem_cons hlk
            have hst := fun q (hq : l[k] = q) => hmx.out.store hlk hq
            generalize hlp : l[k] = p at hpa hwf hd hma hst
            have HS := Lib.hid (hst p rfl)
            have hq := hf.out
            rw [hd] at hq
            have ht := i16_of hwf.2.2.2
            obtain ⟨a0, a1, a2, a3⟩ := hpa
            obtain ⟨m0, m1, m2, m3⟩ := hma
            simp only [Nat.zero_add] at a0 a1 a2 a3
            have f3 := hfz.out (o + k * 4 + 3)
            clear hp hd hwf hf HR HMx HFz hst hlp m0 m1 m2 hmx
            by_cases g1 : 0 ≤ p.tick ∧ p.tick ≤ 1000
            · go_wp2_with fail
              refine (isPushTick_any _ _ true (by simp; omega)).mono ?_
              rintro e w2 ⟨rfl, rfl⟩
              by_cases g2 : 0 ≤ p.tick + by' ∧ p.tick + by' ≤ 1000
              · have hR2 : Hid (laterOk by' (l.drop (k + 1)) = R) := Lib.hid (by rw [← hq]; simp [laterOk, laterOne, g1, g2])
                clear hq
                go_wp2_with fail
                refine (isPushTick_any _ _ true (by simp; omega)).mono ?_
                rintro e w3 ⟨rfl, rfl⟩
                have HF2 : Hid (∀ j, (wr.setCell ⟨g, o + k * 4 + 3, none⟩ (.int .i16 (p.tick + by'))).frozen? ⟨g, j, none⟩ = false) := Lib.hid (fun j => by rw [World.frozen?_setCell]; exact hfz.out j)
                have hgs : g < (wr.setCell ⟨g, o + k * 4 + 3, none⟩ (.int .i16 (p.tick + by'))).heap.size := by simpa [World.setCell] using hgw
                have HB2 := Lib.hid (kSet hbr (p := ⟨g, o + k * 4 + 3, none⟩) hg2 (.int .i16 (p.tick + by')))
                clear hfz hbr
                go_wp2
                refine ⟨⟨k + 1, by omega, by go_num, hR2, Lib.hid (MixAt.below HS.out (kAlloc (Below.refl _ _) _) hgs), Lib.hid (fun j => ((kAlloc (Below.refl _ _) _ : Below _ _ _).frozen (p := ⟨g, j, none⟩) hgs).trans (HF2.out j)), ?_, kAlloc HB2.out _⟩, by simp [intOf]; omega⟩
                simp; omega
              · obtain rfl : R = false := by rw [← hq]; simp [laterOk, laterOne, g1]; intro h3 h4; exact absurd ⟨h3, h4⟩ g2
                obtain ⟨rfl, rfl⟩ := pair_inj (HQ.out.symm.trans (by unfold laterQ; rw [if_pos h1, if_pos (by rw [Hn.out]; exact h2), if_neg (by rw [HRl.out]; simp)]) : (lr, C) = ([], 3))
                clear hq HS hfz
                go_wp2_with fail
                refine (isPushTick_any _ _ false (by simpa using g2)).mono ?_
                rintro e w3 ⟨rfl, rfl⟩
                go_wp2
                exact bodyPost_ret (v := .tuple #[.slice none 0 0, .int .i64 3]) (by simp [results, Try.results62, go_sem]) rfl ⟨_, rfl, .empty _ _ rfl, by repeat (first | with_reducible exact Below.refl _ _ | (with_reducible refine kSet ?_ ?hB _; case hB => (simp; try omega)) | with_reducible refine kAlloc ?_ _ | with_reducible refine Below.drew ?_ | with_reducible refine kDrewN ?_ _ | with_reducible refine kTrans ?_ (by assumption))⟩
            · obtain rfl : R = false := by rw [← hq]; simp [laterOk, laterOne]; intro h3 h4; exact absurd ⟨h3, h4⟩ g1
              obtain ⟨rfl, rfl⟩ := pair_inj (HQ.out.symm.trans (by unfold laterQ; rw [if_pos h1, if_pos (by rw [Hn.out]; exact h2), if_neg (by rw [HRl.out]; simp)]) : (lr, C) = ([], 3))
              clear hq HS hfz
              go_wp2_with fail
              refine (isPushTick_any _ _ false (by simpa using g1)).mono ?_
              rintro e w2 ⟨rfl, rfl⟩
              go_wp2
              exact bodyPost_ret (v := .tuple #[.slice none 0 0, .int .i64 3]) (by simp [results, Try.results62, go_sem]) rfl ⟨_, rfl, .empty _ _ rfl, by repeat (first | with_reducible exact Below.refl _ _ | (with_reducible refine kSet ?_ ?hB _; case hB => (simp; try omega)) | with_reducible refine kAlloc ?_ _ | with_reducible refine Below.drew ?_ | with_reducible refine kDrewN ?_ _ | with_reducible refine kTrans ?_ (by assumption))⟩
          · obtain rfl : k = n := by omega
            obtain rfl : R = true := by rw [← hf.out, List.drop_of_length_le (by rw [Hn.out]; omega)]; rfl
            obtain ⟨hlr, rfl⟩ := pair_inj (HQ.out.symm.trans (by unfold laterQ; rw [if_pos h1, if_pos (by rw [Hn.out]; exact h2), if_pos HRl.out]) : (lr, C) = (l.map (moved by'), 0))
            have hm := hmx.out
            rw [← Hn.out] at hm
            have hms := Lib.hid hm.stop
            have Hlr := Lib.hid hlr
            clear hlr hm hmx hf hp HR HMx HFz
            go_wp2
            refine bodyPost_ret (v := .tuple #[.slice (some ⟨g, o, none⟩) k vc, .int .i64 0]) (by simp [results, Try.results62, go_sem]) rfl ⟨_, rfl, ?_, hbr⟩
            rw [Hlr.out]
            have := SlWPu.mk (lo := w.heap.size) (hi := wr.heap.size) (w := wr) (l := l.map (moved by')) g o vc hms.out hg2 hgw hgw hfz.out (by rw [List.length_map, Hn.out]; exact hgc)
            rwa [List.length_map, Hn.out] at this
    · obtain ⟨rfl, rfl⟩ := pair_inj (hQ.symm.trans (by unfold laterQ; rw [if_pos h1, if_neg (by rw [hn]; exact h2)]) : (lr, C) = ([], 3))
      have hgt : decide ((20 : Int) < (n : Int)) = true := by simp; omega
      have hgt2 : decide (20 < n) = true := by simp; omega
      clear hQ hn hp hw
      go_enter Try.func62, Try.ntmps62
      go_wp2
      exact bodyPost_ret (v := .tuple #[.slice none 0 0, .int .i64 3]) (by simp [results, Try.results62, go_sem]) rfl ⟨_, rfl, .empty _ _ rfl, by repeat (first | with_reducible exact Below.refl _ _ | (with_reducible refine kSet ?_ ?hB _; case hB => (simp; try omega)) | with_reducible refine kAlloc ?_ _ | with_reducible refine Below.drew ?_ | with_reducible refine kDrewN ?_ _ | with_reducible refine kTrans ?_ (by assumption))⟩
  · obtain ⟨rfl, rfl⟩ := pair_inj (hQ.symm.trans (by unfold laterQ; rw [if_neg h1]) : (lr, C) = ([], 2))
    have hc : by' < -1000 ∨ (¬ by' < -1000 ∧ 1000 < by') := by omega
    clear hQ hn hp hw h1
    rcases hc with h3 | ⟨h3, h4⟩
    all_goals
      go_enter Try.func62, Try.ntmps62
      go_wp2
      exact bodyPost_ret (v := .tuple #[.slice none 0 0, .int .i64 2]) (by simp [results, Try.results62, go_sem]) rfl ⟨_, rfl, .empty _ _ rfl, by repeat (first | with_reducible exact Below.refl _ _ | (with_reducible refine kSet ?_ ?hB _; case hB => (simp; try omega)) | with_reducible refine kAlloc ?_ _ | with_reducible refine Below.drew ?_ | with_reducible refine kDrewN ?_ _ | with_reducible refine kTrans ?_ (by assumption))⟩
end Go.Proofs.Ythancdlkkfegnaa
