/- Spans: whether they are some; ValidSpans, both sides. -/
import Derived.Test.YthngnbaoaeomeaaDoorSq
import Derived.Test.YthngnbaoaeomeaaDoorG2
namespace Go.Proofs.YthngnbaoaeomeaaDoor
open Go.ChangeShapes Go.WideShapes Go.ChangeAt Go.RowKit Go.Joins Go.Deep
set_option linter.unusedVariables false
set_option linter.unusedSimpArgs false
def spanB (p : Sq) : Bool := decide (1 ≤ p.low ∧ p.low ≤ p.high ∧ p.high ≤ 9)
def spansB (l : List Sq) : Bool := l.all spanB
theorem spansB_step {l : List Sq} {k : Nat} (h : k < l.length) : spansB (l.drop k) = (spanB l[k] && spansB (l.drop (k + 1))) := by
  unfold spansB
  rw [List.drop_eq_getElem_cons h, List.all_cons]
theorem areBounds_any (a b : Int) (w : World) (R : Bool) (hR : decide (1 ≤ a ∧ a ≤ b ∧ b ≤ 9) = R) :
    Calls Tryd.prog 99 #[.int .i64 a, .int .i64 b] w fun e w' => e = .returned (.bool R) ∧ w = w' := by
  by_cases h1 : 1 ≤ a
  · by_cases h2 : a ≤ b
    · by_cases h3 : b ≤ 9
      · obtain rfl : R = true := by rw [← hR]; simp [h1, h2, h3]
        clear hR
        go_enter Tryd.func99, Tryd.ntmps99
        go_wp2
        go_ret
        exact ⟨rfl, rfl⟩
      · obtain rfl : R = false := by rw [← hR]; simp [h3]
        have h3' : decide (b ≤ 9) = false := by simp; omega
        clear hR h3
        go_enter Tryd.func99, Tryd.ntmps99
        go_wp2
        go_ret
        exact ⟨rfl, rfl⟩
    · obtain rfl : R = false := by rw [← hR]; simp [h2]
      have h2' : decide (a ≤ b) = false := by simp; omega
      clear hR h2
      go_enter Tryd.func99, Tryd.ntmps99
      go_wp2
      go_ret
      exact ⟨rfl, rfl⟩
  · obtain rfl : R = false := by rw [← hR]; simp [h1]
    have h1' : decide (1 ≤ a) = false := by simp; omega
    clear hR h1
    go_enter Tryd.func99, Tryd.ntmps99
    go_wp2
    go_ret
    exact ⟨rfl, rfl⟩
set_option maxRecDepth 100000 in
set_option maxHeartbeats 4000000 in
theorem areSpans_eq (b n : Nat) (l : List Sq) (w : World) (hn : l.length = n) (h1 : SqsAt w b 0 l) (hb : b < w.heap.size) (h8 : SqsWf l) (hmax : n ≤ 1048576) (R : Bool) (hR : spansB l = R) :
    Calls Tryd.prog 82 #[.slice (some ⟨b, 0, none⟩) n n] w fun e w' => e = .returned (.bool R) ∧ Below w.heap.size w w' := by
  have Hn := Lib.hid hn
  have H8 := Lib.hid h8
  have HR : Hid (spansB (l.drop 0) = R) := Lib.hid hR
  clear hn h8 hR
  go_enter Tryd.func82, Tryd.ntmps82
  go_wp2
  go_loopw [7] (fun i wr => ∃ k : Nat, k ≤ n ∧ i = .int .i64 k ∧ Hid (spansB (l.drop k) = R) ∧ Below w.heap.size w wr) (fun i _ => n - (intOf i).toNat)
  case atStart => exact ⟨0, by omega, rfl, HR, Below.refl _ _⟩
  case round =>
    clear HR
    obtain ⟨k, hk, rfl, hf, hbr⟩ := hrel
    by_cases hlt : k < n
    · have hlk : k < l.length := by rw [Hn.out]; exact hlt
      have hp1 := (h1.below hbr hb) k hlk
      have hp8 := H8.out _ (List.getElem_mem hlk)
      have hq := hf.out
      rw [spansB_step hlk] at hq
      generalize l[k] = p at hp1 hp8 hq
      have z1 : b < wr.heap.size := Nat.lt_of_lt_of_le hb hbr.size
      obtain ⟨r, hr⟩ : ∃ r, spanB p = r := ⟨_, rfl⟩
      rw [hr] at hq
      have HC := Lib.hid (fun W => areBounds_any p.low p.high W r hr)
      have HQ := Lib.hid hq
      clear hf hq hr h1
      obtain ⟨a0, a1⟩ := hp1
      simp only [Nat.zero_add] at a0 a1
      have bl := bounds_i8 hp8.1
      have bh := bounds_i8 hp8.2
      cases r with
      | true =>
        have HQ2 : Hid (spansB (l.drop (k + 1)) = R) := Lib.hid (by have h := HQ.out; simpa using h)
        clear HQ
        go_wp2_with fail
        refine (HC.out _).mono ?_
        rintro e w2 ⟨rfl, rfl⟩
        go_wp2
        exact ⟨⟨k + 1, by omega, by go_num, HQ2, by repeat (first | with_reducible exact Below.refl _ _ | (with_reducible refine kSet ?_ ?hB _; case hB => (simp; try omega)) | with_reducible refine kAlloc ?_ _ | with_reducible refine Below.drew ?_ | with_reducible refine kDrewN ?_ _ | with_reducible refine kTrans ?_ (by assumption))⟩, by simp [intOf]; omega⟩
      | false =>
        obtain rfl : R = false := by have h := HQ.out; simpa using h.symm
        clear HQ
        go_wp2_with fail
        refine (HC.out _).mono ?_
        rintro e w2 ⟨rfl, rfl⟩
        go_wp2
        go_ret
        exact ⟨rfl, by repeat (first | with_reducible exact Below.refl _ _ | (with_reducible refine kSet ?_ ?hB _; case hB => (simp; try omega)) | with_reducible refine kAlloc ?_ _ | with_reducible refine Below.drew ?_ | with_reducible refine kDrewN ?_ _ | with_reducible refine kTrans ?_ (by assumption))⟩
    · obtain rfl : k = n := by omega
      obtain rfl : R = true := by rw [← hf.out, List.drop_of_length_le (by rw [Hn.out]; exact Nat.le_refl _)]; rfl
      clear hf
      go_wp2
      go_ret
      exact ⟨rfl, hbr⟩
theorem l06Span_any (p : Sq) (w : World) (hp : p.wf) (R : Bool) (hR : spanB p = R) :
    Calls Tryd.prog 52 #[.agg #[.int .i8 p.low, .int .i8 p.high]] w fun e w' => e = .returned (.bool R) ∧ Below w.heap.size w w' := by
  have bl := bounds_i8 hp.1
  have bh := bounds_i8 hp.2
  obtain ⟨a, b⟩ := p
  simp only [spanB] at hR bl bh ⊢
  by_cases h1 : 1 ≤ a ∧ a ≤ b
  · by_cases h3 : b ≤ 9
    · obtain rfl : R = true := by rw [← hR]; simp [h1, h3]
      clear hR
      go_enter Tryd.func52, Tryd.ntmps52
      go_wp2_with fail
      refine (l00In_any a 1 b _ true (by simp; omega)).mono ?_
      rintro e w1 ⟨rfl, rfl⟩
      go_wp2
      go_ret
      exact ⟨rfl, by repeat (first | with_reducible exact Below.refl _ _ | (with_reducible refine kSet ?_ ?hB _; case hB => (simp; try omega)) | with_reducible refine kAlloc ?_ _ | with_reducible refine Below.drew ?_ | with_reducible refine kDrewN ?_ _ | with_reducible refine kTrans ?_ (by assumption))⟩
    · obtain rfl : R = false := by rw [← hR]; simp [h3]
      have h3' : decide (b ≤ 9) = false := by simp; omega
      clear hR
      go_enter Tryd.func52, Tryd.ntmps52
      go_wp2_with fail
      refine (l00In_any a 1 b _ true (by simp; omega)).mono ?_
      rintro e w1 ⟨rfl, rfl⟩
      go_wp2
      go_ret
      exact ⟨rfl, by repeat (first | with_reducible exact Below.refl _ _ | (with_reducible refine kSet ?_ ?hB _; case hB => (simp; try omega)) | with_reducible refine kAlloc ?_ _ | with_reducible refine Below.drew ?_ | with_reducible refine kDrewN ?_ _ | with_reducible refine kTrans ?_ (by assumption))⟩
  · obtain rfl : R = false := by rw [← hR]; simp; intro h2 h4; exact absurd ⟨h2, h4⟩ h1
    clear hR
    go_enter Tryd.func52, Tryd.ntmps52
    go_wp2_with fail
    refine (l00In_any a 1 b _ false (by simp; omega)).mono ?_
    rintro e w1 ⟨rfl, rfl⟩
    go_wp2
    go_ret
    exact ⟨rfl, by repeat (first | with_reducible exact Below.refl _ _ | (with_reducible refine kSet ?_ ?hB _; case hB => (simp; try omega)) | with_reducible refine kAlloc ?_ _ | with_reducible refine Below.drew ?_ | with_reducible refine kDrewN ?_ _ | with_reducible refine kTrans ?_ (by assumption))⟩
end Go.Proofs.YthngnbaoaeomeaaDoor
