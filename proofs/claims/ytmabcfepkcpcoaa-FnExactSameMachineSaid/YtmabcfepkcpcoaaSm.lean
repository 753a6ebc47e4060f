/- SameBoard: the program and the model. -/
import Derived.Test.YtmabcfepkcpcoaaG2
import Derived.Test.YtmabcfepkcpcoaaEqPc
namespace Go.Proofs.Ytmabcfepkcpcoaa
open Go.ChangeShapes Go.WideShapes Go.ChangeAt Go.RowKit
set_option linter.unusedVariables false

def sameB (w1 h1 : Int) (l1 : List Pc) (w2 h2 : Int) (l2 : List Pc) : Bool := decide (w1 = w2 ∧ h1 = h2 ∧ l1 = l2)

set_option maxRecDepth 100000 in
set_option maxHeartbeats 4000000 in
theorem l01Same_any (p1 p2 b1 b2 n1 n2 : Nat) (wd1 hi1 wd2 hi2 : Int) (l1 l2 : List Pc) (w : World) (hn1 : l1.length = n1) (hn2 : l2.length = n2) (q1 : BdAt w p1 0 wd1 hi1 (.slice (some ⟨b1, 0, none⟩) n1 n1)) (q2 : BdAt w p2 0 wd2 hi2 (.slice (some ⟨b2, 0, none⟩) n2 n2))
    (h1 : PcsAt w b1 0 l1) (h2 : PcsAt w b2 0 l2) (hb1 : b1 < w.heap.size) (hb2 : b2 < w.heap.size) (hm1 : n1 ≤ 1048576) (hm2 : n2 ≤ 1048576) (R : Bool) (hR : sameB wd1 hi1 l1 wd2 hi2 l2 = R) :
    Calls Try.prog 33 #[.pointer (some ⟨p1, 0, none⟩), .pointer (some ⟨p2, 0, none⟩)] w fun e w' => e = .returned (.bool R) ∧ Below w.heap.size w w' := by
  have hp1 := q1.lt
  have hp2 := q2.lt
  have Q1 := Lib.hid q1
  have Q2 := Lib.hid q2
  obtain ⟨a0, a1, a2⟩ := q1
  obtain ⟨d0, d1, d2⟩ := q2
  simp only [Nat.zero_add] at a1 a2 d1 d2
  by_cases e1 : wd1 = wd2
  · subst e1
    by_cases e2 : hi1 = hi2
    · subst e2
      by_cases e3 : n1 = n2
      · subst e3
        have Hn1 := Lib.hid hn1
        have Hn2 := Lib.hid hn2
        have HR : Hid (decide (l1.drop 0 = l2.drop 0) = R) := Lib.hid (by rw [← hR]; simp [sameB])
        clear hn1 hn2 hR
        go_enter Try.func33, Try.ntmps33
        go_wp2
        go_quiet (fail)
        go_wp2
        go_loopw [5] (fun i wr => ∃ k : Nat, k ≤ n1 ∧ i = .int .i64 k ∧ Hid (decide (l1.drop k = l2.drop k) = R) ∧ Below w.heap.size w wr) (fun i _ => n1 - (intOf i).toNat)
        case atStart => exact ⟨0, by omega, rfl, HR, by repeat (first | with_reducible exact Below.refl _ _ | (with_reducible refine kSet ?_ ?hB _; case hB => (simp; try omega)) | with_reducible refine kAlloc ?_ _ | with_reducible refine Below.drew ?_ | with_reducible refine kDrewN ?_ _ | with_reducible refine kTrans ?_ (by assumption))⟩
        case round =>
          obtain ⟨k, hk, rfl, hf, hbr⟩ := hrel
          clear a0 a1 a2 d0 d1 d2
          obtain ⟨a0, a1, a2⟩ := Q1.out.below hbr hp1
          obtain ⟨d0, d1, d2⟩ := Q2.out.below hbr hp2
          simp only [Nat.zero_add] at a1 a2 d1 d2
          by_cases hlt : k < n1
          · have hlk1 : k < l1.length := by rw [Hn1.out]; exact hlt
            have hlk2 : k < l2.length := by rw [Hn2.out]; exact hlt
            have hpa := (h1.below hbr hb1) k hlk1
            have hpb := (h2.below hbr hb2) k hlk2
            have hd1 : l1.drop k = l1[k] :: l1.drop (k + 1) := List.drop_eq_getElem_cons hlk1
            have hd2 : l2.drop k = l2[k] :: l2.drop (k + 1) := List.drop_eq_getElem_cons hlk2
            generalize l1[k] = p at hpa hd1
            generalize l2[k] = q at hpb hd2
            have hq := hf.out
            rw [hd1, hd2] at hq
            have he := Pc_eq p q
            have hgm : Try.prog.eqGuardType Try.prog.depth 110 = false := by kernel_rfl
            obtain ⟨x0, x1, x2, x3, x4⟩ := hpa
            obtain ⟨y0, y1, y2, y3, y4⟩ := hpb
            simp only [Nat.zero_add] at x0 x1 x2 x3 x4 y0 y1 y2 y3 y4
            by_cases hpq : p = q
            · have hR : Hid (decide (l1.drop (k + 1) = l2.drop (k + 1)) = R) := Lib.hid (by rw [← hq]; simp [hpq])
              rw [show decide (p = q) = true by simpa using hpq] at he
              clear h1 h2 hf hd1 hd2 hq HR hpq
              go_wp2
              go_quiet (fail)
              go_wp2
              exact ⟨⟨k + 1, by omega, by go_num, hR, kDrewN hbr _⟩, by simp [intOf]; omega⟩
            · obtain rfl : R = false := by rw [← hq]; simp [hpq]
              rw [show decide (p = q) = false by simpa using hpq] at he
              clear h1 h2 hf hd1 hd2 hq HR hpq
              go_wp2
              go_quiet (fail)
              go_wp2
              go_ret
              exact ⟨rfl, kDrewN hbr _⟩
          · obtain rfl : R = true := by rw [← hf.out, List.drop_of_length_le (by rw [Hn1.out]; omega), List.drop_of_length_le (by rw [Hn2.out]; omega)]; simp
            clear h1 h2 hf HR
            go_wp2
            go_ret
            exact ⟨rfl, hbr⟩
      · obtain rfl : R = false := by rw [← hR]; simp [sameB]; intro e; apply e3; rw [← hn1, ← hn2, e]
        have g3 : decide (n1 = n2) = false := by simpa using e3
        have g3' : ((n1 : Int) == (n2 : Int)) = false := by simp; omega
        have g3'' : ((n1 : Int) != (n2 : Int)) = true := by simp; omega
        clear hn1 hn2 hR h1 h2 e3
        go_enter Try.func33, Try.ntmps33
        go_wp2
        go_quiet (fail)
        go_wp2
        go_ret
        exact ⟨rfl, by repeat (first | with_reducible exact Below.refl _ _ | (with_reducible refine kSet ?_ ?hB _; case hB => (simp; try omega)) | with_reducible refine kAlloc ?_ _ | with_reducible refine Below.drew ?_ | with_reducible refine kDrewN ?_ _ | with_reducible refine kTrans ?_ (by assumption))⟩
    · obtain rfl : R = false := by rw [← hR]; simp [sameB, e2]
      have g3 : decide (hi1 = hi2) = false := by simpa using e2
      have g3' : (hi1 == hi2) = false := by simpa using e2
      have g3'' : (hi1 != hi2) = true := by simpa using e2
      clear hn1 hn2 hR h1 h2 e2
      go_enter Try.func33, Try.ntmps33
      go_wp2
      go_quiet (fail)
      go_wp2
      go_ret
      exact ⟨rfl, by repeat (first | with_reducible exact Below.refl _ _ | (with_reducible refine kSet ?_ ?hB _; case hB => (simp; try omega)) | with_reducible refine kAlloc ?_ _ | with_reducible refine Below.drew ?_ | with_reducible refine kDrewN ?_ _ | with_reducible refine kTrans ?_ (by assumption))⟩
  · obtain rfl : R = false := by rw [← hR]; simp [sameB, e1]
    have g3 : decide (wd1 = wd2) = false := by simpa using e1
    have g3' : (wd1 == wd2) = false := by simpa using e1
    have g3'' : (wd1 != wd2) = true := by simpa using e1
    clear hn1 hn2 hR h1 h2 e1
    go_enter Try.func33, Try.ntmps33
    go_wp2
    go_quiet (fail)
    go_wp2
    go_ret
    exact ⟨rfl, by repeat (first | with_reducible exact Below.refl _ _ | (with_reducible refine kSet ?_ ?hB _; case hB => (simp; try omega)) | with_reducible refine kAlloc ?_ _ | with_reducible refine Below.drew ?_ | with_reducible refine kDrewN ?_ _ | with_reducible refine kTrans ?_ (by assumption))⟩
set_option maxHeartbeats 1000000 in
theorem implSameBoard_any (b1 b2 : Nat) (wd1 hi1 wd2 hi2 : Int) (l1 l2 : List Pc) (w : World) (h1 : PcsAt w b1 0 l1) (h2 : PcsAt w b2 0 l2) (hb1 : b1 < w.heap.size) (hb2 : b2 < w.heap.size) (hm1 : l1.length ≤ 1048576) (hm2 : l2.length ≤ 1048576) (R : Bool) (hR : sameB wd1 hi1 l1 wd2 hi2 l2 = R) :
    Calls Try.prog 34 #[.agg #[.int .i8 wd1, .int .i8 hi1, .slice (some ⟨b1, 0, none⟩) l1.length l1.length], .agg #[.int .i8 wd2, .int .i8 hi2, .slice (some ⟨b2, 0, none⟩) l2.length l2.length]] w fun e w' => e = .returned (.bool R) ∧ Below w.heap.size w w' := by
  have HE : Hid (∀ w2, Below w.heap.size w w2 → ∀ R, decide (l1 = l2) = R → Calls Try.prog 60 #[.slice (some ⟨b1, 0, none⟩) l1.length l1.length, .slice (some ⟨b2, 0, none⟩) l2.length l2.length] w2 fun e w' => e = .returned (.bool R) ∧ Below w2.heap.size w2 w') :=
    Lib.hid (fun w2 hb R hR => PiecesEqual_any _ _ l1 l2 w2 (.mk b1 0 _ (h1.below hb hb1) (Nat.lt_of_lt_of_le hb1 hb.size) (Nat.le_refl _)) (.mk b2 0 _ (h2.below hb hb2) (Nat.lt_of_lt_of_le hb2 hb.size) (Nat.le_refl _)) hm1 hm2 R hR)
  have HR := Lib.hid hR
  clear h1 h2 hR
  by_cases e1 : wd1 = wd2
  · subst e1
    by_cases e2 : hi1 = hi2
    · subst e2
      go_enter Try.func34, Try.ntmps34
      go_wp2_with fail
      refine (HE.out _ (by repeat (first | with_reducible exact Below.refl _ _ | (with_reducible refine kSet ?_ ?hB _; case hB => (simp; try omega)) | with_reducible refine kAlloc ?_ _ | with_reducible refine Below.drew ?_ | with_reducible refine kDrewN ?_ _ | with_reducible refine kTrans ?_ (by assumption))) R (by rw [← HR.out]; simp [sameB])).mono ?_
      rintro e w1 ⟨rfl, hb⟩
      go_wp2
      go_ret
      exact ⟨rfl, by repeat (first | with_reducible exact Below.refl _ _ | (with_reducible refine kSet ?_ ?hB _; case hB => (simp; try omega)) | with_reducible refine kAlloc ?_ _ | with_reducible refine Below.drew ?_ | with_reducible refine kDrewN ?_ _ | with_reducible refine kTrans ?_ (by assumption))⟩
    · obtain rfl : R = false := by rw [← HR.out]; simp [sameB, e2]
      have g3 : decide (hi1 = hi2) = false := by simpa using e2
      have g3' : (hi1 == hi2) = false := by simpa using e2
      clear HR HE e2
      go_enter Try.func34, Try.ntmps34
      go_wp2
      go_ret
      exact ⟨rfl, by repeat (first | with_reducible exact Below.refl _ _ | (with_reducible refine kSet ?_ ?hB _; case hB => (simp; try omega)) | with_reducible refine kAlloc ?_ _ | with_reducible refine Below.drew ?_ | with_reducible refine kDrewN ?_ _ | with_reducible refine kTrans ?_ (by assumption))⟩
  · obtain rfl : R = false := by rw [← HR.out]; simp [sameB, e1]
    have g3 : decide (wd1 = wd2) = false := by simpa using e1
    have g3' : (wd1 == wd2) = false := by simpa using e1
    clear HR HE e1
    go_enter Try.func34, Try.ntmps34
    go_wp2
    go_ret
    exact ⟨rfl, by repeat (first | with_reducible exact Below.refl _ _ | (with_reducible refine kSet ?_ ?hB _; case hB => (simp; try omega)) | with_reducible refine kAlloc ?_ _ | with_reducible refine Below.drew ?_ | with_reducible refine kDrewN ?_ _ | with_reducible refine kTrans ?_ (by assumption))⟩
end Go.Proofs.Ytmabcfepkcpcoaa
