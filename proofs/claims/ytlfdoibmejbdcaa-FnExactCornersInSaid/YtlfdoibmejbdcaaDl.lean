/- Pieces of lines: what is asked of them, the sum of their Delays, the corners. -/
import Derived.Test.YtlfdoibmejbdcaaPq
namespace Go.Proofs.Ytlfdoibmejbdcaa
open Go.ChangeShapes Go.WideShapes Go.ChangeAt Go.RowKit
set_option linter.unusedVariables false
set_option linter.unusedSimpArgs false

def allB (l : List Pc) : Bool := l.all Pc.ok
def givC (l : List Pc) : Int := if allB l = true then (if l.length ≤ 120 then 0 else 2) else 1
theorem givC_bad {l : List Pc} (h : allB l = false) : givC l = 1 := by unfold givC; rw [if_neg (by simp [h])]
theorem givC_long {l : List Pc} (h : allB l = true) (h2 : ¬ l.length ≤ 120) : givC l = 2 := by unfold givC; rw [if_pos h, if_neg h2]
theorem givC_good {l : List Pc} (h : allB l = true) (h2 : l.length ≤ 120) : givC l = 0 := by unfold givC; rw [if_pos h, if_pos h2]
theorem givC_zero {l : List Pc} (h : givC l = 0) : allB l = true ∧ l.length ≤ 120 := by
  unfold givC at h
  split at h
  · rename_i h1
    split at h
    · rename_i h2; exact ⟨h1, h2⟩
    · exact absurd h (by decide)
  · exact absurd h (by decide)
theorem givC_cases (l : List Pc) : givC l = 0 ∨ givC l = 1 ∨ givC l = 2 := by
  unfold givC
  split
  · split
    · exact .inl rfl
    · exact .inr (.inr rfl)
  · exact .inr (.inl rfl)
theorem allB_step {l : List Pc} {k : Nat} (h : k < l.length) : allB (l.drop k) = (l[k].ok && allB (l.drop (k + 1))) := by
  unfold allB
  rw [List.drop_eq_getElem_cons h, List.all_cons]
def sumD : List Pc → Int
  | [] => 0
  | p :: l => p.delay + sumD l
def sumK : List Pc → Int
  | [] => 0
  | p :: l => (if p.kind = 1 then 1 else 0) + sumK l
theorem sumD_bound : ∀ {l : List Pc}, allB l = true → 0 ≤ sumD l ∧ sumD l ≤ 9 * (l.length : Int)
  | [], _ => by simp [sumD]
  | p :: l, h => by
    have h1 : p.ok = true ∧ allB l = true := by simpa [allB] using h
    have h2 := of_decide_eq_true h1.1
    have := sumD_bound h1.2
    simp only [sumD, List.length_cons]
    omega
theorem sumK_bound : ∀ {l : List Pc}, 0 ≤ sumK l ∧ sumK l ≤ (l.length : Int)
  | [] => by simp [sumK]
  | p :: l => by
    have := @sumK_bound l
    simp only [sumK, List.length_cons]
    split <;> omega
theorem allB_drop {l : List Pc} (h : allB l = true) (k : Nat) : allB (l.drop k) = true := by
  unfold allB at h ⊢
  rw [List.all_eq_true] at h ⊢
  exact fun x hx => h x (List.mem_of_mem_drop hx)
def delayQ (l : List Pc) : Int × Int := if givC l = 0 then (sumD l, 0) else (0, givC l)
def cornerQ (l : List Pc) : Int × Int := if givC l = 0 then (sumK l, 0) else (0, givC l)
theorem pair_ints {a b c d : Int} (h : (a, b) = (c, d)) : a = c ∧ b = d := by injection h with h1 h2; exact ⟨h1, h2⟩
theorem drop_all {l : List Pc} {n : Nat} (h : l.length = n) : l.drop n = [] := List.drop_of_length_le (by omega)

set_option maxRecDepth 100000 in
set_option maxHeartbeats 4000000 in
theorem implGiven_any (b n : Nat) (l : List Pc) (w : World) (hn : l.length = n) (hp : PcsAt w b 0 l) (hb : b < w.heap.size) (h8 : All8 l) (hmax : n ≤ 1048576) (C : Int) (hC : givC l = C) :
    Calls Try.prog 65 #[.slice (some ⟨b, 0, none⟩) n n] w fun e w' => e = .returned (.int .i64 C) ∧ Below w.heap.size w w' := by
  obtain ⟨R, hR⟩ : ∃ R, allB l = R := ⟨_, rfl⟩
  have HR : Hid (allB (l.drop 0) = R) := Lib.hid hR
  have HRl := Lib.hid hR
  have Hn := Lib.hid hn
  have H8 := Lib.hid h8
  have HC := Lib.hid hC
  clear hR hn h8 hC
  go_enter Try.func65, Try.ntmps65
  go_wp2
  go_loopw [7] (fun i wr => ∃ k : Nat, k ≤ n ∧ i = .int .i64 k ∧ Hid (allB (l.drop k) = R) ∧ Below w.heap.size w wr) (fun i _ => n - (intOf i).toNat)
  case atStart => exact ⟨0, by omega, rfl, HR, Below.refl _ _⟩
  case round =>
    obtain ⟨k, hk, rfl, hf, hbr⟩ := hrel
    by_cases hlt : k < n
    · have hlk : k < l.length := by rw [Hn.out]; exact hlt
      have hpa := (hp.below hbr hb) k hlk
      have hp8 := H8.out _ (List.getElem_mem hlk)
      have hst := allB_step hlk
      have hq := hf.out
      rw [hst] at hq
      generalize l[k] = p at hpa hp8 hq
      have hbs : b < wr.heap.size := Nat.lt_of_lt_of_le hb hbr.size
      clear hst hf HR
      obtain ⟨r, hr⟩ : ∃ r, r = p.ok := ⟨_, rfl⟩
      rw [← hr] at hq
      have Hr := Lib.hid hr
      clear hr
      cases r with
      | true =>
        have hR2 : Hid (allB (l.drop (k + 1)) = R) := Lib.hid (by simpa using hq)
        clear hq
        obtain ⟨a0, a1, a2, a3, a4⟩ := hpa
        simp only [Nat.zero_add] at a0 a1 a2 a3 a4
        go_wp2_with fail
        refine (implValidPiece_any p _ hp8 true Hr.out).mono ?_
        rintro e w2 ⟨rfl, hb2⟩
        go_wp2
        exact ⟨⟨k + 1, by omega, by go_num, hR2, by repeat (first | with_reducible exact Below.refl _ _ | (with_reducible refine kSet ?_ ?hB _; case hB => (simp; try omega)) | with_reducible refine kAlloc ?_ _ | with_reducible refine Below.drew ?_ | with_reducible refine kDrewN ?_ _ | with_reducible refine kTrans ?_ (by assumption))⟩, by simp [intOf]; omega⟩
      | false =>
        obtain rfl : R = false := by simpa using hq.symm
        obtain rfl : C = 1 := by rw [← HC.out]; exact givC_bad HRl.out
        clear hq
        obtain ⟨a0, a1, a2, a3, a4⟩ := hpa
        simp only [Nat.zero_add] at a0 a1 a2 a3 a4
        go_wp2_with fail
        refine (implValidPiece_any p _ hp8 false Hr.out).mono ?_
        rintro e w2 ⟨rfl, hb2⟩
        go_wp2
        go_ret
        exact ⟨rfl, by repeat (first | with_reducible exact Below.refl _ _ | (with_reducible refine kSet ?_ ?hB _; case hB => (simp; try omega)) | with_reducible refine kAlloc ?_ _ | with_reducible refine Below.drew ?_ | with_reducible refine kDrewN ?_ _ | with_reducible refine kTrans ?_ (by assumption))⟩
    · obtain rfl : k = n := by omega
      obtain rfl : R = true := by rw [← hf.out, drop_all Hn.out]; rfl
      by_cases h2 : k ≤ 120
      · obtain rfl : C = 0 := by rw [← HC.out]; exact givC_good HRl.out (by rw [Hn.out]; exact h2)
        have e1 : decide ((120 : Int) < (k : Int)) = false := by simp; omega
        have e2 : decide (120 < k) = false := by simp; omega
        clear hf HR
        go_wp2
        go_ret
        exact ⟨rfl, hbr⟩
      · obtain rfl : C = 2 := by rw [← HC.out]; exact givC_long HRl.out (by rw [Hn.out]; exact h2)
        have e1 : decide ((120 : Int) < (k : Int)) = true := by simp; omega
        have e2 : decide (120 < k) = true := by simp; omega
        clear hf HR
        go_wp2
        go_ret
        exact ⟨rfl, hbr⟩

set_option maxRecDepth 100000 in
set_option maxHeartbeats 4000000 in
theorem specGiven_any (b n : Nat) (l : List Pc) (w : World) (hn : l.length = n) (hp : PcsAt w b 0 l) (hb : b < w.heap.size) (h8 : All8 l) (hmax : n ≤ 1048576) (C : Int) (hC : givC l = C) :
    Calls Try.prog 63 #[.slice (some ⟨b, 0, none⟩) n n] w fun e w' => e = .returned (.int .i64 C) ∧ Below w.heap.size w w' := by
  obtain ⟨R, hR⟩ : ∃ R, allB l = R := ⟨_, rfl⟩
  have HR : Hid (allB (l.drop 0) = R) := Lib.hid hR
  have HRl := Lib.hid hR
  have Hn := Lib.hid hn
  have H8 := Lib.hid h8
  have HC := Lib.hid hC
  clear hR hn h8 hC
  go_enter Try.func63, Try.ntmps63
  go_wp2
  go_loopw [3] (fun i wr => ∃ k : Nat, k ≤ n ∧ i = .int .i64 k ∧ Hid (allB (l.drop k) = R) ∧ Below w.heap.size w wr) (fun i _ => n - (intOf i).toNat)
  case atStart => exact ⟨0, by omega, rfl, HR, Below.refl _ _⟩
  case round =>
    obtain ⟨k, hk, rfl, hf, hbr⟩ := hrel
    by_cases hlt : k < n
    · have hlk : k < l.length := by rw [Hn.out]; exact hlt
      have hpa := (hp.below hbr hb) k hlk
      have hp8 := H8.out _ (List.getElem_mem hlk)
      have hst := allB_step hlk
      have hq := hf.out
      rw [hst] at hq
      generalize l[k] = p at hpa hp8 hq
      have hbs : b < wr.heap.size := Nat.lt_of_lt_of_le hb hbr.size
      clear hst hf HR
      obtain ⟨r, hr⟩ : ∃ r, r = p.ok := ⟨_, rfl⟩
      rw [← hr] at hq
      have Hr := Lib.hid hr
      clear hr
      cases r with
      | true =>
        have hR2 : Hid (allB (l.drop (k + 1)) = R) := Lib.hid (by simpa using hq)
        clear hq
        have HV := Lib.hid (l01Piece_any p b (0 + k * 5) wr hp8 hpa true Hr.out)
        simp only [Nat.zero_add] at HV
        clear hpa
        go_wp2_with fail
        refine HV.out.mono ?_
        rintro e w2 ⟨rfl, hb2⟩
        go_wp2
        exact ⟨⟨k + 1, by omega, by go_num, hR2, by repeat (first | with_reducible exact Below.refl _ _ | (with_reducible refine kSet ?_ ?hB _; case hB => (simp; try omega)) | with_reducible refine kAlloc ?_ _ | with_reducible refine Below.drew ?_ | with_reducible refine kDrewN ?_ _ | with_reducible refine kTrans ?_ (by assumption))⟩, by simp [intOf]; omega⟩
      | false =>
        obtain rfl : R = false := by simpa using hq.symm
        obtain rfl : C = 1 := by rw [← HC.out]; exact givC_bad HRl.out
        clear hq
        have HV := Lib.hid (l01Piece_any p b (0 + k * 5) wr hp8 hpa false Hr.out)
        simp only [Nat.zero_add] at HV
        clear hpa
        go_wp2_with fail
        refine HV.out.mono ?_
        rintro e w2 ⟨rfl, hb2⟩
        go_wp2
        go_ret
        exact ⟨rfl, by repeat (first | with_reducible exact Below.refl _ _ | (with_reducible refine kSet ?_ ?hB _; case hB => (simp; try omega)) | with_reducible refine kAlloc ?_ _ | with_reducible refine Below.drew ?_ | with_reducible refine kDrewN ?_ _ | with_reducible refine kTrans ?_ (by assumption))⟩
    · obtain rfl : k = n := by omega
      obtain rfl : R = true := by rw [← hf.out, drop_all Hn.out]; rfl
      by_cases h2 : k ≤ 120
      · obtain rfl : C = 0 := by rw [← HC.out]; exact givC_good HRl.out (by rw [Hn.out]; exact h2)
        have e1 : decide ((120 : Int) < (k : Int)) = false := by simp; omega
        have e2 : decide (120 < k) = false := by simp; omega
        clear hf HR
        go_wp2
        go_ret
        exact ⟨rfl, hbr⟩
      · obtain rfl : C = 2 := by rw [← HC.out]; exact givC_long HRl.out (by rw [Hn.out]; exact h2)
        have e1 : decide ((120 : Int) < (k : Int)) = true := by simp; omega
        have e2 : decide (120 < k) = true := by simp; omega
        clear hf HR
        go_wp2
        go_ret
        exact ⟨rfl, hbr⟩

set_option maxRecDepth 100000 in
set_option maxHeartbeats 4000000 in
theorem implDelayOfLine_any (b n : Nat) (l : List Pc) (w : World) (hn : l.length = n) (hp : PcsAt w b 0 l) (hb : b < w.heap.size) (h8 : All8 l) (hmax : n ≤ 1048576) (E C : Int) (hQ : delayQ l = (E, C)) :
    Calls Try.prog 36 #[.slice (some ⟨b, 0, none⟩) n n] w fun e w' => e = .returned (.tuple #[.int .i64 E, .int .i64 C]) ∧ Below w.heap.size w w' := by
  have HG := Lib.hid (implGiven_any b n l w hn hp hb h8 hmax _ rfl)
  rcases givC_cases l with hC | hC | hC
  · obtain ⟨hE, rfl⟩ := pair_ints (hQ.symm.trans (by unfold delayQ; rw [if_pos hC]) : (E, C) = (sumD l, 0))
    obtain ⟨hR, hlen⟩ := givC_zero hC
    rw [hC] at HG
    have HRl := Lib.hid hR
    have Hn := Lib.hid hn
    have HE : Hid (0 + sumD (l.drop 0) = E) := Lib.hid (by rw [hE, Int.zero_add]; rfl)
    have n120 : n ≤ 120 := by omega
    clear hC hR hn hE hQ hlen h8
    go_enter Try.func36, Try.ntmps36
    go_wp2_with fail
    refine HG.out.mono ?_
    rintro e w1 ⟨rfl, hb1⟩
    clear HG
    go_wp2
    go_loopw [5, 15] (fun s i wr => ∃ (k : Nat) (S : Int), k ≤ n ∧ i = .int .i64 k ∧ s = .int .i64 S ∧ Hid (S + sumD (l.drop k) = E) ∧ (0 ≤ S ∧ S ≤ 9 * (k : Int)) ∧ Below w.heap.size w wr) (fun _ i _ => n - (intOf i).toNat)
    case atStart => exact ⟨0, 0, by omega, rfl, rfl, HE, by omega, hb1⟩
    case round =>
    clear HE hb1
    obtain ⟨k, S, hk, rfl, rfl, hf, hS, hbr⟩ := hrel
    by_cases hlt : k < n
    · have hlk : k < l.length := by rw [Hn.out]; exact hlt
      have hpa := (hp.below hbr hb) k hlk
      have hq := hf.out
      rw [List.drop_eq_getElem_cons hlk] at hq
      simp only [sumD] at hq
      have hpk : l[k].ok = true := List.all_eq_true.1 HRl.out _ (List.getElem_mem hlk)
      generalize l[k] = p at hpa hq hpk
      obtain ⟨a0, a1, a2, a3, a4⟩ := hpa
      simp only [Nat.zero_add] at a0 a1 a2 a3 a4
      have hbs : b < wr.heap.size := Nat.lt_of_lt_of_le hb hbr.size
      clear hf hp
      have hok := of_decide_eq_true hpk
      have hs2 : Hid (S + p.delay + sumD (l.drop (k + 1)) = E) := Lib.hid (by rw [← hq]; omega)
      have ew : IntKind.i64.wrap (S + p.delay) = S + p.delay := IntWalk.i64_in _ (by omega)
      have ed : IntKind.i64.wrap p.delay = p.delay := IntWalk.i64_in _ (by omega)
      clear hq hpk
      go_wp2
      exact ⟨⟨k + 1, S + p.delay, by omega, by go_num, rfl, hs2, by omega, by repeat (first | with_reducible exact Below.refl _ _ | (with_reducible refine kSet ?_ ?hB _; case hB => (simp; try omega)) | with_reducible refine kAlloc ?_ _ | with_reducible refine Below.drew ?_ | with_reducible refine kDrewN ?_ _ | with_reducible refine kTrans ?_ (by assumption))⟩, by simp [intOf]; omega⟩
    · obtain rfl : k = n := by omega
      obtain rfl : S = E := by rw [← hf.out, drop_all Hn.out]; simp [sumD]
      clear hf
      go_wp2
      exact bodyPost_ret (v := .tuple #[.int .i64 S, .int .i64 0]) (by simp [results, Try.results36, go_sem]) rfl ⟨rfl, hbr⟩
  · obtain ⟨rfl, rfl⟩ := pair_ints (hQ.symm.trans (by unfold delayQ; rw [if_neg (by rw [hC]; decide), hC]) : (E, C) = (0, 1))
    rw [hC] at HG
    clear hC hQ h8 hp
    go_enter Try.func36, Try.ntmps36
    go_wp2_with fail
    refine HG.out.mono ?_
    rintro e w1 ⟨rfl, hb1⟩
    go_wp2
    exact bodyPost_ret (v := .tuple #[.int .i64 0, .int .i64 1]) (by simp [results, Try.results36, go_sem]) rfl ⟨rfl, hb1⟩
  · obtain ⟨rfl, rfl⟩ := pair_ints (hQ.symm.trans (by unfold delayQ; rw [if_neg (by rw [hC]; decide), hC]) : (E, C) = (0, 2))
    rw [hC] at HG
    clear hC hQ h8 hp
    go_enter Try.func36, Try.ntmps36
    go_wp2_with fail
    refine HG.out.mono ?_
    rintro e w1 ⟨rfl, hb1⟩
    go_wp2
    exact bodyPost_ret (v := .tuple #[.int .i64 0, .int .i64 2]) (by simp [results, Try.results36, go_sem]) rfl ⟨rfl, hb1⟩

set_option maxRecDepth 100000 in
set_option maxHeartbeats 4000000 in
theorem specDelayOfLine_any (b n : Nat) (l : List Pc) (w : World) (hn : l.length = n) (hp : PcsAt w b 0 l) (hb : b < w.heap.size) (h8 : All8 l) (hmax : n ≤ 1048576) (E C : Int) (hQ : delayQ l = (E, C)) :
    Calls Try.prog 34 #[.slice (some ⟨b, 0, none⟩) n n] w fun e w' => e = .returned (.tuple #[.int .i64 E, .int .i64 C]) ∧ Below w.heap.size w w' := by
  have HG := Lib.hid (specGiven_any b n l w hn hp hb h8 hmax _ rfl)
  rcases givC_cases l with hC | hC | hC
  · obtain ⟨hE, rfl⟩ := pair_ints (hQ.symm.trans (by unfold delayQ; rw [if_pos hC]) : (E, C) = (sumD l, 0))
    obtain ⟨hR, hlen⟩ := givC_zero hC
    rw [hC] at HG
    have HRl := Lib.hid hR
    have Hn := Lib.hid hn
    have HE : Hid (0 + sumD (l.drop 0) = E) := Lib.hid (by rw [hE, Int.zero_add]; rfl)
    have n120 : n ≤ 120 := by omega
    clear hC hR hn hE hQ hlen h8
    go_enter Try.func34, Try.ntmps34
    go_wp2_with fail
    refine HG.out.mono ?_
    rintro e w1 ⟨rfl, hb1⟩
    clear HG
    go_wp2
    go_loopw [5, 6] (fun s i wr => ∃ (k : Nat) (S : Int), k ≤ n ∧ i = .int .i64 k ∧ s = .int .i64 S ∧ Hid (S + sumD (l.drop k) = E) ∧ (0 ≤ S ∧ S ≤ 9 * (k : Int)) ∧ Below w.heap.size w wr) (fun _ i _ => n - (intOf i).toNat)
    case atStart => exact ⟨0, 0, by omega, rfl, rfl, HE, by omega, hb1⟩
    case round =>
    clear HE hb1
    obtain ⟨k, S, hk, rfl, rfl, hf, hS, hbr⟩ := hrel
    by_cases hlt : k < n
    · have hlk : k < l.length := by rw [Hn.out]; exact hlt
      have hpa := (hp.below hbr hb) k hlk
      have hq := hf.out
      rw [List.drop_eq_getElem_cons hlk] at hq
      simp only [sumD] at hq
      have hpk : l[k].ok = true := List.all_eq_true.1 HRl.out _ (List.getElem_mem hlk)
      generalize l[k] = p at hpa hq hpk
      obtain ⟨a0, a1, a2, a3, a4⟩ := hpa
      simp only [Nat.zero_add] at a0 a1 a2 a3 a4
      have hbs : b < wr.heap.size := Nat.lt_of_lt_of_le hb hbr.size
      clear hf hp
      have hok := of_decide_eq_true hpk
      have hs2 : Hid (S + p.delay + sumD (l.drop (k + 1)) = E) := Lib.hid (by rw [← hq]; omega)
      have ew : IntKind.i64.wrap (S + p.delay) = S + p.delay := IntWalk.i64_in _ (by omega)
      have ed : IntKind.i64.wrap p.delay = p.delay := IntWalk.i64_in _ (by omega)
      clear hq hpk
      go_wp2
      exact ⟨⟨k + 1, S + p.delay, by omega, by go_num, rfl, hs2, by omega, by repeat (first | with_reducible exact Below.refl _ _ | (with_reducible refine kSet ?_ ?hB _; case hB => (simp; try omega)) | with_reducible refine kAlloc ?_ _ | with_reducible refine Below.drew ?_ | with_reducible refine kDrewN ?_ _ | with_reducible refine kTrans ?_ (by assumption))⟩, by simp [intOf]; omega⟩
    · obtain rfl : k = n := by omega
      obtain rfl : S = E := by rw [← hf.out, drop_all Hn.out]; simp [sumD]
      clear hf
      go_wp2
      exact bodyPost_ret (v := .tuple #[.int .i64 S, .int .i64 0]) (by simp [results, Try.results34, go_sem]) rfl ⟨rfl, hbr⟩
  · obtain ⟨rfl, rfl⟩ := pair_ints (hQ.symm.trans (by unfold delayQ; rw [if_neg (by rw [hC]; decide), hC]) : (E, C) = (0, 1))
    rw [hC] at HG
    clear hC hQ h8 hp
    go_enter Try.func34, Try.ntmps34
    go_wp2_with fail
    refine HG.out.mono ?_
    rintro e w1 ⟨rfl, hb1⟩
    go_wp2
    exact bodyPost_ret (v := .tuple #[.int .i64 0, .int .i64 1]) (by simp [results, Try.results34, go_sem]) rfl ⟨rfl, hb1⟩
  · obtain ⟨rfl, rfl⟩ := pair_ints (hQ.symm.trans (by unfold delayQ; rw [if_neg (by rw [hC]; decide), hC]) : (E, C) = (0, 2))
    rw [hC] at HG
    clear hC hQ h8 hp
    go_enter Try.func34, Try.ntmps34
    go_wp2_with fail
    refine HG.out.mono ?_
    rintro e w1 ⟨rfl, hb1⟩
    go_wp2
    exact bodyPost_ret (v := .tuple #[.int .i64 0, .int .i64 2]) (by simp [results, Try.results34, go_sem]) rfl ⟨rfl, hb1⟩

set_option maxRecDepth 100000 in
set_option maxHeartbeats 4000000 in
theorem implCornersIn_any (b n : Nat) (l : List Pc) (w : World) (hn : l.length = n) (hp : PcsAt w b 0 l) (hb : b < w.heap.size) (h8 : All8 l) (hmax : n ≤ 1048576) (E C : Int) (hQ : cornerQ l = (E, C)) :
    Calls Try.prog 39 #[.slice (some ⟨b, 0, none⟩) n n] w fun e w' => e = .returned (.tuple #[.int .i64 E, .int .i64 C]) ∧ Below w.heap.size w w' := by
  have HG := Lib.hid (implGiven_any b n l w hn hp hb h8 hmax _ rfl)
  rcases givC_cases l with hC | hC | hC
  · obtain ⟨hE, rfl⟩ := pair_ints (hQ.symm.trans (by unfold cornerQ; rw [if_pos hC]) : (E, C) = (sumK l, 0))
    obtain ⟨hR, hlen⟩ := givC_zero hC
    rw [hC] at HG
    have HRl := Lib.hid hR
    have Hn := Lib.hid hn
    have HE : Hid (0 + sumK (l.drop 0) = E) := Lib.hid (by rw [hE, Int.zero_add]; rfl)
    have n120 : n ≤ 120 := by omega
    clear hC hR hn hE hQ hlen h8
    go_enter Try.func39, Try.ntmps39
    go_wp2_with fail
    refine HG.out.mono ?_
    rintro e w1 ⟨rfl, hb1⟩
    clear HG
    go_wp2
    go_loopw [5, 15] (fun s i wr => ∃ (k : Nat) (S : Int), k ≤ n ∧ i = .int .i64 k ∧ s = .int .i64 S ∧ Hid (S + sumK (l.drop k) = E) ∧ (0 ≤ S ∧ S ≤ 9 * (k : Int)) ∧ Below w.heap.size w wr) (fun _ i _ => n - (intOf i).toNat)
    case atStart => exact ⟨0, 0, by omega, rfl, rfl, HE, by omega, hb1⟩
    case round =>
    clear HE hb1
    obtain ⟨k, S, hk, rfl, rfl, hf, hS, hbr⟩ := hrel
    by_cases hlt : k < n
    · have hlk : k < l.length := by rw [Hn.out]; exact hlt
      have hpa := (hp.below hbr hb) k hlk
      have hq := hf.out
      rw [List.drop_eq_getElem_cons hlk] at hq
      simp only [sumK] at hq
      have hpk : l[k].ok = true := List.all_eq_true.1 HRl.out _ (List.getElem_mem hlk)
      generalize l[k] = p at hpa hq hpk
      obtain ⟨a0, a1, a2, a3, a4⟩ := hpa
      simp only [Nat.zero_add] at a0 a1 a2 a3 a4
      have hbs : b < wr.heap.size := Nat.lt_of_lt_of_le hb hbr.size
      clear hf hp
      by_cases hkd : p.kind = 1
      · have hs2 : Hid (S + 1 + sumK (l.drop (k + 1)) = E) := Lib.hid (by rw [← hq, if_pos hkd]; omega)
        have ek : (p.kind == 1) = true := by simpa using hkd
        have ew : IntKind.i64.wrap (S + 1) = S + 1 := IntWalk.i64_in _ (by omega)
        clear hq hkd
        go_wp2
        exact ⟨⟨k + 1, S + 1, by omega, by go_num, rfl, hs2, by omega, by repeat (first | with_reducible exact Below.refl _ _ | (with_reducible refine kSet ?_ ?hB _; case hB => (simp; try omega)) | with_reducible refine kAlloc ?_ _ | with_reducible refine Below.drew ?_ | with_reducible refine kDrewN ?_ _ | with_reducible refine kTrans ?_ (by assumption))⟩, by simp [intOf]; omega⟩
      · have hs2 : Hid (S + sumK (l.drop (k + 1)) = E) := Lib.hid (by rw [← hq, if_neg hkd]; omega)
        have ek : (p.kind == 1) = false := by simpa using hkd
        clear hq hkd
        go_wp2
        exact ⟨⟨k + 1, S, by omega, by go_num, rfl, hs2, by omega, by repeat (first | with_reducible exact Below.refl _ _ | (with_reducible refine kSet ?_ ?hB _; case hB => (simp; try omega)) | with_reducible refine kAlloc ?_ _ | with_reducible refine Below.drew ?_ | with_reducible refine kDrewN ?_ _ | with_reducible refine kTrans ?_ (by assumption))⟩, by simp [intOf]; omega⟩
    · obtain rfl : k = n := by omega
      obtain rfl : S = E := by rw [← hf.out, drop_all Hn.out]; simp [sumK]
      clear hf
      go_wp2
      exact bodyPost_ret (v := .tuple #[.int .i64 S, .int .i64 0]) (by simp [results, Try.results39, go_sem]) rfl ⟨rfl, hbr⟩
  · obtain ⟨rfl, rfl⟩ := pair_ints (hQ.symm.trans (by unfold cornerQ; rw [if_neg (by rw [hC]; decide), hC]) : (E, C) = (0, 1))
    rw [hC] at HG
    clear hC hQ h8 hp
    go_enter Try.func39, Try.ntmps39
    go_wp2_with fail
    refine HG.out.mono ?_
    rintro e w1 ⟨rfl, hb1⟩
    go_wp2
    exact bodyPost_ret (v := .tuple #[.int .i64 0, .int .i64 1]) (by simp [results, Try.results39, go_sem]) rfl ⟨rfl, hb1⟩
  · obtain ⟨rfl, rfl⟩ := pair_ints (hQ.symm.trans (by unfold cornerQ; rw [if_neg (by rw [hC]; decide), hC]) : (E, C) = (0, 2))
    rw [hC] at HG
    clear hC hQ h8 hp
    go_enter Try.func39, Try.ntmps39
    go_wp2_with fail
    refine HG.out.mono ?_
    rintro e w1 ⟨rfl, hb1⟩
    go_wp2
    exact bodyPost_ret (v := .tuple #[.int .i64 0, .int .i64 2]) (by simp [results, Try.results39, go_sem]) rfl ⟨rfl, hb1⟩

set_option maxRecDepth 100000 in
set_option maxHeartbeats 4000000 in
theorem specCornersIn_any (b n : Nat) (l : List Pc) (w : World) (hn : l.length = n) (hp : PcsAt w b 0 l) (hb : b < w.heap.size) (h8 : All8 l) (hmax : n ≤ 1048576) (E C : Int) (hQ : cornerQ l = (E, C)) :
    Calls Try.prog 38 #[.slice (some ⟨b, 0, none⟩) n n] w fun e w' => e = .returned (.tuple #[.int .i64 E, .int .i64 C]) ∧ Below w.heap.size w w' := by
  have HG := Lib.hid (specGiven_any b n l w hn hp hb h8 hmax _ rfl)
  rcases givC_cases l with hC | hC | hC
  · obtain ⟨hE, rfl⟩ := pair_ints (hQ.symm.trans (by unfold cornerQ; rw [if_pos hC]) : (E, C) = (sumK l, 0))
    obtain ⟨hR, hlen⟩ := givC_zero hC
    rw [hC] at HG
    have HRl := Lib.hid hR
    have Hn := Lib.hid hn
    have HE : Hid (0 + sumK (l.drop 0) = E) := Lib.hid (by rw [hE, Int.zero_add]; rfl)
    have n120 : n ≤ 120 := by omega
    clear hC hR hn hE hQ hlen h8
    go_enter Try.func38, Try.ntmps38
    go_wp2_with fail
    refine HG.out.mono ?_
    rintro e w1 ⟨rfl, hb1⟩
    clear HG
    go_wp2
    go_loopw [5, 6] (fun s i wr => ∃ (k : Nat) (S : Int), k ≤ n ∧ i = .int .i64 k ∧ s = .int .i64 S ∧ Hid (S + sumK (l.drop k) = E) ∧ (0 ≤ S ∧ S ≤ 9 * (k : Int)) ∧ Below w.heap.size w wr) (fun _ i _ => n - (intOf i).toNat)
    case atStart => exact ⟨0, 0, by omega, rfl, rfl, HE, by omega, hb1⟩
    case round =>
    clear HE hb1
    obtain ⟨k, S, hk, rfl, rfl, hf, hS, hbr⟩ := hrel
    by_cases hlt : k < n
    · have hlk : k < l.length := by rw [Hn.out]; exact hlt
      have hpa := (hp.below hbr hb) k hlk
      have hq := hf.out
      rw [List.drop_eq_getElem_cons hlk] at hq
      simp only [sumK] at hq
      have hpk : l[k].ok = true := List.all_eq_true.1 HRl.out _ (List.getElem_mem hlk)
      generalize l[k] = p at hpa hq hpk
      obtain ⟨a0, a1, a2, a3, a4⟩ := hpa
      simp only [Nat.zero_add] at a0 a1 a2 a3 a4
      have hbs : b < wr.heap.size := Nat.lt_of_lt_of_le hb hbr.size
      clear hf hp
      by_cases hkd : p.kind = 1
      · have hs2 : Hid (S + 1 + sumK (l.drop (k + 1)) = E) := Lib.hid (by rw [← hq, if_pos hkd]; omega)
        have ek : (p.kind == 1) = true := by simpa using hkd
        have ew : IntKind.i64.wrap (S + 1) = S + 1 := IntWalk.i64_in _ (by omega)
        clear hq hkd
        go_wp2
        exact ⟨⟨k + 1, S + 1, by omega, by go_num, rfl, hs2, by omega, by repeat (first | with_reducible exact Below.refl _ _ | (with_reducible refine kSet ?_ ?hB _; case hB => (simp; try omega)) | with_reducible refine kAlloc ?_ _ | with_reducible refine Below.drew ?_ | with_reducible refine kDrewN ?_ _ | with_reducible refine kTrans ?_ (by assumption))⟩, by simp [intOf]; omega⟩
      · have hs2 : Hid (S + sumK (l.drop (k + 1)) = E) := Lib.hid (by rw [← hq, if_neg hkd]; omega)
        have ek : (p.kind == 1) = false := by simpa using hkd
        clear hq hkd
        go_wp2
        exact ⟨⟨k + 1, S, by omega, by go_num, rfl, hs2, by omega, by repeat (first | with_reducible exact Below.refl _ _ | (with_reducible refine kSet ?_ ?hB _; case hB => (simp; try omega)) | with_reducible refine kAlloc ?_ _ | with_reducible refine Below.drew ?_ | with_reducible refine kDrewN ?_ _ | with_reducible refine kTrans ?_ (by assumption))⟩, by simp [intOf]; omega⟩
    · obtain rfl : k = n := by omega
      obtain rfl : S = E := by rw [← hf.out, drop_all Hn.out]; simp [sumK]
      clear hf
      go_wp2
      exact bodyPost_ret (v := .tuple #[.int .i64 S, .int .i64 0]) (by simp [results, Try.results38, go_sem]) rfl ⟨rfl, hbr⟩
  · obtain ⟨rfl, rfl⟩ := pair_ints (hQ.symm.trans (by unfold cornerQ; rw [if_neg (by rw [hC]; decide), hC]) : (E, C) = (0, 1))
    rw [hC] at HG
    clear hC hQ h8 hp
    go_enter Try.func38, Try.ntmps38
    go_wp2_with fail
    refine HG.out.mono ?_
    rintro e w1 ⟨rfl, hb1⟩
    go_wp2
    exact bodyPost_ret (v := .tuple #[.int .i64 0, .int .i64 1]) (by simp [results, Try.results38, go_sem]) rfl ⟨rfl, hb1⟩
  · obtain ⟨rfl, rfl⟩ := pair_ints (hQ.symm.trans (by unfold cornerQ; rw [if_neg (by rw [hC]; decide), hC]) : (E, C) = (0, 2))
    rw [hC] at HG
    clear hC hQ h8 hp
    go_enter Try.func38, Try.ntmps38
    go_wp2_with fail
    refine HG.out.mono ?_
    rintro e w1 ⟨rfl, hb1⟩
    go_wp2
    exact bodyPost_ret (v := .tuple #[.int .i64 0, .int .i64 2]) (by simp [results, Try.results38, go_sem]) rfl ⟨rfl, hb1⟩
end Go.Proofs.Ytlfdoibmejbdcaa
