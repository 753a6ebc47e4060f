/- Reading texts: the model's numbers and words, the program's words. -/
import Derived.Test.YthngnbaoaeomeaaDoorRd2
import Derived.Test.YthngnbaoaeomeaaDoorW4
namespace Go.Proofs.YthngnbaoaeomeaaDoor
open Go.ChangeShapes Go.WideShapes Go.ChangeAt Go.RowKit Go.Joins Go.Deep
set_option linter.unusedVariables false
set_option linter.unusedSimpArgs false

theorem wr64r {n : Int} (h : -9223372036854775808 ≤ n ∧ n ≤ 9223372036854775807) : wrap64 n = n := by unfold wrap64; omega
theorem isEmpty_bsT (l : List UInt8) : (bsT l).toList.isEmpty = l.isEmpty := by rw [toL_bsT]
theorem all_snoc {l : List UInt8} {k : Nat} {ch : UInt8} (h : l[k]? = some ch) : (l.take (k + 1)).all digB = ((l.take k).all digB && digB ch) := by
  rw [List.take_add_one, h, List.all_append]; simp
theorem val_take {l : List UInt8} {k : Nat} {ch : UInt8} (h : l[k]? = some ch) : valA 0 (l.take (k + 1)) = 10 * valA 0 (l.take k) + (ch.toNat - 48) := by
  rw [List.take_add_one, h]
  exact valA_snoc ch _ 0
theorem numOk_all {s : List UInt8} (h : s.all digB = false) : numOk s = false := by unfold numOk; rw [h]; simp
theorem all_false {l : List UInt8} {k : Nat} {ch : UInt8} (h : l[k]? = some ch) (hd : digB ch = false) : l.all digB = false := by
  rw [Bool.eq_false_iff]
  intro h2
  have := List.all_eq_true.1 h2 ch (List.mem_of_getElem? h)
  rw [hd] at this; cases this
set_option maxRecDepth 100000 in
set_option maxHeartbeats 4000000 in
theorem l01Number_any (s : List UInt8) (w : World) (v : Int) (ok : Bool) (hok : numOk s = ok) (hv : (if ok = true then (valA 0 s : Int) else 0) = v) :
    Calls Tryd.prog 40 #[.string (bsT s)] w fun e w' => e = .returned (.tuple #[.int .i64 v, .bool ok]) ∧ w = w' := by
  obtain ⟨S, hS⟩ : ∃ S, bsT s = S := ⟨_, rfl⟩
  obtain ⟨n, hn⟩ : ∃ n, S.size = n := ⟨_, rfl⟩
  have hnl : s.length = n := by rw [← hn, ← hS, bsT_size]
  have HIX := Lib.hid (fun (k : Nat) ch (h : s[k]? = some ch) => (by have h1 := fun W => idx_run h W; rw [hS] at h1; exact h1 : ∀ W, (Instr.index 9 (.string S) (.int .i64 (k : Int))).run Tryd.prog W = .ok (.int .u8 (ch.toNat : Int)) W))
  have hem : S.toList.isEmpty = s.isEmpty := by rw [← hS, isEmpty_bsT]
  have hnS : S.size = n := hn
  have HOK := Lib.hid hok
  have HV := Lib.hid hv
  have Hnl := Lib.hid hnl
  have HNO := Lib.hid (fun (h : numOk s = false) => (show (0 : Int) = v ∧ false = ok by
    obtain rfl : ok = false := hok.symm.trans h
    exact ⟨by rw [← hv]; rfl, rfl⟩))
  rw [hS]
  clear hok hv hn
  cases hs0 : s with
  | nil =>
    subst hs0
    obtain ⟨rfl, rfl⟩ := HNO.out rfl
    have h1 : S.toList = [] := List.isEmpty_iff.1 hem
    clear HIX HOK HV Hnl HNO hnl hS
    go_enter Tryd.func40, Tryd.ntmps40
    go_wp2
    go_ret2
    exact ⟨rfl, rfl⟩
  | cons c0 r =>
    have hem1 : S.toList.isEmpty = false := by rw [hem, hs0]; rfl
    have hem2 : ¬ S.toList = [] := fun h => by rw [h] at hem1; cases hem1
    have hpos : 0 < n := by rw [← hnl, hs0]; simp
    by_cases h10 : 10 < n
    · obtain ⟨rfl, rfl⟩ := HNO.out (by unfold numOk; rw [decide_eq_false (by omega : ¬ s.length ≤ 10)]; simp)
      have e1 : (10 : Int) < (n : Int) := by omega
      clear HIX HOK HV Hnl HNO hnl hS hs0 hem
      go_enter Tryd.func40, Tryd.ntmps40
      go_wp2
      go_ret2
      exact ⟨rfl, rfl⟩
    · have e1 : ¬ (10 : Int) < (n : Int) := by omega
      have hix0 : ∀ W, (Instr.index 9 (.string S) (.int .i64 0)).run Tryd.prog W = .ok (.int .u8 (c0.toNat : Int)) W := HIX.out 0 c0 (by rw [hs0]; rfl)
      by_cases hz : c0.toNat = 48 ∧ 1 < n
      · obtain ⟨rfl, rfl⟩ := HNO.out (by
          unfold numOk
          rw [decide_eq_false (by omega : ¬ s.length = 1), decide_eq_false (by rw [hs0]; exact fun h => h hz.1 : ¬ (s.headD 0).toNat ≠ 48)]
          simp)
        have e2 : ((c0.toNat : Nat) : Int) = 48 := by omega
        have e3 : (1 : Int) < (n : Int) := by omega
        obtain ⟨cb, hcb⟩ : ∃ cb : Int, ((c0.toNat : Nat) : Int) = cb := ⟨_, rfl⟩
        rw [hcb] at hix0 e2
        subst e2
        clear HIX HOK HV Hnl HNO hnl hS hs0 hem hcb hz
        go_enter Tryd.func40, Tryd.ntmps40
        go_wp2
        go_ret2
        exact ⟨rfl, rfl⟩
      · have HZ := Lib.hid hz
        have HS0 := Lib.hid hs0
        have hd0 : Hid ((s.take 0).all digB = true) := Lib.hid rfl
        have HGO : Hid (s.all digB = true → numOk s = true) := Lib.hid (fun h => by
          unfold numOk
          rw [h, decide_eq_true (by omega : s.length ≤ 10)]
          rw [hs0]
          simp only [List.isEmpty_cons, Bool.not_false, Bool.and_true, Bool.true_and, Bool.or_eq_true, decide_eq_true_eq, List.headD_cons, ne_eq]
          rw [hs0] at hnl
          by_cases h1 : (c0 :: r).length = 1
          · exact .inl h1
          · have h3 : 1 < n := by have h4 : (c0 :: r).length = n := hnl; have h5 : 0 < (c0 :: r).length := by simp
                                  omega
            exact .inr (decide_eq_true (fun h2 => hz ⟨h2, h3⟩)))
        have hcz : (((c0.toNat : Nat) : Int) = 48) → ¬ (1 : Int) < (n : Int) := fun h1 h2 => hz ⟨by omega, by omega⟩
        obtain ⟨cb, hcb⟩ : ∃ cb : Int, ((c0.toNat : Nat) : Int) = cb := ⟨_, rfl⟩
        rw [hcb] at hix0 hcz
        clear hcb hz hs0 hem hS hnl
        have main : (cb = 48 ∧ ¬ (1 : Int) < (n : Int)) ∨ ¬ cb = 48 := by
          by_cases h : cb = 48
          · exact .inl ⟨h, hcz h⟩
          · exact .inr h
        clear hcz
        rcases main with ⟨rfl, h1⟩ | h1
        all_goals
          have h1n : ∀ x : Nat, x = x := fun _ => rfl
          clear h1n
          go_enter Tryd.func40, Tryd.ntmps40
          go_wp2
          go_loopw [4, 5] (fun vn vi wr => ∃ (k : Nat) (V : Int), k ≤ n ∧ vn = .int .i64 V ∧ vi = .int .i64 k ∧ 0 ≤ V ∧ V < 10000000000 ∧ Hid (V = (valA 0 (s.take k) : Int)) ∧ Hid ((s.take k).all digB = true) ∧ w = wr) (fun _ vi _ => n - (intOf vi).toNat)
          case atStart => exact ⟨0, 0, by omega, rfl, rfl, by omega, by omega, Lib.hid rfl, hd0, rfl⟩
          case round =>
            clear hd0 hix0
            obtain ⟨k, V, hk, rfl, rfl, hV0, hV1, HVV, HD, rfl⟩ := hrel
            by_cases hlt : k < n
            · have hkl : k < s.length := by rw [Hnl.out]; exact hlt
              obtain ⟨ch, hch⟩ : ∃ ch, s[k]? = some ch := ⟨_, List.getElem?_eq_getElem hkl⟩
              have hix := HIX.out k ch hch
              have hltS : k < S.size := by omega
              cases hdg : digB ch with
              | true =>
                have hdd := digB_iff.1 hdg
                unfold isDig at hdd
                have HD2 := Lib.hid (show (s.take (k + 1)).all digB = true by rw [all_snoc hch, HD.out, hdg]; rfl)
                have HVV2 := Lib.hid (show 10 * V + (((ch.toNat : Nat) : Int) - 48) = (valA 0 (s.take (k + 1)) : Int) by rw [val_take hch, HVV.out]; omega)
                have hV2 : 10 * V + (((ch.toNat : Nat) : Int) - 48) < 10000000000 := by
                  rw [HVV2.out]
                  have h5 := valA_lt (s.take (k + 1)) (fun b hb => digB_iff.1 (List.all_eq_true.1 HD2.out b hb))
                  have h6 : (s.take (k + 1)).length ≤ 10 := by rw [List.length_take]; omega
                  have h7 : 10 ^ (s.take (k + 1)).length ≤ 10 ^ 10 := Nat.pow_le_pow_right (by decide) h6
                  have h8 : (10 : Nat) ^ 10 = 10000000000 := by decide
                  omega
                obtain ⟨cb2, hcb2⟩ : ∃ cb : Int, ((ch.toNat : Nat) : Int) = cb := ⟨_, rfl⟩
                have q1 : 48 ≤ cb2 ∧ cb2 ≤ 57 := by omega
                rw [hcb2] at hix HVV2 hV2
                have f1 : ¬ cb2 < 48 := by omega
                have f2 : ¬ 57 < cb2 := by omega
                have f3 : IntKind.u8.wrap (cb2 - 48) = cb2 - 48 := by unfold IntKind.wrap; simp [IntKind.signed, IntKind.bits]; omega
                have f4 : IntKind.i64.wrap (cb2 - 48) = cb2 - 48 := IntWalk.i64_in _ (by omega)
                have f5 : IntKind.i64.wrap (10 * V) = 10 * V := IntWalk.i64_in _ (by omega)
                have f6 : IntKind.i64.wrap (10 * V + (cb2 - 48)) = 10 * V + (cb2 - 48) := IntWalk.i64_in _ (by omega)
                have f7 : wrap64 (10 * V) = 10 * V := wr64r (by omega)
                have f8 : wrap64 (10 * V + (cb2 - 48)) = 10 * V + (cb2 - 48) := wr64r (by omega)
                clear hch hdg hdd hcb2 HVV HD
                go_wp2
                exact ⟨⟨k + 1, 10 * V + (cb2 - 48), by omega, rfl, by go_num, by omega, hV2, HVV2, HD2, by trivial⟩, by simp [intOf]; omega⟩
              | false =>
                have HX := Lib.hid (HNO.out (numOk_all (all_false hch hdg)))
                have hdd : ¬ isDig ch := fun h => by rw [digB_iff.2 h] at hdg; cases hdg
                unfold isDig at hdd
                obtain ⟨cb2, hcb2⟩ : ∃ cb : Int, ((ch.toNat : Nat) : Int) = cb := ⟨_, rfl⟩
                have q1 : cb2 < 48 ∨ 57 < cb2 := by omega
                rw [hcb2] at hix
                clear hch hdg hdd hcb2 HVV HD
                by_cases g1 : cb2 < 48
                · go_wp2
                  go_ret2
                  obtain ⟨rfl, rfl⟩ := HX.out
                  exact ⟨rfl, rfl⟩
                · have g2 : 57 < cb2 := by omega
                  go_wp2
                  go_ret2
                  obtain ⟨rfl, rfl⟩ := HX.out
                  exact ⟨rfl, rfl⟩
            · obtain rfl : k = n := by omega
              have HX := Lib.hid (show V = v ∧ true = ok by
                have h2 := HD.out
                rw [List.take_of_length_le (by rw [Hnl.out]; exact Nat.le_refl _)] at h2
                have h3 := HGO.out h2
                have h4 : ok = true := HOK.out.symm.trans h3
                have h5 := HV.out
                rw [if_pos h4] at h5
                have h6 := HVV.out
                rw [List.take_of_length_le (by rw [Hnl.out]; exact Nat.le_refl _)] at h6
                exact ⟨h6.trans h5, h4.symm⟩)
              clear HVV HD
              go_wp2
              go_ret2
              obtain ⟨rfl, rfl⟩ := HX.out
              exact ⟨rfl, rfl⟩
theorem l00Min_le (a b : Int) (w : World) (h : a < b) : Calls Tryd.prog 41 #[.int .i64 a, .int .i64 b] w fun e w' => e = .returned (.int .i64 a) ∧ w = w' := by
  go_enter Tryd.func41, Tryd.ntmps41
  go_wp2
  go_ret
  exact ⟨rfl, rfl⟩
theorem l00Min_ge (a b : Int) (w : World) (h : ¬ a < b) : Calls Tryd.prog 41 #[.int .i64 a, .int .i64 b] w fun e w' => e = .returned (.int .i64 b) ∧ w = w' := by
  go_enter Tryd.func41, Tryd.ntmps41
  go_wp2
  go_ret
  exact ⟨rfl, rfl⟩
theorem l00Min_r (a b : Int) (w : World) (m : Int) (hm : m = if a < b then a else b) : Calls Tryd.prog 41 #[.int .i64 a, .int .i64 b] w fun e w' => e = .returned (.int .i64 m) ∧ w = w' := by
  by_cases h : a < b
  · rw [if_pos h] at hm; rw [hm]; exact l00Min_le a b w h
  · rw [if_neg h] at hm; rw [hm]; exact l00Min_ge a b w h
/-- what l01Small tells of a word: the number, and whether it is one -/
structure SmQ (s : List UInt8) (x : Int) (ok : Bool) : Prop where
  lo : 0 ≤ x
  hi : x ≤ 99
  yes : ok = true → s = decL x
  of : ∀ v, 0 ≤ v → v ≤ 99 → s = decL v → ok = true ∧ x = v
def smV (s : List UInt8) : Int := if numOk s = true then (valA 0 s : Int) else 0
def smX (s : List UInt8) : Int := if smV s < 99 then smV s else 99
def smB (s : List UInt8) : Bool := numOk s && decide (smV s < 100)
theorem smV_nn (s : List UInt8) : 0 ≤ smV s := by unfold smV; split <;> omega
theorem smV_of {s : List UInt8} {v : Int} (h0 : 0 ≤ v) (h1 : v < 10000) (h : s = decL v) : numOk s = true ∧ smV s = v := by
  have h2 : numOk s = true := by rw [h]; exact numOk_of h1
  refine ⟨h2, ?_⟩
  unfold smV
  rw [if_pos h2, h, decL_val h0]
theorem smQ_any (s : List UInt8) : SmQ s (smX s) (smB s) := by
  have h0 := smV_nn s
  refine ⟨by unfold smX; split <;> omega, by unfold smX; split <;> omega, fun h => ?_, fun v h1 h2 h3 => ?_⟩
  · unfold smB at h
    simp only [Bool.and_eq_true, decide_eq_true_eq] at h
    have e : smX s = smV s := by unfold smX; split <;> omega
    rw [e]
    unfold smV
    rw [if_pos h.1]
    exact (numOk_dec h.1).symm
  · obtain ⟨h4, h5⟩ := smV_of h1 (by omega) h3
    refine ⟨?_, ?_⟩
    · unfold smB; rw [h4, h5, decide_eq_true (by omega)]; rfl
    · unfold smX; rw [h5]; split <;> omega
set_option maxRecDepth 100000 in
set_option maxHeartbeats 1000000 in
theorem l01Small_any (s : List UInt8) (w : World) (x : Int) (ok : Bool) (hx : smX s = x) (hok : smB s = ok) :
    Calls Tryd.prog 39 #[.string (bsT s)] w fun e w' => e = .returned (.tuple #[.int .i8 x, .bool ok]) ∧ w = w' := by
  obtain ⟨B, hB⟩ : ∃ B, numOk s = B := ⟨_, rfl⟩
  obtain ⟨V, hV⟩ : ∃ V, smV s = V := ⟨_, rfl⟩
  have h0 : 0 ≤ V := by rw [← hV]; exact smV_nn s
  have HN := Lib.hid (l01Number_any s w V B hB (by rw [← hV]; unfold smV; rw [hB]))
  unfold smX at hx
  unfold smB at hok
  rw [hV] at hx hok
  rw [hB] at hok
  have HM := Lib.hid (l00Min_r V 99 w x hx.symm)
  have hx9 : 0 ≤ x ∧ x ≤ 99 := by rw [← hx]; split <;> omega
  have wx : IntKind.i8.wrap x = x := IntWalk.i8_in _ (by omega)
  have HOK := Lib.hid hok
  clear hx hok hV hB
  go_enter Tryd.func39, Tryd.ntmps39
  go_wp2_with fail
  refine HN.out.mono ?_
  rintro e w' ⟨rfl, h⟩
  obtain rfl : w = w' := h
  go_wp2_with fail
  refine HM.out.mono ?_
  rintro e w' ⟨rfl, h⟩
  obtain rfl : w = w' := h
  by_cases h1 : V < 100
  · obtain rfl : B = ok := by have h := HOK.out; rw [decide_eq_true h1, Bool.and_true] at h; exact h
    clear HOK
    cases B with
    | true =>
      go_wp2
      go_ret2
      exact ⟨rfl, rfl⟩
    | false =>
      go_wp2
      go_ret2
      exact ⟨rfl, rfl⟩
  · obtain rfl : false = ok := by have h := HOK.out; rw [decide_eq_false h1, Bool.and_false] at h; exact h
    have hd1 : decide (V < 100) = false := decide_eq_false h1
    clear HOK
    cases B with
    | true =>
      go_wp2
      go_ret2
      exact ⟨rfl, rfl⟩
    | false =>
      go_wp2
      go_ret2
      exact ⟨rfl, rfl⟩
/-- the place of a word among N, or -1 -/
structure WdQ (W : Int → List UInt8) (N : Nat) (s : List UInt8) (k : Int) : Prop where
  ran : -1 ≤ k ∧ k < N
  yes : 0 ≤ k → s = W k
  no : k = -1 → ∀ j : Nat, j < N → s ≠ W j
theorem WdQ.of {W : Int → List UInt8} {N : Nat} {s : List UInt8} {k : Int} (h : WdQ W N s k) (inj : ∀ a b : Nat, a < N → b < N → W a = W b → a = b) {j : Nat} (hj : j < N) (hs : s = W j) : k = j := by
  by_cases h0 : 0 ≤ k
  · have h1 := h.yes h0
    obtain ⟨a, rfl⟩ : ∃ a : Nat, k = a := ⟨k.toNat, by omega⟩
    have h2 := h.ran.2
    have := inj a j (by omega) hj (h1.symm.trans hs)
    omega
  · exact absurd hs (h.no (by have := h.ran.1; omega) j hj)
theorem side_inj : ∀ a b : Nat, a < 4 → b < 4 → sideWL a = sideWL b → a = b := by
  have h : ∀ a b : Fin 4, sideWL (a.val : Int) = sideWL (b.val : Int) → a.val = b.val := by decide
  exact fun a b ha hb he => h ⟨a, ha⟩ ⟨b, hb⟩ he
theorem kind_inj : ∀ a b : Nat, a < 6 → b < 6 → kindWL a = kindWL b → a = b := by
  have h : ∀ a b : Fin 6, kindWL (a.val : Int) = kindWL (b.val : Int) → a.val = b.val := by decide
  exact fun a b ha hb he => h ⟨a, ha⟩ ⟨b, hb⟩ he
/-- what the search of a side's word leaves -/
def WdP (W : Int → List UInt8) (N : Nat) (s : List UInt8) (w : World) (e : Ending) (w' : World) : Prop := ∃ k, e = .returned (.int .i8 k) ∧ WdQ W N s k ∧ Below w.heap.size w w'
set_option maxRecDepth 100000 in
set_option maxHeartbeats 2000000 in
theorem l05Word_any (s : List UInt8) (w : World) : Calls Tryd.prog 47 #[.string (bsT s)] w (WdP sideWL 4 s w) := by
  obtain ⟨S, hS⟩ : ∃ S, bsT s = S := ⟨_, rfl⟩
  have HS := Lib.hid hS
  have hN0 : Hid (∀ i : Nat, i < 0 → s ≠ sideWL i) := Lib.hid (fun i h => by omega)
  have HB0 := Lib.hid (Below.refl w.heap.size w)
  rw [hS]
  clear hS
  go_enter Tryd.func47, Tryd.ntmps47
  go_wp2
  go_loopw [3] (fun vi wr => ∃ j : Nat, j ≤ 4 ∧ vi = .int .i64 j ∧ Hid (∀ i : Nat, i < j → s ≠ sideWL i) ∧ Hid (Below w.heap.size w wr)) (fun vi _ => 4 - (intOf vi).toNat)
  case atStart => exact ⟨0, by omega, rfl, hN0, HB0⟩
  case round =>
    clear hN0 HB0
    obtain ⟨j, hj, rfl, HN, HB⟩ := hrel
    by_cases hlt : j < 4
    · go_wp2_with fail
      refine (l02Sides_any wr).mono ?_
      rintro e w2 ⟨g, rfl, hg, hb2⟩
      have hcell := hg.1 j hlt
      have lg := hg.2
      have HB2 := Lib.hid (kTrans HB.out hb2)
      obtain ⟨V, hV⟩ : ∃ V, bsT (sideWL (j : Int)) = V := ⟨_, rfl⟩
      rw [hV] at hcell
      have hjZ : (j : Int) < 4 := by omega
      clear hg hb2 HB
      by_cases he : s = sideWL j
      · have e1 : (V.toList == S.toList) = true := by rw [← hV, ← HS.out, toL_bsT, toL_bsT, he]; exact beq_self_eq_true _
        have e2 : V.toList = S.toList := by rw [← hV, ← HS.out, toL_bsT, toL_bsT, he]
        have wj : IntKind.i8.wrap (j : Int) = j := IntWalk.i8_in _ (by omega)
        have HE := Lib.hid he
        have HP := Lib.hid (show WdQ sideWL 4 s j from ⟨by omega, fun _ => he, fun h => by omega⟩)
        clear he hV HN
        go_wp2
        go_ret
        exact ⟨_, rfl, HP.out, HB2.out⟩
      · have e2 : ¬ V.toList = S.toList := by rw [← hV, ← HS.out, toL_bsT, toL_bsT]; exact fun h => he h.symm
        have e1 : (V.toList == S.toList) = false := beq_eq_false_iff_ne.2 e2
        have HN2 := Lib.hid (show ∀ i : Nat, i < j + 1 → s ≠ sideWL i from fun i hi => by
          by_cases h : i = j
          · rw [h]; exact he
          · exact HN.out i (by omega))
        clear he hV HN
        go_wp2
        exact ⟨⟨j + 1, by omega, by go_num, HN2, HB2⟩, by simp [intOf]; omega⟩
    · obtain rfl : j = 4 := by omega
      have HP := Lib.hid (show WdQ sideWL 4 s (-1) from ⟨by omega, fun h => by omega, fun _ => HN.out⟩)
      clear HN
      go_wp2
      go_ret
      exact ⟨_, rfl, HP.out, HB.out⟩
theorem ixs0 (a b c d : Value) (w : World) : (Instr.index 116 (.agg #[a, b, c, d]) (.int .i64 0)).run Tryd.prog w = .ok a w := by kernel_rfl
theorem ixs1 (a b c d : Value) (w : World) : (Instr.index 116 (.agg #[a, b, c, d]) (.int .i64 1)).run Tryd.prog w = .ok b w := by kernel_rfl
theorem ixs2 (a b c d : Value) (w : World) : (Instr.index 116 (.agg #[a, b, c, d]) (.int .i64 2)).run Tryd.prog w = .ok c w := by kernel_rfl
theorem ixs3 (a b c d : Value) (w : World) : (Instr.index 116 (.agg #[a, b, c, d]) (.int .i64 3)).run Tryd.prog w = .ok d w := by kernel_rfl
theorem ixs (f : Nat → ByteArray) (k : Nat) (hk : k < 4) (w : World) : (Instr.index 116 (.agg #[.string (f 0), .string (f 1), .string (f 2), .string (f 3)]) (.int .i64 k)).run Tryd.prog w = .ok (.string (f k)) w := by
  have : k = 0 ∨ k = 1 ∨ k = 2 ∨ k = 3 := by omega
  rcases this with rfl | rfl | rfl | rfl
  · exact ixs0 _ _ _ _ w
  · exact ixs1 _ _ _ _ w
  · exact ixs2 _ _ _ _ w
  · exact ixs3 _ _ _ _ w
set_option maxRecDepth 100000 in
set_option maxHeartbeats 2000000 in
theorem sideNamed_any (s : List UInt8) (w : World) (hst : SideAt w) : Calls Tryd.prog 96 #[.string (bsT s)] w (NmP sideWL 4 s w) := by
  obtain ⟨S, hS⟩ : ∃ S, bsT s = S := ⟨_, rfl⟩
  obtain ⟨fW, hfW⟩ : ∃ fW : Nat → ByteArray, fW = fun k : Nat => bsT (sideWL (k : Int)) := ⟨_, rfl⟩
  have HF := Lib.hid hfW
  have HS := Lib.hid hS
  have hN0 : Hid (∀ i : Nat, i < 0 → s ≠ sideWL i) := Lib.hid (fun i h => by omega)
  obtain ⟨h1, h2⟩ := hst
  have c0 : w.cell? ⟨2, 0, none⟩ = some (.string (fW 0)) := by rw [hfW]; exact h1 0 (by omega)
  have c1 : w.cell? ⟨2, 1, none⟩ = some (.string (fW 1)) := by rw [hfW]; exact h1 1 (by omega)
  have c2 : w.cell? ⟨2, 2, none⟩ = some (.string (fW 2)) := by rw [hfW]; exact h1 2 (by omega)
  have c3 : w.cell? ⟨2, 3, none⟩ = some (.string (fW 3)) := by rw [hfW]; exact h1 3 (by omega)
  rw [hS]
  clear hS h1 hfW
  go_enter Tryd.func96, Tryd.ntmps96
  go_wp2
  go_loopw [4, 5, 7] (fun _ _ vi wr => ∃ j : Nat, j ≤ 4 ∧ vi = .int .i64 j ∧ Hid (∀ i : Nat, i < j → s ≠ sideWL i) ∧ w = wr) (fun _ _ vi _ => 4 - (intOf vi).toNat)
  case atStart => exact ⟨0, by omega, rfl, hN0, rfl⟩
  case round =>
    clear hN0 c0 c1 c2 c3
    obtain ⟨j, hj, rfl, HN, rfl⟩ := hrel
    by_cases hlt : j < 4
    · have hix := ixs fW j hlt
      obtain ⟨V, hV⟩ : ∃ V, fW j = V := ⟨_, rfl⟩
      have hV2 : V = bsT (sideWL (j : Int)) := by rw [← hV, HF.out]
      rw [hV] at hix
      have hjZ : (j : Int) < 4 := by omega
      clear hV
      by_cases he : s = sideWL j
      · have e2 : V.toList = S.toList := by rw [hV2, ← HS.out, toL_bsT, toL_bsT, he]
        have e1 : (V.toList == S.toList) = true := by rw [e2]; exact beq_self_eq_true _
        have wj : IntKind.i8.wrap (j : Int) = j := IntWalk.i8_in _ (by omega)
        have HE := Lib.hid he
        clear he hV2 HN HF
        go_wp2
        go_ret2
        exact ⟨rfl, .inl ⟨j, hlt, rfl, HE.out⟩⟩
      · have e2 : ¬ V.toList = S.toList := by rw [hV2, ← HS.out, toL_bsT, toL_bsT]; exact fun h => he h.symm
        have e1 : (V.toList == S.toList) = false := beq_eq_false_iff_ne.2 e2
        have HN2 := Lib.hid (show ∀ i : Nat, i < j + 1 → s ≠ sideWL i from fun i hi => by
          by_cases h : i = j
          · rw [h]; exact he
          · exact HN.out i (by omega))
        clear he hV2 HN
        go_wp2
        exact ⟨⟨j + 1, by omega, by go_num, HN2, by trivial⟩, by simp [intOf]; omega⟩
    · obtain rfl : j = 4 := by omega
      clear HF
      go_wp2
      go_ret2
      exact ⟨rfl, .inr ⟨rfl, HN.out⟩⟩
end Go.Proofs.YthngnbaoaeomeaaDoor
