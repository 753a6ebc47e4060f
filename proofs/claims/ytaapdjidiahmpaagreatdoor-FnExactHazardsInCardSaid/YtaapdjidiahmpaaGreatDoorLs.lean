/- The model's code of a machine, a row and late. -/
import Derived.Test.YtaapdjidiahmpaaGreatDoorMs
import Derived.Test.YtaapdjidiahmpaaGreatDoorLd
namespace Go.Proofs.YtaapdjidiahmpaaGreatDoor
open Go.ChangeShapes Go.WideShapes Go.ChangeAt Go.RowKit Go.Joins Go.Deep
set_option linter.unusedVariables false
set_option linter.unusedSimpArgs false

theorem pow_small {n : Nat} (hn : n ≤ 6) : 1 ≤ (2 : Int) ^ n ∧ (2 : Int) ^ n ≤ 64 := by
  have := pow_key hn
  omega
theorem machOk_len {wd hi : Int} {l : List Pc} {p : List Po} {c : List Cl} (h : machOk wd hi l p c = true) : p.length ≤ 6 := by
  unfold machOk countsOk at h
  simp at h
  omega
set_option maxRecDepth 100000 in
set_option maxHeartbeats 8000000 in
theorem l03Asked_any (bb b k q g n0 n1 n2 r : Nat) (wd hi row : Int) (l : List Pc) (p : List Po) (c : List Cl) (t : List Int) (w : World) (hn0 : l.length = n0) (hn1 : p.length = n1) (hn2 : c.length = n2) (hr : t.length = r)
    (hm : McAt w bb wd hi (.slice (some ⟨b, 0, none⟩) n0 n0) (.slice (some ⟨k, 0, none⟩) n1 n1) (.slice (some ⟨q, 0, none⟩) n2 n2)) (hp : PcsAt w b 0 l) (hg : PosAt w k 0 p) (hj : ClsAt w q 0 c) (ht : InsAt w g 0 t) (zb : b < w.heap.size) (zk : k < w.heap.size) (zq : q < w.heap.size) (zg : g < w.heap.size)
    (h8 : All8 l) (hw : PosWf p) (bw : i8 wd) (bh : i8 hi) (m0 : n0 ≤ 1048576) (m1 : n1 ≤ 1048576) (m2 : n2 ≤ 1048576) (m3 : r ≤ 1048576) (M O : Bool) (hM : M = machOk wd hi l p c) (hO : O = rowOk n1 row t) :
    Calls Tryz.prog 47 #[.pointer (some ⟨bb, 0, none⟩), .int .i64 row, .slice (some ⟨g, 0, none⟩) r r] w fun e w' => e = .returned (.int .i64 (askedC M O)) ∧ Below w.heap.size w w' := by
  have HK := Lib.hid (l03Ok_any bb b k q n0 n1 n2 wd hi l p c w hn0 hn1 hn2 hm hp hg hj zb zk zq h8 hw bw bh m0 m1 m2 M hM)
  have HT := Lib.hid (fun W (hW : Below w.heap.size w W) => ht.below hW zg)
  have lbb := hm.lt
  have HMc := Lib.hid (fun W (hW : Below w.heap.size w W) => hm.below hW lbb)
  have Hr := Lib.hid hr
  have Hn1 := Lib.hid hn1
  have HM := Lib.hid hM
  have HO := Lib.hid hO
  clear hm hp hg hj ht h8 hw bw bh hn0 hn1 hn2 hr hM hO
  go_enter Tryz.func47, Tryz.ntmps47
  go_wp2_with fail
  refine HK.out.mono ?_
  rintro e w1 ⟨rfl, hb1⟩
  clear HK
  cases M with
  | false =>
    go_wp2
    go_ret
    exact ⟨rfl, hb1⟩
  | true =>
    have h6 : n1 ≤ 6 := by rw [← Hn1.out]; exact machOk_len HM.out.symm
    have HRW := Lib.hid (l03Rows_any bb n1 wd hi _ _ _ _ w1 (HMc.out w1 hb1) h6)
    obtain ⟨m, hm⟩ : ∃ m : Int, m = 2 ^ n1 := ⟨_, rfl⟩
    have hms := pow_small h6
    rw [← hm] at HRW hms
    obtain ⟨R1, hR1⟩ : ∃ R1, R1 = decide (0 ≤ row ∧ row < 2 ^ n1) := ⟨_, rfl⟩
    have HR1 := Lib.hid hR1
    have HR1' : Hid (R1 = decide (0 ≤ row ∧ row ≤ m - 1)) := Lib.hid (by
      rw [hR1, ← hm]; exact decide_eq_decide.2 (by omega))
    clear hm hR1
    go_wp2_with fail
    refine HRW.out.mono ?_
    rintro e w2 ⟨rfl, rfl⟩
    clear HRW
    obtain ⟨x0, x1, x2, x3, x4⟩ := HMc.out w1 hb1
    go_wp2_with fail
    refine (l00In_any _ _ _ _ R1 HR1'.out).mono ?_
    rintro e w2 ⟨rfl, rfl⟩
    obtain ⟨K, hK⟩ : ∃ K, K = (R1 && decide (r = n1)) := ⟨_, rfl⟩
    have HK : Hid ((K && lateAll (t.drop 0)) = O) := Lib.hid (by rw [HO.out]; unfold rowOk; rw [← HR1.out, hK, Hr.out]; rfl)
    have e1 : ((r : Int) == (n1 : Int)) = decide (r = n1) := by
      by_cases h : r = n1
      · rw [h]; simp
      · have h2 : ¬ (r : Int) = (n1 : Int) := by omega
        simp [h, h2]
    have HT1 := Lib.hid (HT.out w1 hb1)
    clear HR1 HR1' HO
    cases R1 with
    | false =>
      obtain rfl : K = false := by rw [hK]; rfl
      clear hK e1
      go_wp2
      go_loopw [7, 8] (fun o i wr => ∃ (j : Nat) (kk : Bool), j ≤ r ∧ o = .bool kk ∧ i = .int .i64 j ∧ Hid ((kk && lateAll (t.drop j)) = O) ∧ w1 = wr) (fun _ i _ => r - (intOf i).toNat)
      case atStart => exact ⟨0, false, by omega, rfl, rfl, HK, rfl⟩
      case round =>
        clear HK
        obtain ⟨j, kk, hj, rfl, rfl, hf, rfl⟩ := hrel
        by_cases hlt : j < r
        · cases kk with
          | true =>
            have hlk : j < t.length := by rw [Hr.out]; exact hlt
            have hpa := HT1.out j hlk
            have hd : t.drop j = t[j] :: t.drop (j + 1) := List.drop_eq_getElem_cons hlk
            generalize t[j] = a at hpa hd
            simp only [Nat.zero_add] at hpa
            have hq := hf.out
            rw [hd] at hq
            obtain ⟨B1, hB1⟩ : ∃ B1, B1 = decide (0 ≤ a ∧ a ≤ 100) := ⟨_, rfl⟩
            have HB1 := Lib.hid hB1
            have hq2 : Hid ((B1 && lateAll (t.drop (j + 1))) = O) := Lib.hid (by rw [← hq, hB1]; rfl)
            clear hB1 hq hd hf
            go_wp2_with fail
            refine (l00In_any _ _ _ _ B1 HB1.out).mono ?_
            rintro e w2 ⟨rfl, rfl⟩
            go_wp2
            exact ⟨⟨j + 1, B1, by omega, rfl, by go_num, hq2, trivial⟩, by simp [intOf]; omega⟩
          | false =>
            obtain rfl : O = false := by rw [← hf.out]; rfl
            clear hf
            go_wp2
            go_ret
            exact ⟨rfl, hb1⟩
        · obtain rfl : O = kk := by rw [← hf.out, List.drop_of_length_le (by rw [Hr.out]; omega)]; simp [lateAll]
          clear hf
          cases O with
          | true =>
            go_wp2
            go_ret
            exact ⟨rfl, hb1⟩
          | false =>
            go_wp2
            go_ret
            exact ⟨rfl, hb1⟩
    | true =>
      obtain rfl : K = decide (r = n1) := by rw [hK]; rfl
      clear hK
      obtain ⟨K, hK⟩ : ∃ K, decide (r = n1) = K := ⟨_, rfl⟩
      rw [hK] at HK e1
      have e2 : (r == n1) = K := by rw [← hK]; rfl
      clear hK
      go_wp2
      go_loopw [7, 8] (fun o i wr => ∃ (j : Nat) (kk : Bool), j ≤ r ∧ o = .bool kk ∧ i = .int .i64 j ∧ Hid ((kk && lateAll (t.drop j)) = O) ∧ w1 = wr) (fun _ i _ => r - (intOf i).toNat)
      case atStart => exact ⟨0, K, by omega, rfl, rfl, HK, rfl⟩
      case round =>
        clear HK e1 e2
        obtain ⟨j, kk, hj, rfl, rfl, hf, rfl⟩ := hrel
        by_cases hlt : j < r
        · cases kk with
          | true =>
            have hlk : j < t.length := by rw [Hr.out]; exact hlt
            have hpa := HT1.out j hlk
            have hd : t.drop j = t[j] :: t.drop (j + 1) := List.drop_eq_getElem_cons hlk
            generalize t[j] = a at hpa hd
            simp only [Nat.zero_add] at hpa
            have hq := hf.out
            rw [hd] at hq
            obtain ⟨B1, hB1⟩ : ∃ B1, B1 = decide (0 ≤ a ∧ a ≤ 100) := ⟨_, rfl⟩
            have HB1 := Lib.hid hB1
            have hq2 : Hid ((B1 && lateAll (t.drop (j + 1))) = O) := Lib.hid (by rw [← hq, hB1]; rfl)
            clear hB1 hq hd hf
            go_wp2_with fail
            refine (l00In_any _ _ _ _ B1 HB1.out).mono ?_
            rintro e w2 ⟨rfl, rfl⟩
            go_wp2
            exact ⟨⟨j + 1, B1, by omega, rfl, by go_num, hq2, trivial⟩, by simp [intOf]; omega⟩
          | false =>
            obtain rfl : O = false := by rw [← hf.out]; rfl
            clear hf
            go_wp2
            go_ret
            exact ⟨rfl, hb1⟩
        · obtain rfl : O = kk := by rw [← hf.out, List.drop_of_length_le (by rw [Hr.out]; omega)]; simp [lateAll]
          clear hf
          cases O with
          | true =>
            go_wp2
            go_ret
            exact ⟨rfl, hb1⟩
          | false =>
            go_wp2
            go_ret
            exact ⟨rfl, hb1⟩
end Go.Proofs.YtaapdjidiahmpaaGreatDoor
