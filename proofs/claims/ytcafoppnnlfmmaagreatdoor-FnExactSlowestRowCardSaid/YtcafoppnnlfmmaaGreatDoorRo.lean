/- RowWith: both sides. -/
import Derived.Test.YtcafoppnnlfmmaaGreatDoorAn
namespace Go.Proofs.YtcafoppnnlfmmaaGreatDoor
open Go.ChangeShapes Go.WideShapes Go.ChangeAt Go.RowKit Go.Shelf Go.Joins Go.Deep
set_option linter.unusedVariables false
set_option linter.unusedSimpArgs false

def firstI (x : Int) : List Int → Int → Int
  | [], _ => -1
  | y :: l, j => if x = y then j else firstI x l (j + 1)
theorem firstI_ge (x : Int) : ∀ (l : List Int) (j : Int), firstI x l j = -1 ∨ j ≤ firstI x l j
  | [], _ => .inl rfl
  | y :: l, j => by
    unfold firstI
    split
    · exact .inr (Int.le_refl _)
    · rcases firstI_ge x l (j + 1) with h | h
      · exact .inl h
      · exact .inr (by omega)
theorem wrap_pred {pr : Int} (h : 1 ≤ pr ∧ pr ≤ 256) : wrap64 (pr - 1) = pr - 1 := by unfold wrap64; omega
theorem wrap_two {r : Nat} {pr : Int} (h8 : r ≤ 8) (h : (2 : Int) ^ r = pr) : wrap64 (2 ^ r) = pr := by rw [shl1_lt h8]; exact h
theorem row_range {x pr : Int} : decide (0 ≤ x ∧ x < pr) = decide (0 ≤ x ∧ x ≤ pr - 1) := by rw [Bool.eq_iff_iff]; simp only [decide_eq_true_eq]; omega
def rwQ (M O : Bool) (f : Int) : Int × Int := if M = true then (if O = true then (if f < 0 then (0, 6) else (f, 0)) else (0, 2)) else (0, 1)
theorem pair_RW {a b c d : Int} (h : (a, b) = (c, d)) : a = c ∧ b = d := by injection h with h1 h2; exact ⟨h1, h2⟩
theorem slIn_some {w : World} {T : List Int} {va : Option Addr} {vc N : Nat} (h : SlIn w T (.slice va N vc)) (h0 : 0 < T.length) : ∃ g o, va = some ⟨g, o, none⟩ ∧ InsAt w g o T ∧ g < w.heap.size ∧ T.length ≤ vc ∧ N = T.length := by
  generalize hv : Value.slice va N vc = v at h
  cases h with
  | empty _ _ h => rw [h] at h0; simp at h0
  | mk g o c h1 h2 h3 => cases hv; exact ⟨_, _, rfl, h1, h2, h3, rfl⟩
set_option maxRecDepth 100000 in
set_option maxHeartbeats 4000000 in
theorem index_any (g o N c : Nat) (L : List Int) (x : Int) (w : World) (hL : L.length = N) (hc : InsAt w g o L) (hg : g < w.heap.size) (hle : N ≤ c) (hN : N ≤ 1048576) (f : Int) (hf : firstI x L 0 = f) :
    Calls Tryz.prog 60 #[.slice (some ⟨g, o, none⟩) N c, .int .i64 x] w fun e w' => e = .returned (.int .i64 f) ∧ w = w' := by
  have HL := Lib.hid hL
  have HF0 : Hid (firstI x (L.drop 0) (0 : Nat) = f) := Lib.hid hf
  clear hL hf
  go_enter Tryz.func60, Tryz.ntmps60
  go_wp2
  go_loopw [5, 8] (fun _ i wr => ∃ j : Nat, j ≤ N ∧ i = .int .i64 j ∧ Hid (firstI x (L.drop j) (j : Nat) = f) ∧ w = wr) (fun _ i _ => N - (intOf i).toNat)
  case atStart => exact ⟨0, by omega, rfl, HF0, rfl⟩
  case round =>
    clear HF0
    obtain ⟨j, hj, rfl, hf, rfl⟩ := hrel
    by_cases hlt : j < N
    · have hlk : j < L.length := by rw [HL.out]; exact hlt
      have cj := hc j hlk
      have hf2 := hf.out
      rw [List.drop_eq_getElem_cons hlk] at hf2
      generalize L[j] = y at cj hf2
      unfold firstI at hf2
      clear hf
      by_cases he : x = y
      · have he2 : (x == y) = true := by simpa using he
        rw [if_pos he] at hf2
        obtain rfl : f = j := hf2.symm
        clear hf2 he
        go_wp2
        go_ret
        exact ⟨rfl, rfl⟩
      · have he2 : (x == y) = false := by simpa using he
        rw [if_neg he] at hf2
        have HF : Hid (firstI x (L.drop (j + 1)) ((j + 1 : Nat) : Int) = f) := Lib.hid (by rw [← hf2]; rfl)
        clear hf2 he
        go_wp2
        exact ⟨⟨j + 1, by omega, by go_num, HF, trivial⟩, by simp [intOf]; omega⟩
    · obtain rfl : j = N := by omega
      obtain rfl : f = -1 := by rw [← hf.out, List.drop_of_length_le (by rw [HL.out]; exact Nat.le_refl _)]; rfl
      clear hf
      go_wp2
      go_ret
      exact ⟨rfl, rfl⟩
theorem isBelow_lit (row : Int) (w : World) (c m : Int) (hc : c = 7 ∧ m = 128 ∨ c = 8 ∧ m = 256) (b : Bool) (hb : b = decide (0 ≤ row ∧ row < m)) :
    Calls Tryz.prog 59 #[.int .i64 row, .int .i64 c] w fun e w' => e = .returned (.bool b) ∧ w = w' := by
  by_cases h1 : 0 ≤ row
  · by_cases h2 : row < m
    · obtain rfl : b = true := by rw [hb]; simp [h1, h2]
      clear hb
      rcases hc with ⟨rfl, rfl⟩ | ⟨rfl, rfl⟩ <;> (go_enter Tryz.func59, Tryz.ntmps59; go_wp2; go_ret; exact ⟨rfl, rfl⟩)
    · obtain rfl : b = false := by rw [hb]; simp [h2]
      clear hb
      have h3 : decide (row < m) = false := by simpa using h2
      rcases hc with ⟨rfl, rfl⟩ | ⟨rfl, rfl⟩ <;> (go_enter Tryz.func59, Tryz.ntmps59; go_wp2; go_ret; exact ⟨rfl, rfl⟩)
  · obtain rfl : b = false := by rw [hb]; simp [h1]
    have h1' : decide (0 ≤ row) = false := by simp; omega
    clear hb h1 hc
    go_enter Tryz.func59, Tryz.ntmps59
    go_wp2
    go_ret
    exact ⟨rfl, rfl⟩
theorem isBelow8_any (row : Int) (n : Nat) (w : World) (hn : n ≤ 8) (b : Bool) (hb : b = decide (0 ≤ row ∧ row < 2 ^ n)) :
    Calls Tryz.prog 59 #[.int .i64 row, .int .i64 n] w fun e w' => e = .returned (.bool b) ∧ w = w' := by
  by_cases h6 : n ≤ 6
  · exact isBelowPower_any row n w h6 b hb
  · have hc : n = 7 ∨ n = 8 := by omega
    rcases hc with rfl | rfl
    · exact isBelow_lit row w 7 128 (.inl ⟨rfl, rfl⟩) b hb
    · exact isBelow_lit row w 8 256 (.inr ⟨rfl, rfl⟩) b hb
set_option maxRecDepth 100000 in
set_option maxHeartbeats 16000000 in
theorem implRowWith_any (b k q m n r : Nat) (wd hi : Int) (l : List Pc) (p : List Po) (c : List Cl) (w : World) (hp : PcsAt w b 0 l) (hg : PosAt w k 0 p) (hj : ClsAt w q 0 c) (zb : b < w.heap.size) (zk : k < w.heap.size) (zq : q < w.heap.size)
    (hm : l.length = m) (hn : p.length = n) (hr : c.length = r) (h8 : All8 l) (hw : PosWf p) (bw : i8 wd) (bh : i8 hi) (m0 : m ≤ 1048576) (m1 : n ≤ 1048576) (m2 : r ≤ 1048576) (M : Bool) (hM : M = machOk wd hi l p c) (F : Nat → List Fl) (hF : M = true → AnsAt wd hi l p c n F) (N : Nat) (hN : 2 ^ n = N) (hst : StayAt w) (x : Int) (wx : (Lit.int .i64 x).wf = true) (O : Bool) (hO : O = decide (0 ≤ x ∧ x < 2 ^ r)) (E C : Int) (hQ : rwQ M O (firstI x (ansL l c F N) 0) = (E, C)) :
    Calls Tryz.prog 26 #[.agg #[.int .i8 wd, .int .i8 hi, .slice (some ⟨b, 0, none⟩) m m, .slice (some ⟨k, 0, none⟩) n n, .slice (some ⟨q, 0, none⟩) r r], .int .i64 x] w (fun e w' => e = .returned (.tuple #[.int .i64 E, .int .i64 C]) ∧ Below w.heap.size w w') := by
  have ka : Below w.heap.size w (w.alloc (.cells #[.int .i8 wd, .int .i8 hi, .slice (some ⟨b, 0, none⟩) m m, .slice (some ⟨k, 0, none⟩) n n, .slice (some ⟨q, 0, none⟩) r r] 40)) := by repeat (first | with_reducible exact Below.refl _ _ | (with_reducible refine kSet ?_ ?hB _; case hB => (simp; try omega)) | with_reducible refine kAlloc ?_ _ | with_reducible refine Below.drew ?_ | with_reducible refine kDrewN ?_ _ | with_reducible refine kTrans ?_ (by assumption))
  have HV := Lib.hid (by have h := deviceOf_any b k q wd hi l p c _ (hp.below ka zb) (hg.below ka zk) (hj.below ka zq) (Nat.lt_of_lt_of_le zb ka.size) (Nat.lt_of_lt_of_le zk ka.size) (Nat.lt_of_lt_of_le zq ka.size) h8 hw (by omega) (by omega) (by omega) M hM; rw [hm, hn, hr] at h; exact h)
  have HS := Lib.hid (fun W (h : Below w.heap.size w W) => hst.below h)
  have HP := Lib.hid (fun W (h : Below w.heap.size w W) => hp.below h zb)
  have HG := Lib.hid (fun W (h : Below w.heap.size w W) => hg.below h zk)
  have HC := Lib.hid (fun W (h : Below w.heap.size w W) => hj.below h zq)
  have HFF := Lib.hid hF
  have HNN := Lib.hid hN
  have HM := Lib.hid hM
  have Hn := Lib.hid hn
  have Hm := Lib.hid hm
  have Hr := Lib.hid hr
  have HO := Lib.hid hO
  have HQ := Lib.hid hQ
  clear hp hg hj h8 hw hst hM hn hm hr hF hN hO hQ
  cases M with
  | false =>
    obtain ⟨rfl, rfl⟩ := pair_RW (show ((0 : Int), (1 : Int)) = (E, C) from HQ.out)
    clear HQ HO HP HG HC HFF HM HNN
    go_enter Tryz.func26, Tryz.ntmps26
    go_wp2_with fail
    refine HV.out.mono ?_
    rintro e w1 ⟨_, h1, hb1⟩
    obtain rfl := h1 rfl
    have T1 := kTrans ka hb1
    clear HV h1 hb1
    go_wp2
    exact bodyPost_ret (v := .tuple #[.int .i64 0, .int .i64 1]) (by simp [results, Tryz.results26, go_sem]) rfl ⟨rfl, by repeat (first | with_reducible exact Below.refl _ _ | (with_reducible refine kSet ?_ ?hB _; case hB => (simp; try omega)) | with_reducible refine kAlloc ?_ _ | with_reducible refine Below.drew ?_ | with_reducible refine kDrewN ?_ _ | with_reducible refine kTrans ?_ (by assumption))⟩
  | true =>
    have hmp := machOk_parts HM.out.symm
    rw [Hm.out, Hn.out, Hr.out] at hmp
    have h6 := hmp.2.1.2.1.2
    have hr8 := hmp.2.1.2.2.2
    have hr1 := hmp.2.1.2.2.1
    have h60 := hmp.2.1.1
    have Hf := Lib.hid (HFF.out rfl)
    obtain ⟨hN64, hN1, hpn⟩ := pow_N h6 HNN.out
    clear hmp HFF
    cases O with
    | false =>
      obtain ⟨rfl, rfl⟩ := pair_RW (show ((0 : Int), (2 : Int)) = (E, C) from HQ.out)
      go_enter Tryz.func26, Tryz.ntmps26
      go_wp2_with fail
      refine HV.out.mono ?_
      rintro e w1 ⟨h1, _, hb1⟩
      obtain ⟨B, rfl, hmpB⟩ := h1 rfl
      have T1 := kTrans ka hb1
      have HMp := Lib.hid hmpB
      clear HV h1 hb1 hmpB
      obtain ⟨W, hW⟩ : ∃ W, w1.alloc (.cells #[.int .i8 wd, .int .i8 hi, .map (some B), .int .i8 wd, .int .i8 hi, .slice (some ⟨b, 0, none⟩) m m, .slice (some ⟨k, 0, none⟩) n n, .slice (some ⟨q, 0, none⟩) r r] 79) = W := ⟨_, rfl⟩
      have kW : Below w1.heap.size w1 W := by rw [← hW]; exact kAlloc (Below.refl _ _) _
      have bD : W.heap[w1.heap.size]? = some (.cells #[.int .i8 wd, .int .i8 hi, .map (some B), .int .i8 wd, .int .i8 hi, .slice (some ⟨b, 0, none⟩) m m, .slice (some ⟨k, 0, none⟩) n n, .slice (some ⟨q, 0, none⟩) r r] 79 (0, 0)) := by rw [← hW]; exact heap_alloc_new _ _
      have HD := Lib.hid (fun W2 (h2 : Below w1.heap.size w1 W2) => (⟨HMp.out.below h2, HP.out _ (kTrans T1 h2), HG.out _ (kTrans T1 h2), HC.out _ (kTrans T1 h2), Nat.lt_of_lt_of_le zb (kTrans T1 h2).size, Nat.lt_of_lt_of_le zk (kTrans T1 h2).size, Nat.lt_of_lt_of_le zq (kTrans T1 h2).size, HS.out _ (kTrans T1 h2)⟩ : DvAt W2 B b k q l p c))
      have HW := Lib.hid hW
      have lD := blk_lt bD
      have BD := Lib.hid (fun W2 (h2 : Below W.heap.size W W2) => blk_below bD h2)
      have c0 : W.cell? ⟨w1.heap.size, 0, none⟩ = some (.int .i8 wd) := cell_of_row _ _ 0 _ _ _ (bD)
      have c1 : W.cell? ⟨w1.heap.size, 1, none⟩ = some (.int .i8 hi) := cell_of_row _ _ 1 _ _ _ (bD)
      have c2 : W.cell? ⟨w1.heap.size, 2, none⟩ = some (.map (some B)) := cell_of_row _ _ 2 _ _ _ (bD)
      have c3 : W.cell? ⟨w1.heap.size, 3, none⟩ = some (.int .i8 wd) := cell_of_row _ _ 3 _ _ _ (bD)
      have c4 : W.cell? ⟨w1.heap.size, 4, none⟩ = some (.int .i8 hi) := cell_of_row _ _ 4 _ _ _ (bD)
      have c5 : W.cell? ⟨w1.heap.size, 5, none⟩ = some (.slice (some ⟨b, 0, none⟩) m m) := cell_of_row _ _ 5 _ _ _ (bD)
      have c6 : W.cell? ⟨w1.heap.size, 6, none⟩ = some (.slice (some ⟨k, 0, none⟩) n n) := cell_of_row _ _ 6 _ _ _ (bD)
      have c7 : W.cell? ⟨w1.heap.size, 7, none⟩ = some (.slice (some ⟨q, 0, none⟩) r r) := cell_of_row _ _ 7 _ _ _ (bD)
      clear hW bD
      go_upto_region 2 with fail
      try rw [HW.out]
      clear HW
      go_wp2_with fail
      refine (isBelow8_any x r _ hr8 false HO.out).mono ?_
      rintro e w' ⟨rfl, rfl⟩
      have T2 := kTrans T1 kW
      clear c0 c1 c2 c3 c4 c5 c6 c7
      go_wp2
      exact bodyPost_ret (v := .tuple #[.int .i64 0, .int .i64 2]) (by simp [results, Tryz.results26, go_sem]) rfl ⟨rfl, T2⟩
    | true =>
      go_enter Tryz.func26, Tryz.ntmps26
      go_wp2_with fail
      refine HV.out.mono ?_
      rintro e w1 ⟨h1, _, hb1⟩
      obtain ⟨B, rfl, hmpB⟩ := h1 rfl
      have T1 := kTrans ka hb1
      have HMp := Lib.hid hmpB
      clear HV h1 hb1 hmpB
      obtain ⟨W, hW⟩ : ∃ W, w1.alloc (.cells #[.int .i8 wd, .int .i8 hi, .map (some B), .int .i8 wd, .int .i8 hi, .slice (some ⟨b, 0, none⟩) m m, .slice (some ⟨k, 0, none⟩) n n, .slice (some ⟨q, 0, none⟩) r r] 79) = W := ⟨_, rfl⟩
      have kW : Below w1.heap.size w1 W := by rw [← hW]; exact kAlloc (Below.refl _ _) _
      have bD : W.heap[w1.heap.size]? = some (.cells #[.int .i8 wd, .int .i8 hi, .map (some B), .int .i8 wd, .int .i8 hi, .slice (some ⟨b, 0, none⟩) m m, .slice (some ⟨k, 0, none⟩) n n, .slice (some ⟨q, 0, none⟩) r r] 79 (0, 0)) := by rw [← hW]; exact heap_alloc_new _ _
      have HD := Lib.hid (fun W2 (h2 : Below w1.heap.size w1 W2) => (⟨HMp.out.below h2, HP.out _ (kTrans T1 h2), HG.out _ (kTrans T1 h2), HC.out _ (kTrans T1 h2), Nat.lt_of_lt_of_le zb (kTrans T1 h2).size, Nat.lt_of_lt_of_le zk (kTrans T1 h2).size, Nat.lt_of_lt_of_le zq (kTrans T1 h2).size, HS.out _ (kTrans T1 h2)⟩ : DvAt W2 B b k q l p c))
      have HW := Lib.hid hW
      have lD := blk_lt bD
      have BD := Lib.hid (fun W2 (h2 : Below W.heap.size W W2) => blk_below bD h2)
      have c0 : W.cell? ⟨w1.heap.size, 0, none⟩ = some (.int .i8 wd) := cell_of_row _ _ 0 _ _ _ (bD)
      have c1 : W.cell? ⟨w1.heap.size, 1, none⟩ = some (.int .i8 hi) := cell_of_row _ _ 1 _ _ _ (bD)
      have c2 : W.cell? ⟨w1.heap.size, 2, none⟩ = some (.map (some B)) := cell_of_row _ _ 2 _ _ _ (bD)
      have c3 : W.cell? ⟨w1.heap.size, 3, none⟩ = some (.int .i8 wd) := cell_of_row _ _ 3 _ _ _ (bD)
      have c4 : W.cell? ⟨w1.heap.size, 4, none⟩ = some (.int .i8 hi) := cell_of_row _ _ 4 _ _ _ (bD)
      have c5 : W.cell? ⟨w1.heap.size, 5, none⟩ = some (.slice (some ⟨b, 0, none⟩) m m) := cell_of_row _ _ 5 _ _ _ (bD)
      have c6 : W.cell? ⟨w1.heap.size, 6, none⟩ = some (.slice (some ⟨k, 0, none⟩) n n) := cell_of_row _ _ 6 _ _ _ (bD)
      have c7 : W.cell? ⟨w1.heap.size, 7, none⟩ = some (.slice (some ⟨q, 0, none⟩) r r) := cell_of_row _ _ 7 _ _ _ (bD)
      clear hW bD
      go_upto_region 2 with fail
      try rw [HW.out]
      clear HW
      go_wp2_with fail
      refine (isBelow8_any x r _ hr8 true HO.out).mono ?_
      rintro e w' ⟨rfl, rfl⟩
      have HA := Lib.hid (answers_any B b k q m n r wd hi l p c W (HD.out _ kW) Hm.out Hn.out Hr.out h6 hr8 F Hf.out N HNN.out)
      go_wp2_with fail
      refine HA.out.mono ?_
      rintro e w3 ⟨v, rfl, hown, hb3⟩
      obtain ⟨va, vc, rfl⟩ := owns_slice hown
      have hs := (SlWIn.of_owns hown).sl
      obtain ⟨f, hf⟩ : ∃ f, firstI x (ansL l c F N) 0 = f := ⟨_, rfl⟩
      have hq := HQ.out
      rw [hf] at hq
      have HQ2 := Lib.hid (show (if f < 0 then ((0 : Int), (6 : Int)) else (f, 0)) = (E, C) from hq)
      have HA2 := Lib.hid (ansL_length l c F N)
      obtain ⟨A, hA⟩ : ∃ A, ansL l c F N = A := ⟨_, rfl⟩
      rw [hA] at hs hf HA2
      obtain ⟨g, o, rfl, hI, hgl, hcl, -⟩ := slIn_some hs (by rw [HA2.out]; omega)
      rw [HA2.out] at hcl
      have HI := Lib.hid (index_any g o N vc A x w3 HA2.out hI hgl hcl (by omega) f hf)
      have hge := firstI_ge x A 0
      rw [hf] at hge
      have T3 := kTrans (kTrans T1 kW) hb3
      clear c0 c1 c2 c3 c4 c5 c6 c7 HA HQ hq hs hf hA hI hown hb3
      go_wp2_with fail
      refine HI.out.mono ?_
      rintro e w' ⟨rfl, rfl⟩
      by_cases h0 : f < 0
      · obtain ⟨rfl, rfl⟩ := pair_RW (show ((0 : Int), (6 : Int)) = (E, C) by rw [← HQ2.out, if_pos h0])
        have h0' : decide (f < 0) = true := by simpa using h0
        clear HI HQ2
        go_wp2
        exact bodyPost_ret (v := .tuple #[.int .i64 0, .int .i64 6]) (by simp [results, Tryz.results26, go_sem]) rfl ⟨rfl, T3⟩
      · obtain ⟨rfl, rfl⟩ := pair_RW (show (f, (0 : Int)) = (E, C) by rw [← HQ2.out, if_neg h0])
        have h0' : decide (f < 0) = false := by simpa using h0
        clear HI HQ2
        go_wp2
        exact bodyPost_ret (v := .tuple #[.int .i64 f, .int .i64 0]) (by simp [results, Tryz.results26, go_sem]) rfl ⟨rfl, T3⟩
set_option maxRecDepth 100000 in
set_option maxHeartbeats 16000000 in
theorem specRowWith_any (b k q m n r : Nat) (wd hi : Int) (l : List Pc) (p : List Po) (c : List Cl) (w : World) (hp : PcsAt w b 0 l) (hg : PosAt w k 0 p) (hj : ClsAt w q 0 c) (zb : b < w.heap.size) (zk : k < w.heap.size) (zq : q < w.heap.size)
    (hm : l.length = m) (hn : p.length = n) (hr : c.length = r) (h8 : All8 l) (hw : PosWf p) (bw : i8 wd) (bh : i8 hi) (m0 : m ≤ 1048576) (m1 : n ≤ 1048576) (m2 : r ≤ 1048576) (M : Bool) (hM : M = machOk wd hi l p c) (F : Nat → List Fl) (hF : M = true → AnsAt wd hi l p c n F) (N : Nat) (hN : 2 ^ n = N) (x : Int) (wx : (Lit.int .i64 x).wf = true) (O : Bool) (hO : O = decide (0 ≤ x ∧ x < 2 ^ r)) (E C : Int) (hQ : rwQ M O (firstI x (ansL l c F N) 0) = (E, C)) :
    Calls Tryz.prog 25 #[.agg #[.int .i8 wd, .int .i8 hi, .slice (some ⟨b, 0, none⟩) m m, .slice (some ⟨k, 0, none⟩) n n, .slice (some ⟨q, 0, none⟩) r r], .int .i64 x] w (fun e w' => e = .returned (.tuple #[.int .i64 E, .int .i64 C]) ∧ Below w.heap.size w w') := by
  obtain ⟨W, hW⟩ : ∃ W, w.alloc (.cells #[.int .i8 wd, .int .i8 hi, .slice (some ⟨b, 0, none⟩) m m, .slice (some ⟨k, 0, none⟩) n n, .slice (some ⟨q, 0, none⟩) r r] 40) = W := ⟨_, rfl⟩
  have kW : Below w.heap.size w W := by rw [← hW]; exact kAlloc (Below.refl _ _) _
  have bm : McAt W w.heap.size wd hi (.slice (some ⟨b, 0, none⟩) m m) (.slice (some ⟨k, 0, none⟩) n n) (.slice (some ⟨q, 0, none⟩) r r) := by rw [← hW]; exact McAt.box _ _ _ _ _ _ _
  have lD := bm.lt
  have HM0 := Lib.hid (fun W2 (h2 : Below W.heap.size W W2) => bm.below h2 lD)
  have HV := Lib.hid (l03Ok_any w.heap.size b k q m n r wd hi l p c W hm hn hr bm (hp.below kW zb) (hg.below kW zk) (hj.below kW zq) (Nat.lt_of_lt_of_le zb kW.size) (Nat.lt_of_lt_of_le zk kW.size) (Nat.lt_of_lt_of_le zq kW.size) h8 hw bw bh m0 m1 m2 M hM)
  have HP := Lib.hid (fun W (h : Below w.heap.size w W) => hp.below h zb)
  have HG := Lib.hid (fun W (h : Below w.heap.size w W) => hg.below h zk)
  have HC := Lib.hid (fun W (h : Below w.heap.size w W) => hj.below h zq)
  have HFF := Lib.hid hF
  have HNN := Lib.hid hN
  have HM := Lib.hid hM
  have Hn := Lib.hid hn
  have Hm := Lib.hid hm
  have Hr := Lib.hid hr
  have HO := Lib.hid hO
  have HQ := Lib.hid hQ
  have HW := Lib.hid hW
  obtain ⟨x0, x1, x2, x3, x4⟩ := bm
  clear hp hg hj h8 hw hM hn hm hr hF hN hW hO hQ
  cases M with
  | false =>
    obtain ⟨rfl, rfl⟩ := pair_RW (show ((0 : Int), (1 : Int)) = (E, C) from HQ.out)
    clear HQ HO HP HG HC HFF HM HNN
    go_enter Tryz.func25, Tryz.ntmps25
    go_upto_region 1 with fail
    try rw [HW.out]
    go_wp2_with fail
    refine HV.out.mono ?_
    rintro e w1 ⟨rfl, hb1⟩
    have T1 := kTrans kW hb1
    clear HV hb1 x0 x1 x2 x3 x4
    go_wp2
    exact bodyPost_ret (v := .tuple #[.int .i64 0, .int .i64 1]) (by simp [results, Tryz.results25, go_sem]) rfl ⟨rfl, by repeat (first | with_reducible exact Below.refl _ _ | (with_reducible refine kSet ?_ ?hB _; case hB => (simp; try omega)) | with_reducible refine kAlloc ?_ _ | with_reducible refine Below.drew ?_ | with_reducible refine kDrewN ?_ _ | with_reducible refine kTrans ?_ (by assumption))⟩
  | true =>
    have hmp := machOk_parts HM.out.symm
    rw [Hm.out, Hn.out, Hr.out] at hmp
    have h6 := hmp.2.1.2.1.2
    have hr8 := hmp.2.1.2.2.2
    have hr1 := hmp.2.1.2.2.1
    have Hf := Lib.hid (HFF.out rfl)
    obtain ⟨hN64, hN1, hpn⟩ := pow_N h6 HNN.out
    clear hmp HFF
    obtain ⟨pr, hpr⟩ : ∃ pr : Int, (2 : Int) ^ r = pr := ⟨_, rfl⟩
    have hpr1 : 1 ≤ pr ∧ pr ≤ 256 := by
      rw [← hpr]
      have hc : r = 0 ∨ r = 1 ∨ r = 2 ∨ r = 3 ∨ r = 4 ∨ r = 5 ∨ r = 6 ∨ r = 7 ∨ r = 8 := by omega
      rcases hc with rfl | rfl | rfl | rfl | rfl | rfl | rfl | rfl | rfl <;> decide
    have hO2 := HO.out
    rw [hpr, row_range] at hO2
    have HO2 := Lib.hid hO2
    have HSH := Lib.hid (wrap_two hr8 hpr)
    have HW2 := Lib.hid (wrap_pred hpr1)
    clear hO2 HO hpr hpn
    cases O with
    | false =>
      obtain ⟨rfl, rfl⟩ := pair_RW (show ((0 : Int), (2 : Int)) = (E, C) from HQ.out)
      go_enter Tryz.func25, Tryz.ntmps25
      go_upto_region 1 with fail
      try rw [HW.out]
      go_wp2_with fail
      refine HV.out.mono ?_
      rintro e w1 ⟨rfl, hb1⟩
      have T1 := kTrans kW hb1
      clear HV HW x0 x1 x2 x3 x4
      obtain ⟨x0, x1, x2, x3, x4⟩ := HM0.out w1 hb1
      have l1 := Nat.lt_of_lt_of_le lD hb1.size
      go_wp2_with fail
      rw [HSH.out, HW2.out]
      refine (l00In_any x 0 (pr - 1) _ false HO2.out).mono ?_
      rintro e w' ⟨rfl, rfl⟩
      clear x0 x1 x2 x3 x4
      go_wp2
      exact bodyPost_ret (v := .tuple #[.int .i64 0, .int .i64 2]) (by simp [results, Tryz.results25, go_sem]) rfl ⟨rfl, T1⟩
    | true =>
      go_enter Tryz.func25, Tryz.ntmps25
      go_upto_region 1 with fail
      try rw [HW.out]
      go_wp2_with fail
      refine HV.out.mono ?_
      rintro e w1 ⟨rfl, hb1⟩
      have T1 := kTrans kW hb1
      clear HV HW x0 x1 x2 x3 x4
      obtain ⟨x0, x1, x2, x3, x4⟩ := HM0.out w1 hb1
      have l1 := Nat.lt_of_lt_of_le lD hb1.size
      go_wp2_with fail
      rw [HSH.out, HW2.out]
      refine (l00In_any x 0 (pr - 1) _ true HO2.out).mono ?_
      rintro e w' ⟨rfl, rfl⟩
      have HA := Lib.hid (l03All_any w.heap.size b k q m n r wd hi l p c w1 (HM0.out _ hb1) (HP.out _ T1) (HG.out _ T1) (HC.out _ T1) (Nat.lt_of_lt_of_le zb T1.size) (Nat.lt_of_lt_of_le zk T1.size) (Nat.lt_of_lt_of_le zq T1.size) Hm.out Hn.out Hr.out h6 hr8 F Hf.out N HNN.out)
      clear x0 x1 x2 x3 x4
      go_wp2_with fail
      refine HA.out.mono ?_
      rintro e w3 ⟨v, rfl, hown, hnn, hb3⟩
      obtain ⟨va, vc, rfl⟩ := owns_slice hown
      have hs := (SlWIn.of_owns hown).sl
      obtain ⟨f, hf⟩ : ∃ f, firstI x (ansL l c F N) 0 = f := ⟨_, rfl⟩
      have hq := HQ.out
      rw [hf] at hq
      have HQ2 := Lib.hid (show (if f < 0 then ((0 : Int), (6 : Int)) else (f, 0)) = (E, C) from hq)
      have HA2 := Lib.hid (ansL_length l c F N)
      obtain ⟨A, hA⟩ : ∃ A, ansL l c F N = A := ⟨_, rfl⟩
      rw [hA] at hs hf HA2
      obtain ⟨g, o, rfl, hI, hgl, hcl, -⟩ := slIn_some hs (by rw [HA2.out]; omega)
      rw [HA2.out] at hcl
      have HI := Lib.hid hI
      have HF0 : Hid (firstI x (A.drop 0) (0 : Nat) = f) := Lib.hid hf
      have T3 := kTrans T1 hb3
      clear HA HQ hq hs hf hA hI hown hb3 hnn
      go_wp2
      go_loopw [7] (fun i wr => ∃ j : Nat, j ≤ N ∧ i = .int .i64 j ∧ Hid (firstI x (A.drop j) (j : Nat) = f) ∧ w3 = wr) (fun i _ => N - (intOf i).toNat)
      case atStart => exact ⟨0, by omega, rfl, HF0, rfl⟩
      case round =>
        clear HF0
        obtain ⟨j, hj, rfl, hf, rfl⟩ := hrel
        by_cases hlt : j < N
        · have hlk : j < A.length := by rw [HA2.out]; exact hlt
          have cj := HI.out j hlk
          have hf2 := hf.out
          rw [List.drop_eq_getElem_cons hlk] at hf2
          generalize A[j] = y at cj hf2
          unfold firstI at hf2
          clear hf
          by_cases he : x = y
          · have he2 : (y == x) = true := by simp [he]
            rw [if_pos he] at hf2
            have HQ3 := HQ2.out
            rw [← hf2, if_neg (by omega)] at HQ3
            obtain ⟨rfl, rfl⟩ := pair_RW HQ3
            clear hf2 he HQ2 HI
            go_wp2
            exact bodyPost_ret (v := .tuple #[.int .i64 j, .int .i64 0]) (by simp [results, Tryz.results25, go_sem]) rfl ⟨rfl, T3⟩
          · have he2 : (y == x) = false := by simp; exact fun h => he h.symm
            rw [if_neg he] at hf2
            have HF : Hid (firstI x (A.drop (j + 1)) ((j + 1 : Nat) : Int) = f) := Lib.hid (by rw [← hf2]; rfl)
            clear hf2 he
            go_wp2
            exact ⟨⟨j + 1, by omega, by go_num, HF, trivial⟩, by simp [intOf]; omega⟩
        · obtain rfl : j = N := by omega
          obtain rfl : f = -1 := by rw [← hf.out, List.drop_of_length_le (by rw [HA2.out]; exact Nat.le_refl _)]; rfl
          obtain ⟨rfl, rfl⟩ := pair_RW (show ((0 : Int), (6 : Int)) = (E, C) by rw [← HQ2.out, if_pos (by decide)])
          clear hf HQ2
          go_wp2
          exact bodyPost_ret (v := .tuple #[.int .i64 0, .int .i64 6]) (by simp [results, Tryz.results25, go_sem]) rfl ⟨rfl, T3⟩
end Go.Proofs.YtcafoppnnlfmmaaGreatDoor
