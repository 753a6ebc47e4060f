/- EvalNetwork: both sides. -/
import Derived.Test.YtlbnhdnmcnfgdaaNo2
namespace Go.Proofs.Ytlbnhdnmcnfgdaa
open Go.ChangeShapes Go.WideShapes Go.ChangeAt Go.RowKit Go.Joins Go.Deep
set_option linter.unusedVariables false
set_option linter.unusedSimpArgs false

/-- one output more -/
def stepE (t a : Int) (row j : Nat) : Int := Go.bits .or .i64 a (wrap64 (wrap64 (Go.bits .and .u64 (t / 2 ^ row) 1) * 2 ^ j))
def evB (row : Nat) : List Int → Nat → Int → Int
  | [], _, a => a
  | t :: l, j, a => evB row l (j + 1) (stepE t a row j)
def evQ (R O : Bool) (n : Nat) (row : Int) (l : List Nd) (p : List Int) : Int × Int := match R, O with
  | true, true => (evB row.toNat (pickT (tabsL n l []) p) 0 0, 0)
  | true, false => (0, 2)
  | false, _ => (0, 1)
theorem pair_EE {a c b d : Int} (h : (a, b) = (c, d)) : a = c ∧ b = d := by injection h with h1 h2; exact ⟨h1, h2⟩
theorem nBelow_key (row : Int) (w : World) (c m : Int) (hc : c = 0 ∧ m = 1 ∨ c = 1 ∧ m = 2 ∨ c = 2 ∧ m = 4 ∨ c = 3 ∧ m = 8 ∨ c = 4 ∧ m = 16 ∨ c = 5 ∧ m = 32 ∨ c = 6 ∧ m = 64) (b : Bool) (hb : b = decide (0 ≤ row ∧ row < m)) :
    Calls Try.prog 62 #[.int .i64 row, .int .i64 c] w fun e w' => e = .returned (.bool b) ∧ w = w' := by
  by_cases h1 : 0 ≤ row
  · by_cases h2 : row < m
    · obtain rfl : b = true := by rw [hb]; simp [h1, h2]
      clear hb
      rcases hc with ⟨rfl, rfl⟩ | ⟨rfl, rfl⟩ | ⟨rfl, rfl⟩ | ⟨rfl, rfl⟩ | ⟨rfl, rfl⟩ | ⟨rfl, rfl⟩ | ⟨rfl, rfl⟩ <;> (go_enter Try.func62, Try.ntmps62; go_wp2; go_ret; exact ⟨rfl, rfl⟩)
    · obtain rfl : b = false := by rw [hb]; simp [h2]
      clear hb
      have h3 : decide (row < m) = false := by simpa using h2
      rcases hc with ⟨rfl, rfl⟩ | ⟨rfl, rfl⟩ | ⟨rfl, rfl⟩ | ⟨rfl, rfl⟩ | ⟨rfl, rfl⟩ | ⟨rfl, rfl⟩ | ⟨rfl, rfl⟩ <;> (go_enter Try.func62, Try.ntmps62; go_wp2; go_ret; exact ⟨rfl, rfl⟩)
  · obtain rfl : b = false := by rw [hb]; simp [h1]
    have h1' : decide (0 ≤ row) = false := by simp; omega
    clear hb h1 hc
    go_enter Try.func62, Try.ntmps62
    go_wp2
    go_ret
    exact ⟨rfl, rfl⟩
theorem npow_key {n : Nat} (hn : n ≤ 6) : (n : Int) = 0 ∧ (2 : Int) ^ n = 1 ∨ (n : Int) = 1 ∧ (2 : Int) ^ n = 2 ∨ (n : Int) = 2 ∧ (2 : Int) ^ n = 4 ∨ (n : Int) = 3 ∧ (2 : Int) ^ n = 8 ∨ (n : Int) = 4 ∧ (2 : Int) ^ n = 16 ∨ (n : Int) = 5 ∧ (2 : Int) ^ n = 32 ∨ (n : Int) = 6 ∧ (2 : Int) ^ n = 64 := by
  have hc : n = 0 ∨ n = 1 ∨ n = 2 ∨ n = 3 ∨ n = 4 ∨ n = 5 ∨ n = 6 := by omega
  rcases hc with rfl | rfl | rfl | rfl | rfl | rfl | rfl <;> decide
theorem nBelow0_any (row : Int) (n : Nat) (w : World) (hn : n ≤ 6) (b : Bool) (hb : b = decide (0 ≤ row ∧ row < 2 ^ n)) :
    Calls Try.prog 62 #[.int .i64 row, .int .i64 n] w fun e w' => e = .returned (.bool b) ∧ w = w' :=
  nBelow_key row w n (2 ^ n) (npow_key hn) b hb
theorem nBelow_any (row : Int) (n : Nat) (w : World) (hn : 1 ≤ n ∧ n ≤ 6) (b : Bool) (hb : b = decide (0 ≤ row ∧ row < 2 ^ n)) :
    Calls Try.prog 62 #[.int .i64 row, .int .i64 n] w fun e w' => e = .returned (.bool b) ∧ w = w' := nBelow0_any row n w hn.2 b hb
theorem pow6_int {n : Nat} (hn : 1 ≤ n ∧ n ≤ 6) : 2 ≤ (2 : Int) ^ n ∧ (2 : Int) ^ n ≤ 64 ∧ ((2 ^ n : Nat) : Int) = 2 ^ n := by
  have : n = 1 ∨ n = 2 ∨ n = 3 ∨ n = 4 ∨ n = 5 ∨ n = 6 := by omega
  rcases this with rfl | rfl | rfl | rfl | rfl | rfl <;> decide
set_option maxRecDepth 100000 in
set_option maxHeartbeats 8000000 in
theorem implEvalNetwork_any (b k : Nat) (ni row : Int) (l : List Nd) (p : List Int) (w : World) (h : NK w b k l p) (h8 : NdsWf l) (h9 : ShsWf p) (bw : i8 ni) (m0 : l.length ≤ 1048576) (m1 : p.length ≤ 1048576) (R O : Bool) (hR : R = netOk ni l p) (hO : O = decide (0 ≤ row ∧ row < 2 ^ ni.toNat)) (E C : Int) (hQ : evQ R O ni.toNat row l p = (E, C)) :
    Calls Try.prog 20 #[.agg #[.int .i8 ni, .slice (some ⟨b, 0, none⟩) l.length l.length, .slice (some ⟨k, 0, none⟩) p.length p.length], .int .i64 row] w fun e w' => e = .returned (.tuple #[.int .i64 E, .int .i64 C]) ∧ Below w.heap.size w w' := by
  have ka : Below w.heap.size w (w.alloc (.cells #[.int .i8 ni, .slice (some ⟨b, 0, none⟩) l.length l.length, .slice (some ⟨k, 0, none⟩) p.length p.length] 31)) := by repeat (first | with_reducible exact Below.refl _ _ | (with_reducible refine kSet ?_ ?hB _; case hB => (simp; try omega)) | with_reducible refine kAlloc ?_ _ | with_reducible refine Below.drew ?_ | with_reducible refine kDrewN ?_ _ | with_reducible refine kTrans ?_ (by assumption))
  have bx := NwAt.box w ni (.slice (some ⟨b, 0, none⟩) l.length l.length) (.slice (some ⟨k, 0, none⟩) p.length p.length) 31
  have HV := Lib.hid (implValidNetwork_any b k ni l p _ (h.below ka) h8 h9 bw m0 m1 R hR)
  have lb := bx.lt
  cases R with
  | false =>
    obtain ⟨rfl, rfl⟩ := pair_EE (show ((0 : Int), (1 : Int)) = (E, C) from hQ)
    clear h h8 h9 hR hQ bx
    go_enter Try.func20, Try.ntmps20
    go_wp2_with fail
    refine HV.out.mono ?_
    rintro e w1 ⟨rfl, hb1⟩
    have T1 := kTrans ka hb1
    clear HV
    go_wp2
    exact bodyPost_ret (v := .tuple #[.int .i64 0, .int .i64 1]) (by simp [results, Try.results20, go_sem]) rfl ⟨rfl, T1⟩
  | true =>
    have hp := netOk_parts hR.symm
    have hni := hp.1
    obtain ⟨n, rfl⟩ : ∃ n : Nat, ni = n := ⟨ni.toNat, by omega⟩
    rw [Int.toNat_natCast] at hO hQ
    have hn : 1 ≤ n ∧ n ≤ 6 := by omega
    have hwn : IntKind.i64.wrap (n : Int) = n := IntWalk.i64_in _ (by omega)
    obtain ⟨pw2, pw64, pwc⟩ := pow6_int hn
    by_cases hrow : 0 ≤ row ∧ row < 2 ^ n
    · obtain rfl : O = true := by rw [hO]; simpa using hrow
      obtain ⟨rw_, rfl⟩ : ∃ r : Nat, row = r := ⟨row.toNat, by omega⟩
      obtain ⟨L, hL⟩ : ∃ L, pickT (tabsL n l []) p = L := ⟨_, rfl⟩
      obtain ⟨hE, rfl⟩ := pair_EE (show (evB rw_ (pickT (tabsL n l []) p) 0 0, (0 : Int)) = (E, C) from hQ)
      rw [hL] at hE
      have HE0 : Hid (evB rw_ (L.drop 0) 0 0 = E) := Lib.hid hE
      have hLl : L.length = p.length := by rw [← hL, pickT_length]
      have hru : IntKind.u64.wrap (rw_ : Int) = rw_ := IntWalk.u64_in _ (by omega)
      obtain ⟨q, hq⟩ : ∃ q, p.length = q := ⟨_, rfl⟩
      have hq8 : q ≤ 8 := by omega
      have HLl := Lib.hid (hLl.trans hq)
      have Hpos := Lib.hid (show 0 < L.length by omega)
      have HT := Lib.hid (fun W (hW : Below w.heap.size w W) => outputTables_any n b k l p W (h.below hW) hR.symm L hL)
      have BX := Lib.hid bx
      have hrow2 := hrow.2
      clear h h8 h9 hR hQ bx hL hni hO hp hLl hq hE hrow
      go_enter Try.func20, Try.ntmps20
      go_wp2_with fail
      refine HV.out.mono ?_
      rintro e w1 ⟨rfl, hb1⟩
      have T1 := kTrans ka hb1
      obtain ⟨x0, x1, x2⟩ := BX.out.below hb1 lb
      go_wp2_with fail
      refine (nBelow_any _ n _ hn true (by symm; simpa using hrow2)).mono ?_
      rintro e w1' ⟨rfl, rfl⟩
      clear hb1 BX lb
      go_wp2_with fail
      refine (HT.out _ T1).mono ?_
      rintro e w2 ⟨v, rfl, hv, hb2⟩
      have T2 := kTrans T1 hb2
      obtain ⟨va, vc, rfl⟩ := hv.form
      obtain ⟨g, o, rfl, hc, hg, hle, _⟩ := slUs_some hv.sl Hpos.out
      have HC := Lib.hid hc
      rw [HLl.out] at hle ⊢
      clear hv hb2 hc x0 x1 x2 HV
      go_wp2
      go_loopw [6, 7, 8, 21] (fun x _ _ i wr => ∃ (j : Nat) (a : Int), j ≤ q ∧ i = .int .i64 j ∧ x = .int .i64 a ∧ Hid (evB rw_ (L.drop j) j a = E) ∧ w2 = wr) (fun _ _ _ i _ => q - (intOf i).toNat)
      case atStart => exact ⟨0, 0, by omega, rfl, rfl, HE0, rfl⟩
      case round =>
        clear HE0
        obtain ⟨j, a, hj, rfl, rfl, hf, rfl⟩ := hrel
        by_cases hlt : j < q
        · have hlL : j < L.length := by rw [HLl.out]; exact hlt
          have ht := HC.out j hlL
          have hd : L.drop j = L[j] :: L.drop (j + 1) := List.drop_eq_getElem_cons hlL
          have hju : IntKind.u64.wrap (j : Int) = j := IntWalk.u64_in _ (by omega)
          have hq2 := hf.out
          rw [hd] at hq2
          generalize L[j] = t at ht hq2
          have hF : Hid (evB rw_ (L.drop (j + 1)) (j + 1) (stepE t a rw_ j) = E) := Lib.hid hq2
          clear hq2 hd hf
          go_wp2
          exact ⟨⟨j + 1, _, by omega, by go_num, rfl, hF, trivial⟩, by simp [intOf]; omega⟩
        · have hEa : a = E := by rw [← hf.out, List.drop_of_length_le (by rw [HLl.out]; omega)]; rfl
          subst hEa
          clear hf
          go_wp2
          exact bodyPost_ret (v := .tuple #[.int .i64 a, .int .i64 0]) (by simp [results, Try.results20, go_sem]) rfl ⟨rfl, T2⟩
    · obtain rfl : O = false := by rw [hO]; simpa using hrow
      obtain ⟨rfl, rfl⟩ := pair_EE (show ((0 : Int), (2 : Int)) = (E, C) from hQ)
      have BX := Lib.hid bx
      clear h h8 h9 hR hQ bx hni hO hp
      go_enter Try.func20, Try.ntmps20
      go_wp2_with fail
      refine HV.out.mono ?_
      rintro e w1 ⟨rfl, hb1⟩
      have T1 := kTrans ka hb1
      obtain ⟨x0, x1, x2⟩ := BX.out.below hb1 lb
      go_wp2_with fail
      refine (nBelow_any _ n _ hn false (by symm; simpa using hrow)).mono ?_
      rintro e w1' ⟨rfl, rfl⟩
      clear x0 x1 x2 HV
      go_wp2
      exact bodyPost_ret (v := .tuple #[.int .i64 0, .int .i64 2]) (by simp [results, Try.results20, go_sem]) rfl ⟨rfl, T1⟩
set_option maxRecDepth 100000 in
set_option maxHeartbeats 8000000 in
theorem specEvalNetwork_any (b k : Nat) (ni row : Int) (l : List Nd) (p : List Int) (w : World) (h : NK w b k l p) (h8 : NdsWf l) (h9 : ShsWf p) (bw : i8 ni) (m0 : l.length ≤ 1048576) (m1 : p.length ≤ 1048576) (R O : Bool) (hR : R = netOk ni l p) (hO : O = decide (0 ≤ row ∧ row < 2 ^ ni.toNat)) (E C : Int) (hQ : evQ R O ni.toNat row l p = (E, C)) :
    Calls Try.prog 19 #[.agg #[.int .i8 ni, .slice (some ⟨b, 0, none⟩) l.length l.length, .slice (some ⟨k, 0, none⟩) p.length p.length], .int .i64 row] w fun e w' => e = .returned (.tuple #[.int .i64 E, .int .i64 C]) ∧ Below w.heap.size w w' := by
  have ka : Below w.heap.size w (w.alloc (.cells #[.int .i8 ni, .slice (some ⟨b, 0, none⟩) l.length l.length, .slice (some ⟨k, 0, none⟩) p.length p.length] 31)) := by repeat (first | with_reducible exact Below.refl _ _ | (with_reducible refine kSet ?_ ?hB _; case hB => (simp; try omega)) | with_reducible refine kAlloc ?_ _ | with_reducible refine Below.drew ?_ | with_reducible refine kDrewN ?_ _ | with_reducible refine kTrans ?_ (by assumption))
  have bx := NwAt.box w ni (.slice (some ⟨b, 0, none⟩) l.length l.length) (.slice (some ⟨k, 0, none⟩) p.length p.length) 31
  have HV := Lib.hid (l04Ok_any w.heap.size b k ni l p _ bx (h.below ka) h8 h9 bw m0 m1 R hR)
  have lb := bx.lt
  cases R with
  | false =>
    obtain ⟨rfl, rfl⟩ := pair_EE (show ((0 : Int), (1 : Int)) = (E, C) from hQ)
    clear h h8 h9 hR hQ bx
    go_enter Try.func19, Try.ntmps19
    go_wp2_with fail
    refine HV.out.mono ?_
    rintro e w1 ⟨rfl, hb1⟩
    have T1 := kTrans ka hb1
    clear HV
    go_wp2
    exact bodyPost_ret (v := .tuple #[.int .i64 0, .int .i64 1]) (by simp [results, Try.results19, go_sem]) rfl ⟨rfl, T1⟩
  | true =>
    have hp := netOk_parts hR.symm
    have hni := hp.1
    obtain ⟨n, rfl⟩ : ∃ n : Nat, ni = n := ⟨ni.toNat, by omega⟩
    rw [Int.toNat_natCast] at hO hQ
    have hn : 1 ≤ n ∧ n ≤ 6 := by omega
    have hwn : IntKind.i64.wrap (n : Int) = n := IntWalk.i64_in _ (by omega)
    obtain ⟨pw2, pw64, pwc⟩ := pow6_int hn
    by_cases hrow : 0 ≤ row ∧ row < 2 ^ n
    · obtain rfl : O = true := by rw [hO]; simpa using hrow
      obtain ⟨rw_, rfl⟩ : ∃ r : Nat, row = r := ⟨row.toNat, by omega⟩
      obtain ⟨L, hL⟩ : ∃ L, pickT (tabsL n l []) p = L := ⟨_, rfl⟩
      obtain ⟨hE, rfl⟩ := pair_EE (show (evB rw_ (pickT (tabsL n l []) p) 0 0, (0 : Int)) = (E, C) from hQ)
      rw [hL] at hE
      have HE0 : Hid (evB rw_ (L.drop 0) 0 0 = E) := Lib.hid hE
      have hLl : L.length = p.length := by rw [← hL, pickT_length]
      have hru : IntKind.u64.wrap (rw_ : Int) = rw_ := IntWalk.u64_in _ (by omega)
      obtain ⟨q, hq⟩ : ∃ q, p.length = q := ⟨_, rfl⟩
      have hq8 : q ≤ 8 := by omega
      have HLl := Lib.hid (hLl.trans hq)
      have Hpos := Lib.hid (show 0 < L.length by omega)
      have HT := Lib.hid (fun W (hW : Below (w.alloc (.cells #[.int .i8 n, .slice (some ⟨b, 0, none⟩) l.length l.length, .slice (some ⟨k, 0, none⟩) p.length p.length] 31)).heap.size (w.alloc (.cells #[.int .i8 n, .slice (some ⟨b, 0, none⟩) l.length l.length, .slice (some ⟨k, 0, none⟩) p.length p.length] 31)) W) => l04Outputs_any n w.heap.size b k l p W (bx.below hW lb) ((h.below ka).below hW) hR.symm L hL)
      have BX := Lib.hid bx
      have hrow2 := hrow.2
      clear h h8 h9 hR hQ bx hL hni hO hp hLl hq hE hrow
      go_enter Try.func19, Try.ntmps19
      go_wp2_with fail
      refine HV.out.mono ?_
      rintro e w1 ⟨rfl, hb1⟩
      have T1 := kTrans ka hb1
      obtain ⟨x0, x1, x2⟩ := BX.out.below hb1 lb
      go_wp2_with fail
      refine (nRows_any n _ hn).mono ?_
      rw [pwc]
      rintro e w1' ⟨rfl, rfl⟩
      obtain ⟨pn, hpn⟩ : ∃ pn : Int, (2 : Int) ^ n = pn := ⟨_, rfl⟩
      rw [hpn] at hrow2 pw2 pw64 ⊢
      clear hpn pwc
      go_wp2_with fail
      refine (l00In_any _ 0 (pn - 1) _ true (by symm; simp; omega)).mono ?_
      rintro e w1' ⟨rfl, rfl⟩
      have HT1 := Lib.hid (HT.out _ hb1)
      clear hb1 BX lb HT
      go_wp2_with fail
      refine HT1.out.mono ?_
      rintro e w2 ⟨v, rfl, hv, hb2⟩
      have T2 := kTrans T1 hb2
      obtain ⟨va, vc, rfl⟩ := hv.form
      obtain ⟨g, o, rfl, hc, hg, hle, _⟩ := slUs_some hv.sl Hpos.out
      have HC := Lib.hid hc
      rw [HLl.out] at hle ⊢
      clear hv hb2 hc x0 x1 x2 HV
      go_wp2
      go_loopw [7, 8] (fun x i wr => ∃ (j : Nat) (a : Int), j ≤ q ∧ i = .int .i64 j ∧ x = .int .i64 a ∧ Hid (evB rw_ (L.drop j) j a = E) ∧ w2 = wr) (fun _ i _ => q - (intOf i).toNat)
      case atStart => exact ⟨0, 0, by omega, rfl, rfl, HE0, rfl⟩
      case round =>
        clear HE0
        obtain ⟨j, a, hj, rfl, rfl, hf, rfl⟩ := hrel
        by_cases hlt : j < q
        · have hlL : j < L.length := by rw [HLl.out]; exact hlt
          have ht := HC.out j hlL
          have hd : L.drop j = L[j] :: L.drop (j + 1) := List.drop_eq_getElem_cons hlL
          have hju : IntKind.u64.wrap (j : Int) = j := IntWalk.u64_in _ (by omega)
          have hq2 := hf.out
          rw [hd] at hq2
          generalize L[j] = t at ht hq2
          have hF : Hid (evB rw_ (L.drop (j + 1)) (j + 1) (stepE t a rw_ j) = E) := Lib.hid hq2
          clear hq2 hd hf
          go_wp2
          exact ⟨⟨j + 1, _, by omega, by go_num, rfl, hF, trivial⟩, by simp [intOf]; omega⟩
        · have hEa : a = E := by rw [← hf.out, List.drop_of_length_le (by rw [HLl.out]; omega)]; rfl
          subst hEa
          clear hf
          go_wp2
          exact bodyPost_ret (v := .tuple #[.int .i64 a, .int .i64 0]) (by simp [results, Try.results19, go_sem]) rfl ⟨rfl, T2⟩
    · obtain rfl : O = false := by rw [hO]; simpa using hrow
      obtain ⟨rfl, rfl⟩ := pair_EE (show ((0 : Int), (2 : Int)) = (E, C) from hQ)
      have BX := Lib.hid bx
      clear h h8 h9 hR hQ bx hni hO hp
      go_enter Try.func19, Try.ntmps19
      go_wp2_with fail
      refine HV.out.mono ?_
      rintro e w1 ⟨rfl, hb1⟩
      have T1 := kTrans ka hb1
      obtain ⟨x0, x1, x2⟩ := BX.out.below hb1 lb
      go_wp2_with fail
      refine (nRows_any n _ hn).mono ?_
      rw [pwc]
      rintro e w1' ⟨rfl, rfl⟩
      obtain ⟨pn, hpn⟩ : ∃ pn : Int, (2 : Int) ^ n = pn := ⟨_, rfl⟩
      rw [hpn] at hrow pw2 pw64 ⊢
      clear hpn pwc
      go_wp2_with fail
      refine (l00In_any _ 0 (pn - 1) _ false (by symm; simp; omega)).mono ?_
      rintro e w1' ⟨rfl, rfl⟩
      clear x0 x1 x2 HV
      go_wp2
      exact bodyPost_ret (v := .tuple #[.int .i64 0, .int .i64 2]) (by simp [results, Try.results19, go_sem]) rfl ⟨rfl, T1⟩
end Go.Proofs.Ytlbnhdnmcnfgdaa
